import Derived.Test.YtjmmdklgkcbihaaDoorWrB
import Derived.Test.YtjmmdklgkcbihaaDoorRun
namespace Go.Proofs.YtjmmdklgkcbihaaDoor
open Go.ChangeShapes Go.WideShapes Go.ChangeAt Go.RowKit

/-- A list of ints that lies apart from what a Writer writes. -/
def IntsFar (w : World) (a : Option Addr) (l : List Int) (bw : Nat) (v : Value) : Prop :=
  l ≠ [] → ∃ b off, a = some ⟨b, off, none⟩ ∧ ¬ WF bw v b ∧ ∀ k, k < l.length → w.cell? ⟨b, off + k, none⟩ = some (.int .i64 (l[k]?.getD 0))
theorem IntsFar.ints {w : World} {a : Option Addr} {l : List Int} {bw : Nat} {v : Value} (h : IntsFar w a l bw v) : IntsAt w a l := by
  intro hl
  obtain ⟨b, off, e, _, hc⟩ := h hl
  exact ⟨b, off, e, hc⟩
theorem IntsFar.step {w w' : World} {a : Option Addr} {l : List Int} {bw : Nat} {v v' : Value} (h : IntsFar w a l bw v) (k : WStep w w' bw v v') : IntsFar w' a l bw v' := by
  intro hl
  obtain ⟨b, off, e, hF, hc⟩ := h hl
  have h0 := hc 0 (List.length_pos_iff.2 hl)
  have hlt := World.block_lt_of_cell? w _ h0
  refine ⟨b, off, e, ?_, fun j hj => k.kept.cell (hc j hj) hF⟩
  rintro (e1 | e1)
  · exact hF (.inl e1)
  · rcases k.new b e1 with x | x
    · exact hF (.inr x)
    · simp at hlt; omega
theorem IntsFar.keptF {F : Nat → Prop} {w w' : World} {a : Option Addr} {l : List Int} {bw : Nat} {v : Value} (h : IntsFar w a l bw v) (k : Kept F w w') (hF : ∀ ad, a = some ad → ¬ F ad.block) : IntsFar w' a l bw v := by
  intro hl
  obtain ⟨b, off, e, hW, hc⟩ := h hl
  exact ⟨b, off, e, hW, fun j hj => k.cell (hc j hj) (hF ⟨b, off, none⟩ e)⟩

set_option maxRecDepth 20000 in
set_option maxHeartbeats 2000000 in
theorem run_any (bw : Nat) (v : Value) (xs : List Int) (l : List Int) (a : Option Addr) (c : Nat) (wd : Nat) (w : World) (h : Wr w bw v xs) (hF : IntsFar w a l bw v)
    (hw : wd ≤ 63) (h0 : ∀ x ∈ l, 0 ≤ x) (hI : IsInts l) (hx : ∀ x ∈ l, x.toNat < 2 ^ wd) (hl : l.length ≤ 17592186044416) (hr : xs.length + (l.length * wd + 7) / 8 ≤ 140737488355328) :
    Calls Tryd.prog 89 #[.pointer (some ⟨bw, 0, none⟩), .slice a l.length c, .int .i64 wd] w fun e w' => e = .returned (.tuple #[]) ∧ ∃ v', Wr w' bw v' (xs ++ le ((l.length * wd + 7) / 8) (pk wd l)) ∧ WStep w w' bw v v' := by
  obtain ⟨i0, hi, hz0, hz1, hz2⟩ := info_parts Tryd.infoB
  have HH : Hid (Wr w bw v xs) := h
  have HF : Hid (IntsFar w a l bw v) := hF
  have H0 : Hid (∀ x ∈ l, 0 ≤ x) := h0
  have HX : Hid (∀ x ∈ l, x.toNat < 2 ^ wd) := hx
  have HI : Hid (IsInts l) := hI
  clear h hF h0 hx hI
  go_enter Tryd.func89, Tryd.ntmps89
  go_wp2
  go_loopw [6, 7, 15] (fun la us i wr => ∃ (k last used : Nat) (pre : List Int) (v1 : Value), k ≤ l.length ∧ i = .int .i64 k ∧ la = .int .u8 last ∧ us = .int .i64 used ∧ RS (pk wd (l.take k)) (k * wd) last used pre ∧ Wr wr bw v1 (xs ++ pre) ∧ WStep w wr bw v v1)
    (fun _ _ i _ => l.length - (intOf i).toNat)
  case atStart => exact ⟨0, 0, 0, [], v, Nat.zero_le _, rfl, rfl, rfl, by simpa [pk] using RS.start, by rw [List.append_nil]; exact HH.out, WStep.refl _ _ _⟩
  case round =>
    obtain ⟨k, last, used, pre, v1, hk, rfl, rfl, rfl, hR, hW, hS⟩ := hrel
    have HR : Hid _ := hR
    have HW : Hid _ := hW
    have HS : Hid _ := hS
    have hu8 := hR.used_lt
    clear hR hW hS
    by_cases hlt : k < l.length
    · have hF1 := HF.out.step HS.out
      obtain ⟨b, off, rfl, hc⟩ := hF1.ints.get hlt
      have hm : l[k] ∈ l := List.getElem_mem hlt
      obtain ⟨x, hx⟩ : ∃ x : Nat, l[k]?.getD 0 = x := ⟨l[k].toNat, by rw [List.getElem?_eq_getElem hlt]; have := H0.out _ hm; simp; omega⟩
      have hxk : l[k].toNat = x := by
        rw [List.getElem?_eq_getElem hlt] at hx
        simp at hx
        omega
      have hx63 : x < 9223372036854775808 := by have := HI.out _ hm; omega
      have hxw : Hid (x < 2 ^ wd) := by have := HX.out _ hm; rw [hxk] at this; exact this
      have hpk : Hid (pk wd (l.take (k + 1)) = pk wd (l.take k) + x * 2 ^ (k * wd)) := by
        show pk wd (l.take (k + 1)) = pk wd (l.take k) + x * 2 ^ (k * wd)
        rw [List.take_succ_eq_append_getElem hlt, pk_snoc, hxk, List.length_take, Nat.min_eq_left (by omega), Nat.mul_comm wd, Nat.mul_comm x]
      rw [hx] at hc
      clear hx hm hxk hF1
      obtain ⟨wo, rfl⟩ : ∃ wo : World, wo = wr := ⟨_, rfl⟩
      go_wp2
      go_loopw [6, 7, 10, 11] (fun la us vv lf wr => ∃ (g last used : Nat) (pre : List Int) (v2 : Value), g ≤ wd ∧ vv = .int .u64 ((x / 2 ^ g : Nat) : Int) ∧ lf = .int .i64 ((wd - g : Nat) : Int) ∧ la = .int .u8 last ∧ us = .int .i64 used ∧
          RS (pk wd (l.take k) + x % 2 ^ g * 2 ^ (k * wd)) (k * wd + g) last used pre ∧ Wr wr bw v2 (xs ++ pre) ∧ WStep w wr bw v v2)
        (fun _ _ _ lf _ => (intOf lf).toNat)
      case atStart => exact ⟨0, last, used, pre, v1, Nat.zero_le _, by simp, by simp, rfl, rfl, by simpa [Nat.mod_one] using HR.out, HW.out, HS.out⟩
      case round =>
        clear HR HW HS hc hu8
        obtain ⟨g, last, used, pre, v2, hg, rfl, rfl, rfl, rfl, hR, hW, hS⟩ := hrel
        have HR : Hid _ := hR
        have HW : Hid _ := hW
        have HS : Hid _ := hS
        have hu8 := hR.used_lt
        have hl8 : last < 256 := Nat.lt_of_lt_of_le hR.last_lt (Nat.pow_le_pow_right (n := 2) (by decide) (show used ≤ 8 by omega))
        clear hR hW hS
        by_cases hgl : g < wd
        · have hvl : x / 2 ^ g < 9223372036854775808 := Nat.lt_of_le_of_lt (Nat.div_le_self _ _) hx63
          obtain ⟨y, hy⟩ : ∃ y, y = x / 2 ^ g := ⟨_, rfl⟩
          rw [← hy] at hvl ⊢
          have HY : Hid (y = x / 2 ^ g) := hy
          clear hy
          obtain ⟨lf, hlf⟩ : ∃ lf, lf = wd - g := ⟨_, rfl⟩
          rw [← hlf]
          have hlf0 : 0 < lf := by omega
          have hlf63 : lf ≤ 63 := by omega
          have HL : Hid (lf = wd - g) := hlf
          clear hlf
          have hyl : y < 2 ^ lf := by
            rw [HY.out, HL.out]
            apply Nat.div_lt_of_lt_mul
            rw [← Nat.pow_add, show g + (wd - g) = wd by omega]
            exact hxw.out
          obtain ⟨nl, hnl⟩ : ∃ nl : Nat, nl = last + (y % 2 ^ min lf (8 - used)) * 2 ^ used := ⟨_, rfl⟩
          have ho : bits .or .u8 (last : Int) (IntKind.u64.wrap ((y : Int) * 2 ^ used) % 256) = (nl : Int) := by
            rw [run_or _ _ _ hl8, (run_byte HR.out.last_lt hu8 hyl).1, hnl]
          have HN : Hid (nl = last + (y % 2 ^ min lf (8 - used)) * 2 ^ used) := hnl
          have HYL : Hid (y < 2 ^ lf) := hyl
          have hpl : Hid (pre.length = (k * wd + g) / 8) := by
            have := HR.out.pr
            show pre.length = _
            rw [this, le_length]
          clear hnl hyl
          have hroom : Hid ((xs ++ pre).length + 1 ≤ 140737488355328) := by
            show (xs ++ pre).length + 1 ≤ 140737488355328
            rw [List.length_append, hpl.out]
            have h1 : k * wd + wd ≤ l.length * wd := by
              have : (k + 1) * wd ≤ l.length * wd := Nat.mul_le_mul_right _ hlt
              rwa [Nat.add_mul, Nat.one_mul] at this
            omega
          obtain ⟨ys, hys⟩ : ∃ ys, ys = xs ++ pre := ⟨_, rfl⟩
          have HYS : Hid (ys = xs ++ pre) := hys
          rw [← hys] at HW hroom
          clear hys
          by_cases hpart : used + lf < 8
          · have hmin : lf ≤ 8 - used := by omega
            clear hroom hpl
            go_wp2
            go_roundw
            case rel =>
              have e : min lf (8 - used) = lf := by omega
              have hn := HN.out
              rw [e, HY.out] at hn
              refine ⟨g + lf, nl, used + lf, pre, v2, by have := HL.out; omega, by rw [div_more HY.out], ?_, rfl, by go_num, HR.out.part' hn hpart, HYS.out ▸ HW.out, HS.out⟩
              have := HL.out
              rw [show wd - (g + lf) = 0 by omega]; rfl
            case measure => simp [intOf]; omega
          · have hc := HW.out.cell
            have hown := HW.out.own
            have hrm := hroom.out
            clear hroom hpl
            by_cases hmin : lf ≤ 8 - used
            · have hf8 : used + lf = 8 := by omega
              have HF8 : Hid (used + lf = 8) := hf8
              have hi8 : (used : Int) + lf = 8 := by omega
              clear hf8
              go_wp2_with (at_builtin; refine wpList_append_lies _ rfl _ _ 26 rfl 0 5 i0 (.int .u8 0) 1 1 Tryd.underlying26 hi hz0 hz1 hz2 rfl (by decide) _ _ _ rfl (hown.alloc _) ⟨wr.heap.size, 0, none⟩ 1 1 (bs [(nl : Int)]) rfl rfl ?d1 ?d2 ?d3 ?d4 ?d5 ?d6 _ rfl ?_)
              case d1 => exact one_new _ _ _
              case d2 => exact bs_one _
              case d3 => decide
              case d4 => unfold maxLen; omega
              case d5 => omega
              case d6 => omega
              · intro gg cap w1 hown1 hgrow hat _
                obtain ⟨q1, q2, q3, q4⟩ := wr_grown (news := [(nl : Int)]) HW.out (Kept.alloc _ _) hown1 hgrow (hat.imp id (fun e => by omega))
                clear hown1 hgrow hat hown
                have Q3 : Hid _ := q3
                have Q4 : Hid _ := q4
                clear q3 q4
                go_wp2
                go_roundw
                case rel =>
                  have e : min lf (8 - used) = lf := by omega
                  have hn := HN.out
                  rw [e, HY.out] at hn
                  refine ⟨g + lf, 0, 0, pre ++ [(nl : Int)], _, by have := HL.out; omega, by rw [div_more HY.out], ?_, rfl, rfl, HR.out.full' hn HF8.out, ?_, HS.out.trans Q4.out⟩
                  · have := HL.out
                    rw [show wd - (g + lf) = 0 by omega]; rfl
                  · rw [← List.append_assoc, ← HYS.out]; exact Q3.out
                case measure => simp [intOf]; omega
            · go_wp2_with (at_builtin; refine wpList_append_lies _ rfl _ _ 26 rfl 0 5 i0 (.int .u8 0) 1 1 Tryd.underlying26 hi hz0 hz1 hz2 rfl (by decide) _ _ _ rfl (hown.alloc _) ⟨wr.heap.size, 0, none⟩ 1 1 (bs [(nl : Int)]) rfl rfl ?e1 ?e2 ?e3 ?e4 ?e5 ?e6 _ rfl ?_)
              case e1 => exact one_new _ _ _
              case e2 => exact bs_one _
              case e3 => decide
              case e4 => unfold maxLen; omega
              case e5 => omega
              case e6 => omega
              · intro gg cap w1 hown1 hgrow hat _
                obtain ⟨q1, q2, q3, q4⟩ := wr_grown (news := [(nl : Int)]) HW.out (Kept.alloc _ _) hown1 hgrow (hat.imp id (fun e => by omega))
                clear hown1 hgrow hat hown
                have Q3 : Hid _ := q3
                have Q4 : Hid _ := q4
                clear q3 q4
                go_wp2
                go_roundw
                case rel =>
                  have e : min lf (8 - used) = 8 - used := by omega
                  have hn := HN.out
                  rw [e, HY.out] at hn
                  refine ⟨g + (8 - used), 0, 0, pre ++ [(nl : Int)], _, by have := HL.out; omega, ?_, ?_, rfl, rfl, HR.out.full' hn (by omega), ?_, HS.out.trans Q4.out⟩
                  · rw [div_more HY.out]
                  · (have := HL.out; rw [show ((wd - (g + (8 - used)) : Nat) : Int) = (lf : Int) - (8 - used) by omega])
                  · rw [← List.append_assoc, ← HYS.out]; exact Q3.out
                case measure => simp [intOf]; omega
        · have hgw : g = wd := by omega
          subst hgw
          have hz : x % 2 ^ g = x := Nat.mod_eq_of_lt hxw.out
          have HZ : Hid (x % 2 ^ g = x) := hz
          clear hz
          rw [Nat.sub_self]
          go_wp2
          go_roundw
          case rel =>
            refine ⟨k + 1, last, used, pre, v2, by omega, by go_num, rfl, rfl, ?_, HW.out, HS.out⟩
            have q := HR.out
            rw [HZ.out, ← hpk.out] at q
            rw [Nat.add_mul, Nat.one_mul]
            exact q
          case measure => simp [intOf]; omega
    · have hkl : k = l.length := by omega
      subst hkl
      have hR := HR.out
      rw [List.take_length] at hR
      by_cases hu : used = 0
      · subst hu
        have e := hR.close0
        have HR2 : Hid (pre = le ((l.length * wd + 7) / 8) (pk wd l)) := e
        clear hR e
        go_wp2
        go_end0
        exact ⟨rfl, v1, HR2.out ▸ HW.out, HS.out⟩
      · have e := hR.close (by omega)
        have hl8 : last < 256 := Nat.lt_of_lt_of_le hR.last_lt (Nat.pow_le_pow_right (n := 2) (by decide) (show used ≤ 8 by omega))
        have hpl : pre.length + 1 = (l.length * wd + 7) / 8 := by
          have := congrArg List.length e
          rw [le_length] at this
          simpa using this
        have hrm : (xs ++ pre).length + 1 ≤ 140737488355328 := by rw [List.length_append]; omega
        have HE : Hid (pre ++ [(last : Int)] = le ((l.length * wd + 7) / 8) (pk wd l)) := e
        clear hR e hpl
        obtain ⟨ys, hys⟩ : ∃ ys, ys = xs ++ pre := ⟨_, rfl⟩
        have HYS : Hid (ys = xs ++ pre) := hys
        rw [← hys] at HW hrm
        clear hys
        have hc := HW.out.cell
        have hown := HW.out.own
        go_wp2_with (at_builtin; refine wpList_append_lies _ rfl _ _ 26 rfl 0 5 i0 (.int .u8 0) 1 1 Tryd.underlying26 hi hz0 hz1 hz2 rfl (by decide) _ _ _ rfl (hown.alloc _) ⟨wr.heap.size, 0, none⟩ 1 1 (bs [(last : Int)]) rfl rfl ?g1 ?g2 ?g3 ?g4 ?g5 ?g6 _ rfl ?_)
        case g1 => exact one_new _ _ _
        case g2 => exact bs_one _
        case g3 => decide
        case g4 => unfold maxLen; omega
        case g5 => omega
        case g6 => omega
        · intro gg cap w1 hown1 hgrow hat _
          obtain ⟨q1, q2, q3, q4⟩ := wr_grown (news := [(last : Int)]) HW.out (Kept.alloc _ _) hown1 hgrow (hat.imp id (fun e => by omega))
          clear hown1 hgrow hat hown
          have Q3 : Hid _ := q3
          have Q4 : Hid _ := q4
          clear q3 q4
          go_wp2
          go_end0
          refine ⟨rfl, _, ?_, HS.out.trans Q4.out⟩
          rw [← HE.out, ← List.append_assoc, ← HYS.out]
          exact Q3.out
end Go.Proofs.YtjmmdklgkcbihaaDoor
