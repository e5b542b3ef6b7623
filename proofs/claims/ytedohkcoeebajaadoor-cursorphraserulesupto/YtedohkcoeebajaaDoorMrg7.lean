import Derived.Test.YtedohkcoeebajaaDoorMrg6
import Derived.Test.YtedohkcoeebajaaDoorShg
import Derived.Test.YtedohkcoeebajaaDoorMrg10
import Derived.Test.YtedohkcoeebajaaDoorMrg5
namespace Go.Proofs.YtedohkcoeebajaaDoor
open Go.ChangeShapes Go.WideShapes Go.ChangeAt Go.RowKit

/-- Spots as they lie in memory: a place and a word each. -/
def SpAt (w : World) (a : Option Addr) (L : List (Int × Nat)) : Prop :=
  L ≠ [] → ∃ b off, a = some ⟨b, off, none⟩ ∧ ∀ k (h : k < L.length), w.cell? ⟨b, off + k * 2, none⟩ = some (.int .i64 L[k].1) ∧ w.cell? ⟨b, off + k * 2 + 1, none⟩ = some (.int .i64 (L[k].2 : Nat))
theorem SpAt.kept {w w' : World} {a : Option Addr} {L : List (Int × Nat)} (h : SpAt w a L) (k : Kept (fun _ => False) w w') : SpAt w' a L := by
  intro hne
  obtain ⟨b, off, e, hc⟩ := h hne
  exact ⟨b, off, e, fun j hj => ⟨k.cell (hc j hj).1 (fun f => f), k.cell (hc j hj).2 (fun f => f)⟩⟩
/-- How many spots of each word are inside, how many words are met, and how far the window goes. -/
structure Wn where
  ins : List Int
  met : Int
  en : Nat
def inn (L : List (Int × Nat)) (lim : Int) : Nat → Wn → Wn
  | 0, s => s
  | f + 1, s => match L[s.en]? with
    | none => s
    | some x => if x.1 ≤ lim then inn L lim f ⟨s.ins.set x.2 ((s.ins[x.2]?).getD 0 + 1), if (s.ins[x.2]?).getD 0 = 0 then s.met + 1 else s.met, s.en + 1⟩ else s
def fre (L : List (Int × Nat)) (i : Nat) (x : Int × Nat) : Bool := decide (i = 0) || decide (((L[i - 1]?).getD (0, 0)).1 ≠ x.1)
def out (L : List (Int × Nat)) (wd : Nat) (sl : Int) : Nat → Wn × Nat
  | 0 => (⟨List.replicate wd 0, 0, 0⟩, 0)
  | i + 1 => match L[i]? with
    | none => out L wd sl i
    | some x =>
      let s := inn L (x.1 + sl) (L.length - (out L wd sl i).1.en) (out L wd sl i).1
      let v := (s.ins[x.2]?).getD 0 - 1
      (⟨s.ins.set x.2 v, if v = 0 then s.met - 1 else s.met, s.en⟩, if fre L i x && decide (s.met = wd) then (out L wd sl i).2 + 1 else (out L wd sl i).2)
def cbg (L : List (Int × Nat)) (wd : Nat) (sl : Int) : Nat := (out L wd sl L.length).2
/-- How great the numbers are after i rounds. -/
structure Bd (n wd i : Nat) (s : Wn) : Prop where
  en : s.en ≤ n
  len : s.ins.length = wd
  ins : ∀ v ∈ s.ins, -(i : Int) ≤ v ∧ v ≤ (s.en : Int)
  met : -(i : Int) ≤ s.met ∧ s.met ≤ (s.en : Int)
theorem Bd.at {n wd i : Nat} {s : Wn} (h : Bd n wd i s) {k : Nat} (hk : k < wd) : s.ins[k]? = some ((s.ins[k]?).getD 0) ∧ -(i : Int) ≤ (s.ins[k]?).getD 0 ∧ (s.ins[k]?).getD 0 ≤ (s.en : Int) := by
  have hl : k < s.ins.length := by rw [h.len]; exact hk
  rw [List.getElem?_eq_getElem hl]
  exact ⟨rfl, h.ins _ (List.getElem_mem hl)⟩
theorem mem_set_or {l : List Int} {k : Nat} {x y : Int} (h : y ∈ l.set k x) : y ∈ l ∨ y = x := (List.mem_or_eq_of_mem_set h)
theorem Bd.inner {n wd i : Nat} {s : Wn} (h : Bd n wd i s) (x : Nat) (hx : x < wd) (he : s.en < n) : Bd n wd i ⟨s.ins.set x ((s.ins[x]?).getD 0 + 1), if (s.ins[x]?).getD 0 = 0 then s.met + 1 else s.met, s.en + 1⟩ := by
  have h1 := h.at hx
  have h2 := h.met
  refine ⟨he, by rw [List.length_set]; exact h.len, fun v hv => ?_, ?_⟩
  · rcases mem_set_or hv with q | q
    · have := h.ins v q; simp only; omega
    · simp only; omega
  · simp only; split <;> omega
theorem Bd.outer {n wd i : Nat} {s : Wn} (h : Bd n wd i s) (x : Nat) (hx : x < wd) : Bd n wd (i + 1) ⟨s.ins.set x ((s.ins[x]?).getD 0 - 1), if (s.ins[x]?).getD 0 - 1 = 0 then s.met - 1 else s.met, s.en⟩ := by
  have h1 := h.at hx
  have h2 := h.met
  refine ⟨h.en, by rw [List.length_set]; exact h.len, fun v hv => ?_, ?_⟩
  · rcases mem_set_or hv with q | q
    · have := h.ins v q; simp only; omega
    · simp only; omega
  · simp only; split <;> omega
theorem inn_step {L : List (Int × Nat)} {lim : Int} {s : Wn} (h : s.en < L.length) (hle : L[s.en].1 ≤ lim) : inn L lim (L.length - s.en) s = inn L lim (L.length - (s.en + 1)) ⟨s.ins.set L[s.en].2 ((s.ins[L[s.en].2]?).getD 0 + 1), if (s.ins[L[s.en].2]?).getD 0 = 0 then s.met + 1 else s.met, s.en + 1⟩ := by
  obtain ⟨f, hf⟩ : ∃ f, L.length - s.en = f + 1 := ⟨L.length - s.en - 1, by omega⟩
  rw [hf, show L.length - (s.en + 1) = f by omega]
  conv => lhs; unfold inn
  rw [List.getElem?_eq_getElem h]
  simp only [if_pos hle]
theorem inn_stop {L : List (Int × Nat)} {lim : Int} {s : Wn} (h : s.en = L.length ∨ ∃ hl : s.en < L.length, ¬ L[s.en].1 ≤ lim) : inn L lim (L.length - s.en) s = s := by
  rcases h with h | ⟨hl, hn⟩
  · rw [show L.length - s.en = 0 by omega]; rfl
  · obtain ⟨f, hf⟩ : ∃ f, L.length - s.en = f + 1 := ⟨L.length - s.en - 1, by omega⟩
    rw [hf]
    unfold inn
    rw [List.getElem?_eq_getElem hl]
    simp only [if_neg hn]
theorem out_step {L : List (Int × Nat)} {wd : Nat} {sl : Int} {i : Nat} {s s2 : Wn} {cn : Nat} {x : Int × Nat} (h : (s, cn) = out L wd sl i) (hx : L[i]? = some x) (h2 : inn L (x.1 + sl) (L.length - s.en) s = s2) :
    out L wd sl (i + 1) = (⟨s2.ins.set x.2 ((s2.ins[x.2]?).getD 0 - 1), if (s2.ins[x.2]?).getD 0 - 1 = 0 then s2.met - 1 else s2.met, s2.en⟩, if fre L i x && decide (s2.met = wd) then cn + 1 else cn) := by
  conv => lhs; unfold out
  rw [hx, ← h]
  simp only [h2]
theorem madeI (n : Nat) : madeCells #[Value.int .i64 0] n = (is (List.replicate n (0 : Int))).toArray := by
  apply Array.ext
  · rw [size_madeCells, List.size_toArray, is_len, List.length_replicate]
  · intro i h1 h2
    simp [madeCells, is, Nat.mod_one]
/-- make([]int, n). -/
theorem make_ints (n : Nat) (W : World) (hn : n ≤ 1099511627776) :
    (Instr.makeSlice 23 (.int .i64 (n : Int)) (.int .i64 (n : Int))).run Tryd.prog W = .ok (.slice (some ⟨W.heap.size, 0, none⟩) n n) (W.alloc (.cells (is (List.replicate n (0 : Int))).toArray 3)) := by
  obtain ⟨i0, hi, hz0, hz1, hz2⟩ := info_partsP Tryd.infoI
  have q := run_make (P := Tryd.prog) W 23 3 i0 (.int .i64 0) Tryd.underlying23 hi hz0 .i64 .i64 (n : Int) (n : Int) (by omega) (by omega) (by rw [hz2]; omega) (by omega)
  rw [hz1, Nat.mul_one, Int.toNat_natCast] at q
  rw [q, show (Value.int .i64 0).cells = #[Value.int .i64 0] from rfl, madeI]
theorem ints_own (n : Nat) (W : World) (hn : n ≤ 1099511627776) : Gro W (W.alloc (.cells (is (List.replicate n (0 : Int))).toArray 3)) 3 1 (.slice (some ⟨W.heap.size, 0, none⟩) n n) n (is (List.replicate n 0)) := by
  refine ⟨⟨by rw [is_len, List.length_replicate]; omega, .inr ⟨W.heap.size, n, (is (List.replicate n 0)).toArray, rfl, Nat.le_refl _, heap_alloc_new W _, Nat.le_refl _, by unfold maxLen; omega, by simp [is_len], ?_⟩⟩, Kept.alloc W _⟩
  rw [List.toList_toArray, List.take_of_length_le (by rw [is_len, List.length_replicate]; omega)]
theorem is_get {l : List Int} {k : Nat} {x : Int} (h : l[k]? = some x) : (is l)[k]? = some (.int .i64 x) := by simp [is, h]
theorem is_set (l : List Int) (k : Nat) (x : Int) : (is l).set k (.int .i64 x) = is (l.set k x) := by simp [is, List.map_set]
set_option maxRecDepth 20000 in
set_option maxHeartbeats 8000000 in
theorem countBegins_any (L : List (Int × Nat)) (a : Option Addr) (c wd : Nat) (sl : Int) (W : World) (hS : SpAt W a L) (hl : L.length ≤ 1099511627776) (hw : wd ≤ 1099511627776) (hlw : ∀ x ∈ L, x.2 < wd) (hat : ∀ x ∈ L, -2147483648 ≤ x.1 ∧ x.1 ≤ 2147483648) (hsl : 0 ≤ sl ∧ sl ≤ 2147483648) :
    Calls Tryd.prog 18 #[.slice a L.length c, .int .i64 wd, .int .i64 sl] W fun e w' => e = .returned (.int .i64 (cbg L wd sl : Nat)) ∧ Kept (fun _ => False) W w' := by
  have HS := hideP hS
  have HLW := hideP hlw
  have HAT := hideP hat
  obtain ⟨n, hn⟩ : ∃ n, n = L.length := ⟨_, rfl⟩
  have HN := hideP hn
  rw [← hn] at hl ⊢
  clear hS hlw hat hn
  go_enter Tryd.func18, Tryd.ntmps18
  have mk := make_ints wd W hw
  have HG0 := hideP (ints_own wd W hw)
  go_wp2
  generalize W.heap.size = g at *
  generalize W.alloc (.cells (is (List.replicate wd (0 : Int))).toArray 3) = V0 at *
  clear mk
  go_loopw [8, 9, 10, 19] (fun s8 s9 s10 s19 wr => ∃ (i : Nat) (s : Wn) (cn : Nat), i ≤ n ∧ cn ≤ i ∧ s19 = .int .i64 i ∧ s8 = .int .i64 s.met ∧ s9 = .int .i64 s.en ∧ s10 = .int .i64 cn ∧ Hid ((s, cn) = out L wd sl i) ∧ Hid (Bd n wd i s) ∧ Hid (Gro W wr 3 1 (.slice (some ⟨g, 0, none⟩) wd wd) wd (is s.ins))) (fun _ _ _ s19 _ => n - (intOf s19).toNat)
  case atStart => exact ⟨0, ⟨List.replicate wd 0, 0, 0⟩, 0, by omega, by omega, rfl, rfl, rfl, rfl, hideP rfl, hideP ⟨Nat.zero_le _, List.length_replicate .., fun v hv => by rw [List.eq_of_mem_replicate hv]; simp, by simp⟩, HG0⟩
  case round =>
    obtain ⟨i, s, cn, hi, hcn, rfl, rfl, rfl, rfl, HO, HB, HG⟩ := hrel
    by_cases hlt : i < n
    · have hil : i < L.length := by rw [← HN.out]; exact hlt
      obtain ⟨b, off, rfl, hc⟩ := HS.out (by intro e; rw [e] at hil; simp at hil)
      obtain ⟨x, hx⟩ : ∃ x, x = L[i] := ⟨_, rfl⟩
      obtain ⟨z0, z1⟩ := hc i hil
      rw [← hx] at z0 z1
      have y0 := HG.out.kept.cell z0 (fun f => f)
      have y1 := HG.out.kept.cell z1 (fun f => f)
      have HX := hideP hx
      have hxm : x ∈ L := by rw [hx]; exact List.getElem_mem hil
      have hxw := HLW.out x hxm
      have hxa := HAT.out x hxm
      have hii : (i : Int) < (n : Int) := by omega
      have HC := hideP hc
      obtain ⟨hxa1, hxa2⟩ := hxa
      clear hx z0 z1 hc hxm
      have HG1 := hideP (HG.out.later (Kept.alloc wr (.cells #[.int .i64 x.1, .int .i64 (x.2 : Nat)] 65)))
      have gf := heap_alloc_new wr (.cells #[.int .i64 x.1, .int .i64 (x.2 : Nat)] 65)
      have hfg : wr.heap.size ≠ g := by
        have := (HG.out.own.lt g rfl).2
        omega
      obtain ⟨x1, hx1⟩ : ∃ x1, x1 = x.1 := ⟨_, rfl⟩
      obtain ⟨x2, hx2⟩ : ∃ x2, x2 = x.2 := ⟨_, rfl⟩
      rw [← hx1] at y0 gf HG1
      rw [← hx2] at y1 gf HG1
      rw [← hx1] at hxa1 hxa2
      rw [← hx2] at hxw
      have HX1 := hideP hx1
      have HX2 := hideP hx2
      clear hx1 hx2 HG
      go_wp2
      generalize wr.heap.size = fb at *
      generalize wr.alloc (.cells #[.int .i64 x1, .int .i64 (x2 : Nat)] 65) = V1 at *
      clear y0 y1
      obtain ⟨lim, hlim⟩ : ∃ lim, lim = x1 + sl := ⟨_, rfl⟩
      have HLIM := hideP hlim
      have HIN0 : Hid (inn L lim (L.length - s.en) s = inn L lim (L.length - s.en) s) := hideP rfl
      have h8 : s.en ≤ n := HB.out.en
      go_loopw [8, 9] (fun s8 s9 w2 => ∃ (s2 : Wn), s2.en ≤ n ∧ s8 = .int .i64 s2.met ∧ s9 = .int .i64 s2.en ∧ Hid (inn L lim (L.length - s.en) s = inn L lim (L.length - s2.en) s2) ∧ Hid (Bd n wd i s2) ∧ Hid (Gro W w2 3 1 (.slice (some ⟨g, 0, none⟩) wd wd) wd (is s2.ins)) ∧ Hid (w2.heap[fb]? = some (.cells #[.int .i64 x1, .int .i64 (x2 : Nat)] 65 (0, 0)))) (fun _ s9 _ => n - (intOf s9).toNat)
      case atStart => exact ⟨s, h8, rfl, rfl, HIN0, HB, HG1, hideP gf⟩
      case round =>
        obtain ⟨s2, hs2, rfl, rfl, HI2, HB2, HG2, HF2⟩ := hrel
        have v0 : wr.cell? ⟨fb, 0, none⟩ = some (.int .i64 x1) := by rw [cell_of_row _ fb 0 _ _ _ HF2.out]; rfl
        have v1 : wr.cell? ⟨fb, 1, none⟩ = some (.int .i64 (x2 : Nat)) := by rw [cell_of_row _ fb 1 _ _ _ HF2.out]; rfl
        have hlm : x1 + sl = lim := hlim.symm
        clear hlim
        by_cases hen : s2.en < n
        · have hel : s2.en < L.length := by rw [← HN.out]; exact hen
          obtain ⟨y, hy⟩ : ∃ y, y = L[s2.en] := ⟨_, rfl⟩
          obtain ⟨q0, q1⟩ := HC.out s2.en hel
          rw [← hy] at q0 q1
          have w0 := HG2.out.kept.cell q0 (fun f => f)
          have w1 := HG2.out.kept.cell q1 (fun f => f)
          have hym : y ∈ L := by rw [hy]; exact List.getElem_mem hel
          have hyw := HLW.out y hym
          have HY := hideP hy
          have hee : decide ((s2.en : Int) < (n : Int)) = true := decide_eq_true (by omega)
          have hee2 : (s2.en : Int) < (n : Int) := by omega
          obtain ⟨y1, hy1⟩ : ∃ y1, y1 = y.1 := ⟨_, rfl⟩
          obtain ⟨y2, hy2⟩ : ∃ y2, y2 = y.2 := ⟨_, rfl⟩
          rw [← hy1] at w0
          rw [← hy2] at w1 hyw
          have HY1 := hideP hy1
          have HY2 := hideP hy2
          clear hy q0 q1 hym hy1 hy2
          by_cases hle : y1 ≤ lim
          · have hld : decide (y1 ≤ lim) = true := decide_eq_true hle
            have hvv := HB2.out.at hyw
            obtain ⟨v, hv⟩ : ∃ v, v = (s2.ins[y2]?).getD 0 := ⟨_, rfl⟩
            rw [← hv] at hvv
            have HV := hideP hv
            obtain ⟨hv1, hv2, hv3⟩ := hvv
            have HBi := hideP (HB2.out.inner y2 hyw hen)
            rw [← hv] at HBi
            have HIi : Hid (inn L lim (L.length - s.en) s = inn L lim (L.length - (s2.en + 1)) ⟨s2.ins.set y2 (v + 1), if v = 0 then s2.met + 1 else s2.met, s2.en + 1⟩) := hideP (by
              rw [HI2.out, inn_step hel (by rw [← HY.out, ← HY1.out]; exact hle), ← HY.out, ← HY2.out, HV.out])
            have hmb := HB2.out.met
            obtain ⟨hmb1, hmb2⟩ := hmb
            clear hv
            go_wp2_with fail
            go_quiet (fail)
            have HG3 := hideP (HG2.out.later (Kept.drewN wr nq))
            have HF3 := hideP ((Kept.drewN wr nq).heap HF2.out (fun f => f))
            have w1' := (Kept.drewN wr nq).cell w1 (fun f => f)
            generalize wr.drewN nq = V3 at *
            have u0 : V3.cell? ⟨g, y2, none⟩ = some (.int .i64 v) := HG3.out.at (is_get hv1)
            have hset := HG3.out.set y2 (.int .i64 (v + 1))
            rw [is_set] at hset
            have u1 := hset.2
            have HG4 := hideP hset.1
            have HF4 : Hid ((V3.setCell ⟨g, y2, none⟩ (.int .i64 (v + 1))).heap[fb]? = some (.cells #[.int .i64 x1, .int .i64 (x2 : Nat)] 65 (0, 0))) := hideP ((Kept.setCell V3 ⟨g, y2, none⟩ (.int .i64 (v + 1))).heap HF3.out hfg)
            clear hset hv1 HG3 HF3 HG2 HF2 v0 v1 w0 w1
            by_cases hz : v = 0
            · have hzb : (v == 0) = true := by rw [beq_iff_eq]; exact hz
              have HZ := hideP hz
              clear hz
              go_wp2
              go_roundw
              case rel => exact ⟨⟨s2.ins.set y2 (v + 1), if v = 0 then s2.met + 1 else s2.met, s2.en + 1⟩, by simp only; omega, by rw [if_pos HZ.out], by go_num, HIi, HBi, HG4, HF4⟩
              case measure => simp [intOf]; omega
            · have hzb : (v == 0) = false := by rw [beq_eq_false_iff_ne]; exact hz
              go_wp2
              go_roundw
              case rel => exact ⟨⟨s2.ins.set y2 (v + 1), if v = 0 then s2.met + 1 else s2.met, s2.en + 1⟩, by simp only; omega, by rw [if_neg hz], by go_num, HIi, HBi, HG4, HF4⟩
              case measure => simp [intOf]; omega
          · have hld : decide (y1 ≤ lim) = false := decide_eq_false hle
            have HSTOP : Hid (inn L lim (L.length - s.en) s = s2) := hideP (by rw [HI2.out]; exact inn_stop (.inr ⟨hel, by rw [← HY.out, ← HY1.out]; exact hle⟩))
            go_wp2_with fail
            go_quiet (fail)
            have HG3 := hideP (HG2.out.later (Kept.drewN wr nq))
            have v0' := (Kept.drewN wr nq).cell v0 (fun f => f)
            have v1' := (Kept.drewN wr nq).cell v1 (fun f => f)
            clear HG2 HF2 v0 v1 w0 w1
            generalize wr.drewN nq = V3 at *
            have HXI : Hid (L[i]? = some x) := hideP (by rw [List.getElem?_eq_getElem hil, HX.out])
            have HIS : Hid (inn L (x.1 + sl) (L.length - s.en) s = s2) := hideP (by rw [← HX1.out, ← HLIM.out]; exact HSTOP.out)
            by_cases hi0 : i = 0
            · have e0 : ((i : Int) == 0) = true := by rw [beq_iff_eq]; omega
              obtain ⟨fr, hfr⟩ : ∃ fr, fr = true := ⟨_, rfl⟩
              have HFR : Hid (fr = fre L i x) := hideP (by rw [hfr]; unfold fre; simp [hi0])
              go_wp2_with fail
              go_quiet (fail)
              have HG4 := hideP (HG3.out.later (Kept.drewN V3 nq))
              have w1 := (Kept.drewN V3 nq).cell v1' (fun f => f)
              generalize V3.drewN nq = V4 at *
              rw [← hfr]
              clear hfr HG3 v0' v1'
              have hvv := HB2.out.at hxw
              obtain ⟨v, hv⟩ : ∃ v, v = (s2.ins[x2]?).getD 0 := ⟨_, rfl⟩
              rw [← hv] at hvv
              have HV := hideP hv
              obtain ⟨hv1, hv2, hv3⟩ := hvv
              have u0 : V4.cell? ⟨g, x2, none⟩ = some (.int .i64 v) := HG4.out.at (is_get hv1)
              have hset := HG4.out.set x2 (.int .i64 (v - 1))
              rw [is_set] at hset
              have u1 := hset.2
              have HG5 := hideP hset.1
              have HBo := hideP (HB2.out.outer x2 hxw)
              rw [← hv] at HBo
              have HST := hideP (out_step HO.out HXI.out HIS.out)
              clear hv hset hv1
              obtain ⟨hmb1, hmb2⟩ := HB2.out.met
              have hmv : (s2.met == (wd : Int)) = decide (s2.met = (wd : Int)) := rfl
              by_cases hz : v - 1 = 0
              all_goals
                have hzb : (v - 1 == 0) = decide (v - 1 = 0) := rfl
                by_cases hm : s2.met = (wd : Int)
                all_goals
                  cases fr
                  all_goals
                    first | rw [decide_eq_true hz] at hzb | rw [decide_eq_false hz] at hzb
                    first | rw [decide_eq_true hm] at hmv | rw [decide_eq_false hm] at hmv
                    have HZ := hideP hz
                    have HM := hideP hm
                    clear hz hm
                    go_wp2
                    go_roundw
                    case rel =>
                      refine ⟨i + 1, ⟨s2.ins.set x2 (v - 1), if v - 1 = 0 then s2.met - 1 else s2.met, s2.en⟩, if fre L i x && decide (s2.met = (wd : Int)) then cn + 1 else cn, by omega, by split <;> omega, by go_num, ?_, rfl, ?_, hideP ?_, HBo, HG5⟩
                      · first | rw [if_pos HZ.out] | rw [if_neg HZ.out]
                      · first
                          | rw [if_pos (by rw [← HFR.out]; simp [HM.out])]; go_num
                          | rw [if_neg (by rw [← HFR.out]; simp [HM.out])]
                      · rw [HST.out, ← HX2.out, HV.out]
                    case measure => simp [intOf]; omega

            · obtain ⟨j, rfl⟩ : ∃ j, i = j + 1 := ⟨i - 1, by omega⟩
              have e0 : (((j + 1 : Nat) : Int) == 0) = false := by rw [beq_eq_false_iff_ne]; omega
              have e0' : ((j : Int) + 1 == 0) = false := by rw [beq_eq_false_iff_ne]; omega
              have hjl : j < L.length := by omega
              have jc := HG3.out.kept.cell (HC.out j hjl).1 (fun f => f)
              have hjn : (j : Int) < (n : Int) := by omega
              obtain ⟨pj, hpj⟩ : ∃ pj, pj = L[j].1 := ⟨_, rfl⟩
              rw [← hpj] at jc
              obtain ⟨fr, hfr⟩ : ∃ fr, fr = (pj != x1) := ⟨_, rfl⟩
              have HFR : Hid (fr = fre L (j + 1) x) := hideP (by rw [hfr, hpj]; unfold fre; rw [Nat.add_sub_cancel, List.getElem?_eq_getElem hjl, HX1.out]; simp [bne]; rfl)
              have HFQ := hideP hfr
              clear hpj hfr
              go_wp2_with fail
              go_quiet (fail)
              have HG4 := hideP (HG3.out.later (Kept.drewN V3 nq))
              have w1 := (Kept.drewN V3 nq).cell v1' (fun f => f)
              generalize V3.drewN nq = V4 at *
              rw [← HFQ.out]
              clear HG3 v0' v1' jc HFQ
              have hvv := HB2.out.at hxw
              obtain ⟨v, hv⟩ : ∃ v, v = (s2.ins[x2]?).getD 0 := ⟨_, rfl⟩
              rw [← hv] at hvv
              have HV := hideP hv
              obtain ⟨hv1, hv2, hv3⟩ := hvv
              have u0 : V4.cell? ⟨g, x2, none⟩ = some (.int .i64 v) := HG4.out.at (is_get hv1)
              have hset := HG4.out.set x2 (.int .i64 (v - 1))
              rw [is_set] at hset
              have u1 := hset.2
              have HG5 := hideP hset.1
              have HBo := hideP (HB2.out.outer x2 hxw)
              rw [← hv] at HBo
              have HST := hideP (out_step HO.out HXI.out HIS.out)
              clear hv hset hv1
              obtain ⟨hmb1, hmb2⟩ := HB2.out.met
              have hmv : (s2.met == (wd : Int)) = decide (s2.met = (wd : Int)) := rfl
              by_cases hz : v - 1 = 0
              all_goals
                have hzb : (v - 1 == 0) = decide (v - 1 = 0) := rfl
                by_cases hm : s2.met = (wd : Int)
                all_goals
                  cases fr
                  all_goals
                    first | rw [decide_eq_true hz] at hzb | rw [decide_eq_false hz] at hzb
                    first | rw [decide_eq_true hm] at hmv | rw [decide_eq_false hm] at hmv
                    have HZ := hideP hz
                    have HM := hideP hm
                    clear hz hm
                    go_wp2
                    go_roundw
                    case rel =>
                      refine ⟨j + 1 + 1, ⟨s2.ins.set x2 (v - 1), if v - 1 = 0 then s2.met - 1 else s2.met, s2.en⟩, if fre L (j + 1) x && decide (s2.met = (wd : Int)) then cn + 1 else cn, by omega, by split <;> omega, by go_num, ?_, rfl, ?_, hideP ?_, HBo, HG5⟩
                      · first | rw [if_pos HZ.out] | rw [if_neg HZ.out]
                      · first
                          | rw [if_pos (by rw [← HFR.out]; simp [HM.out])]; go_num
                          | rw [if_neg (by rw [← HFR.out]; simp [HM.out])]
                      · rw [HST.out, ← HX2.out, HV.out]
                    case measure => simp [intOf]; omega
        · have hen2 : s2.en = n := by omega
          have hee : decide ((s2.en : Int) < (n : Int)) = false := decide_eq_false (by omega)
          have HSTOP : Hid (inn L lim (L.length - s.en) s = s2) := hideP (by rw [HI2.out]; exact inn_stop (.inl (by rw [hen2, HN.out])))
          clear hen2
          go_wp2_with fail
          go_quiet (fail)
          have HG3 := hideP (HG2.out.later (Kept.drewN wr nq))
          have v0' := (Kept.drewN wr nq).cell v0 (fun f => f)
          have v1' := (Kept.drewN wr nq).cell v1 (fun f => f)
          clear HG2 HF2 v0 v1
          generalize wr.drewN nq = V3 at *
          have HXI : Hid (L[i]? = some x) := hideP (by rw [List.getElem?_eq_getElem hil, HX.out])
          have HIS : Hid (inn L (x.1 + sl) (L.length - s.en) s = s2) := hideP (by rw [← HX1.out, ← HLIM.out]; exact HSTOP.out)
          by_cases hi0 : i = 0
          · have e0 : ((i : Int) == 0) = true := by rw [beq_iff_eq]; omega
            obtain ⟨fr, hfr⟩ : ∃ fr, fr = true := ⟨_, rfl⟩
            have HFR : Hid (fr = fre L i x) := hideP (by rw [hfr]; unfold fre; simp [hi0])
            go_wp2_with fail
            go_quiet (fail)
            have HG4 := hideP (HG3.out.later (Kept.drewN V3 nq))
            have w1 := (Kept.drewN V3 nq).cell v1' (fun f => f)
            generalize V3.drewN nq = V4 at *
            rw [← hfr]
            clear hfr HG3 v0' v1'
            have hvv := HB2.out.at hxw
            obtain ⟨v, hv⟩ : ∃ v, v = (s2.ins[x2]?).getD 0 := ⟨_, rfl⟩
            rw [← hv] at hvv
            have HV := hideP hv
            obtain ⟨hv1, hv2, hv3⟩ := hvv
            have u0 : V4.cell? ⟨g, x2, none⟩ = some (.int .i64 v) := HG4.out.at (is_get hv1)
            have hset := HG4.out.set x2 (.int .i64 (v - 1))
            rw [is_set] at hset
            have u1 := hset.2
            have HG5 := hideP hset.1
            have HBo := hideP (HB2.out.outer x2 hxw)
            rw [← hv] at HBo
            have HST := hideP (out_step HO.out HXI.out HIS.out)
            clear hv hset hv1
            obtain ⟨hmb1, hmb2⟩ := HB2.out.met
            have hmv : (s2.met == (wd : Int)) = decide (s2.met = (wd : Int)) := rfl
            by_cases hz : v - 1 = 0
            all_goals
              have hzb : (v - 1 == 0) = decide (v - 1 = 0) := rfl
              by_cases hm : s2.met = (wd : Int)
              all_goals
                cases fr
                all_goals
                  first | rw [decide_eq_true hz] at hzb | rw [decide_eq_false hz] at hzb
                  first | rw [decide_eq_true hm] at hmv | rw [decide_eq_false hm] at hmv
                  have HZ := hideP hz
                  have HM := hideP hm
                  clear hz hm
                  go_wp2
                  go_roundw
                  case rel =>
                    refine ⟨i + 1, ⟨s2.ins.set x2 (v - 1), if v - 1 = 0 then s2.met - 1 else s2.met, s2.en⟩, if fre L i x && decide (s2.met = (wd : Int)) then cn + 1 else cn, by omega, by split <;> omega, by go_num, ?_, rfl, ?_, hideP ?_, HBo, HG5⟩
                    · first | rw [if_pos HZ.out] | rw [if_neg HZ.out]
                    · first
                        | rw [if_pos (by rw [← HFR.out]; simp [HM.out])]; go_num
                        | rw [if_neg (by rw [← HFR.out]; simp [HM.out])]
                    · rw [HST.out, ← HX2.out, HV.out]
                  case measure => simp [intOf]; omega

          · obtain ⟨j, rfl⟩ : ∃ j, i = j + 1 := ⟨i - 1, by omega⟩
            have e0 : (((j + 1 : Nat) : Int) == 0) = false := by rw [beq_eq_false_iff_ne]; omega
            have e0' : ((j : Int) + 1 == 0) = false := by rw [beq_eq_false_iff_ne]; omega
            have hjl : j < L.length := by omega
            have jc := HG3.out.kept.cell (HC.out j hjl).1 (fun f => f)
            have hjn : (j : Int) < (n : Int) := by omega
            obtain ⟨pj, hpj⟩ : ∃ pj, pj = L[j].1 := ⟨_, rfl⟩
            rw [← hpj] at jc
            obtain ⟨fr, hfr⟩ : ∃ fr, fr = (pj != x1) := ⟨_, rfl⟩
            have HFR : Hid (fr = fre L (j + 1) x) := hideP (by rw [hfr, hpj]; unfold fre; rw [Nat.add_sub_cancel, List.getElem?_eq_getElem hjl, HX1.out]; simp [bne]; rfl)
            have HFQ := hideP hfr
            clear hpj hfr
            go_wp2_with fail
            go_quiet (fail)
            have HG4 := hideP (HG3.out.later (Kept.drewN V3 nq))
            have w1 := (Kept.drewN V3 nq).cell v1' (fun f => f)
            generalize V3.drewN nq = V4 at *
            rw [← HFQ.out]
            clear HG3 v0' v1' jc HFQ
            have hvv := HB2.out.at hxw
            obtain ⟨v, hv⟩ : ∃ v, v = (s2.ins[x2]?).getD 0 := ⟨_, rfl⟩
            rw [← hv] at hvv
            have HV := hideP hv
            obtain ⟨hv1, hv2, hv3⟩ := hvv
            have u0 : V4.cell? ⟨g, x2, none⟩ = some (.int .i64 v) := HG4.out.at (is_get hv1)
            have hset := HG4.out.set x2 (.int .i64 (v - 1))
            rw [is_set] at hset
            have u1 := hset.2
            have HG5 := hideP hset.1
            have HBo := hideP (HB2.out.outer x2 hxw)
            rw [← hv] at HBo
            have HST := hideP (out_step HO.out HXI.out HIS.out)
            clear hv hset hv1
            obtain ⟨hmb1, hmb2⟩ := HB2.out.met
            have hmv : (s2.met == (wd : Int)) = decide (s2.met = (wd : Int)) := rfl
            by_cases hz : v - 1 = 0
            all_goals
              have hzb : (v - 1 == 0) = decide (v - 1 = 0) := rfl
              by_cases hm : s2.met = (wd : Int)
              all_goals
                cases fr
                all_goals
                  first | rw [decide_eq_true hz] at hzb | rw [decide_eq_false hz] at hzb
                  first | rw [decide_eq_true hm] at hmv | rw [decide_eq_false hm] at hmv
                  have HZ := hideP hz
                  have HM := hideP hm
                  clear hz hm
                  go_wp2
                  go_roundw
                  case rel =>
                    refine ⟨j + 1 + 1, ⟨s2.ins.set x2 (v - 1), if v - 1 = 0 then s2.met - 1 else s2.met, s2.en⟩, if fre L (j + 1) x && decide (s2.met = (wd : Int)) then cn + 1 else cn, by omega, by split <;> omega, by go_num, ?_, rfl, ?_, hideP ?_, HBo, HG5⟩
                    · first | rw [if_pos HZ.out] | rw [if_neg HZ.out]
                    · first
                        | rw [if_pos (by rw [← HFR.out]; simp [HM.out])]; go_num
                        | rw [if_neg (by rw [← HFR.out]; simp [HM.out])]
                    · rw [HST.out, ← HX2.out, HV.out]
                  case measure => simp [intOf]; omega
    · obtain rfl : i = n := by omega
      go_wp2
      go_ret
      refine ⟨?_, HG.out.kept⟩
      have h := HO.out
      unfold cbg
      rw [← HN.out, ← h]
      rfl
end Go.Proofs.YtedohkcoeebajaaDoor
namespace Go.Proofs.YtedohkcoeebajaaDoor
open Go.ChangeShapes Go.WideShapes Go.ChangeAt Go.RowKit

/-- A spot's two cells. -/
def enS (x : Int × Nat) : List Value := [.int .i64 x.1, .int .i64 (x.2 : Nat)]
def sv (L : List (Int × Nat)) : List Value := L.flatMap enS
theorem sv_len (L : List (Int × Nat)) : (sv L).length = L.length * 2 := by
  induction L with
  | nil => rfl
  | cons x L ih => unfold sv at ih ⊢; rw [List.flatMap_cons, List.length_append, ih, List.length_cons]; simp only [enS, List.length_cons, List.length_nil]; omega
theorem sv_app (L : List (Int × Nat)) (x : Int × Nat) : sv (L ++ [x]) = sv L ++ enS x := by simp [sv]
theorem sv_get : ∀ (L : List (Int × Nat)) (k : Nat) (h : k < L.length), (sv L)[k * 2]? = some (.int .i64 L[k].1) ∧ (sv L)[k * 2 + 1]? = some (.int .i64 (L[k].2 : Nat))
  | x :: L, 0, _ => ⟨rfl, rfl⟩
  | x :: L, k + 1, h => by
    have := sv_get L k (by simpa using h)
    rw [show (k + 1) * 2 = k * 2 + 2 by omega]
    exact this
/-- cmp.Compare of two places. -/
def cfS (x y : Int × Nat) : Int := Lib.compareInt x.1 y.1
theorem ltS (x y : Int × Nat) : ltOf cfS x y = decide (x.1 < y.1) := by
  unfold ltOf cfS Lib.compareInt
  by_cases h : x.1 < y.1
  · simp [h]
  · by_cases h2 : x.1 > y.1 <;> simp [h, h2]
theorem swoS : Sort.SWO (ltOf cfS) := ⟨fun x => by rw [ltS]; simp, fun x y z h1 h2 => by rw [ltS] at *; simp at *; omega, fun x y z h1 h2 => by rw [ltS] at *; simp at *; omega⟩
set_option maxHeartbeats 1000000 in
theorem closureS (x y : Int × Nat) (W : World) : Calls Tryd.prog 31 #[.agg #[.int .i64 x.1, .int .i64 (x.2 : Nat)], .agg #[.int .i64 y.1, .int .i64 (y.2 : Nat)]] W fun e w' => e = .returned (.int .i64 (cfS x y)) ∧ ∃ q os', w' = Sort.grow (W.drewN q) os' := by
  have hcon := fun W' => AnyG.cmp_Compare_int Tryd.cmpInt x.1 y.1 W'
  change ∀ W', Calls Tryd.prog 32 _ _ _ at hcon
  unfold cfS
  generalize Lib.compareInt x.1 y.1 = r at hcon ⊢
  go_enter Tryd.func31, Tryd.ntmps31
  go_wp2_with (go_at_call 32; refine (hcon _).mono ?_; rintro e w' ⟨rfl, rfl⟩)
  go_ret
  exact ⟨rfl, 0, _, by rw [Sort.alloc_eq_grow, Sort.alloc_eq_grow, Sort.grow_grow]; rfl⟩
theorem cmpLaysS (blk off size : Nat) (w : World) : CmpLays Tryd.prog 31 #[] enS 2 cfS blk off size w := fun _ _ _ _ x y => closureS x y _
theorem kept_sort (enc : Int × Nat → List Value) (k : Nat) (w : World) (blk off n : Nat) (d : Array (Int × Nat)) (os : Array Obj) : Kept (fun i => i = blk) w (sortWorldK enc k w blk off n d os) := by
  refine ⟨rfl, rfl, rfl, size_sortWorldK_c enc k w blk off n d os, fun i hi hne => ?_⟩
  unfold sortWorldK
  simp only [Sort.grow, Sort.putRowK, Sort.putRow, Sort.mapBlock, Sort.ahead]
  rw [Array.getElem?_append_left (by simpa using hi), Array.getElem?_modify, if_neg (fun e => hne e.symm)]
theorem Gro.frozen {w0 w : World} {e : TypeId} {sz g c n : Nat} {xs : List Value} (h : Gro w0 w e sz (.slice (some ⟨g, 0, none⟩) n c) n xs) (k : Nat) : w.frozen? ⟨g, k, none⟩ = false := by
  rcases h.own.2 with ⟨e1, e2⟩ | ⟨g', cap, cur, e1, hg, hh, hn, hm, hs, ht⟩
  · cases e1
  · simp only [Value.slice.injEq, Option.some.injEq, Addr.mk.injEq, and_true, true_and] at e1
    obtain ⟨rfl, rfl⟩ := e1
    simp [World.frozen?, hh]
theorem Gro.holds {w0 w : World} {e : TypeId} {g c n : Nat} {L : List (Int × Nat)} (h : Gro w0 w e 2 (.slice (some ⟨g, 0, none⟩) n c) n (sv L)) : Sort.HoldsK enS 2 w g 0 L.toArray := by
  intro j hj
  rw [Sort.size_flatK, List.size_toArray] at hj
  refine ⟨?_, h.frozen _⟩
  rw [Sort.get_flatK _ _ _ _ (by rw [List.size_toArray]; exact hj), Nat.zero_add]
  have hk : j / 2 < L.length := by omega
  have hg := sv_get L (j / 2) hk
  have e1 : L.toArray[j / 2]! = L[j / 2] := by simp [hk]
  rw [e1]
  rcases Nat.mod_two_eq_zero_or_one j with q | q
  · rw [q]
    have := hg.1
    rw [show j / 2 * 2 = j by omega] at this
    exact h.at this
  · rw [q]
    have := hg.2
    rw [show j / 2 * 2 + 1 = j by omega] at this
    exact h.at this
theorem holds_spots {w : World} {g : Nat} {d : Array (Int × Nat)} (h : Sort.HoldsK enS 2 w g 0 d) : SpAt w (some ⟨g, 0, none⟩) d.toList := by
  intro _
  refine ⟨g, 0, rfl, fun k hk => ?_⟩
  have hk2 : k < d.size := by simpa using hk
  have h0 := (h.cell (i := k) (c := 0) hk2 (by decide)).1
  have h1 := (h.cell (i := k) (c := 1) hk2 (by decide)).1
  have e : d[k]! = d.toList[k] := by simp [hk2]
  rw [e] at h0 h1
  exact ⟨h0, h1⟩
set_option maxHeartbeats 1000000 in
/-- slices.SortFunc over spots that are not none. -/
theorem sort_spots {w0 w : World} {e : TypeId} {g c : Nat} {L : List (Int × Nat)} (h : Gro w0 w e 2 (.slice (some ⟨g, 0, none⟩) L.length c) L.length (sv L)) (hl : L.length ≤ 1099511627776) :
    Calls Tryd.prog 30 #[.slice (some ⟨g, 0, none⟩) L.length c, .func (.func 31) #[] #[]] w fun e w' => e = .returned (.tuple #[]) ∧ ∃ L2 : List (Int × Nat), L2 = (Sort.pdq (ltOf cfS) L.toArray 0 L.length (Lib.bitLen L.length) true true).toList ∧ L2.Perm L ∧ L2.Pairwise (fun x y => x.1 ≤ y.1) ∧ SpAt w' (some ⟨g, 0, none⟩) L2 ∧ Kept (fun i => i = g) w w' := by
  have eg : ∀ args w, (callFunc 31 args).run Tryd.prog w = .ok (.enter 31 args) w := enters_of Tryd.func31 (by kernel_rfl) rfl
  have hH := h.holds
  have hblk : g < w.heap.size := (h.own.lt g rfl).2
  have hcon := AnyQ.slices_SortFunc_eq Tryd.sortSpot 2 Tryd.isAgg65 Tryd.sizeOf65 enS (fun _ => rfl) (fun x v hv => by simp [enS] at hv; rcases hv with rfl | rfl <;> rfl) cfS swoS 31 #[] g 0 c L.toArray w eg (cmpLaysS g 0 L.toArray.size w) hH hblk (by rw [List.size_toArray]; omega)
  rw [List.size_toArray] at hcon
  refine hcon.mono ?_
  rintro e w' ⟨rfl, n, os, rfl⟩
  obtain ⟨hp, hs⟩ := Sort.pdq_sorts (ltOf cfS) swoS L.toArray 0 L.toArray.size (Lib.bitLen L.length) true true (Nat.zero_le _) (Nat.le_refl _) (Or.inl rfl)
  rw [List.size_toArray] at hp hs
  obtain ⟨D, hD⟩ : ∃ D, D = Sort.pdq (ltOf cfS) L.toArray 0 L.length (Lib.bitLen L.length) true true := ⟨_, rfl⟩
  rw [← hD] at hp hs ⊢
  have hsz : D.size = L.length := by have := hp.1; rwa [List.size_toArray] at this
  refine ⟨rfl, D.toList, rfl, ?_, ?_, holds_spots (holdsK_sortWorldK_c enS 2 w g 0 L.toArray D n os hH hblk (by rw [List.size_toArray]; exact hsz)), kept_sort ..⟩
  · have h3 := hp.2.2
    have e1 : D.extract 0 L.length = D := by rw [← hsz]; exact Array.extract_size
    have e2 : L.toArray.extract 0 L.length = L.toArray := by rw [show L.length = L.toArray.size by simp]; exact Array.extract_size
    rw [e1, e2] at h3
    simpa using h3
  · rw [List.pairwise_iff_getElem]
    intro i j hi hj hij
    have h4 := hs i j (Nat.zero_le _) hij (by simpa [hsz] using hj)
    rw [ltS] at h4
    have hj' : j < D.size := by simpa using hj
    have hi' : i < D.size := by simpa using hi
    simp [hi', hj'] at h4
    simpa using h4
end Go.Proofs.YtedohkcoeebajaaDoor
namespace Go.Proofs.YtedohkcoeebajaaDoor
open Go.ChangeShapes Go.WideShapes Go.ChangeAt Go.RowKit

theorem Tryd.infoSp : (Tryd.prog.info? 65).map (fun i => (i.zero, i.size, i.bytes)) = some (some (.agg #[.int .i64 0, .int .i64 0]), 2, 16) := by kernel_rfl
theorem enS_one (x : Int × Nat) : ∀ u ∈ enS x, u.oneCell' = true := by
  intro u hu
  simp [enS] at hu
  rcases hu with rfl | rfl <;> rfl
/-- What spotsOf leaves. -/
def soPost (W : World) (S : List (Int × Nat)) (e : Ending) (w' : World) : Prop := ∃ g c, ∃ L2 : List (Int × Nat), e = .returned (.slice (some ⟨g, 0, none⟩) L2.length c) ∧ L2 = (Sort.pdq (ltOf cfS) S.toArray 0 S.length (Lib.bitLen S.length) true true).toList ∧ L2.Perm S ∧ L2.Pairwise (fun x y => x.1 ≤ y.1) ∧ SpAt w' (some ⟨g, 0, none⟩) L2 ∧ Kept (fun _ => False) W w'
set_option maxRecDepth 20000 in
set_option maxHeartbeats 8000000 in
theorem spotsOf_some (L : List Il) (O : List Int) (a oa : Option Addr) (c oc : Nat) (W : World) (hL : LiAt W a L) (hO : IntsAt W oa O) (hlo : L.length = O.length) (hll : L.length ≤ 1099511627776) (hin : ∀ x ∈ L, InL x.l) (hio : InL O) (htl : ∀ k, k ≤ L.length → (spk L O k).length ≤ 1099511627776) (hne : spk L O L.length ≠ []) :
    Calls Tryd.prog 19 #[.slice a L.length c, .slice oa O.length oc] W (soPost W (spk L O L.length)) := by
  have HL := hideP hL
  have HO := hideP hO
  have HIN := hideP hin
  have HIO := hideP hio
  have HTL := hideP htl
  have HNE := hideP hne
  rw [← hlo]
  obtain ⟨n, hn⟩ : ∃ n, n = L.length := ⟨_, rfl⟩
  have HN := hideP hn
  have HLO := hideP hlo
  rw [← hn] at hll ⊢
  clear hL hO hin hio htl hne hlo hn
  go_enter Tryd.func19, Tryd.ntmps19
  go_wp2
  go_loopw [5, 12] (fun s5 s12 wr => ∃ (k m : Nat), k ≤ n ∧ s12 = .int .i64 k ∧ Hid (m = (spk L O k).length) ∧ Hid (Gro W wr 65 2 s5 m (sv (spk L O k)))) (fun _ s12 _ => n - (intOf s12).toNat)
  case atStart => exact ⟨0, 0, by omega, rfl, hideP rfl, hideP (gro_nil W _ _)⟩
  case round =>
    obtain ⟨k, m, hk, rfl, HM, HG⟩ := hrel
    by_cases hlt : k < n
    · have hkl : k < L.length := by rw [← HN.out]; exact hlt
      have hko : k < O.length := by rw [← HLO.out]; exact hkl
      obtain ⟨b, off, rfl, hc⟩ := HL.out (by intro e; rw [e] at hkl; simp at hkl)
      obtain ⟨ob, oo, rfl, ho⟩ := HO.out (by intro e; rw [e] at hko; simp at hko)
      obtain ⟨x, hx⟩ : ∃ x, x = L[k] := ⟨_, rfl⟩
      obtain ⟨z0, z1⟩ := hc k hkl
      rw [← hx] at z0 z1
      have y0 := HG.out.kept.cell z0 (fun f => f)
      have HZ1 := hideP z1
      have HX := hideP hx
      have HOC := hideP (ho k hko)
      have hob := HIO.out.at hko
      obtain ⟨o, hoo⟩ : ∃ o, o = O[k]?.getD 0 := ⟨_, rfl⟩
      rw [← hoo] at HOC hob
      obtain ⟨ho1, ho2⟩ := hob
      have HOO := hideP hoo
      have HXI : Hid (InL x.l) := hideP (HIN.out x (by rw [hx]; exact List.getElem_mem hkl))
      have hkk : (k : Int) < (n : Int) := by omega
      obtain ⟨xl, hxl⟩ : ∃ xl, xl = x.l.length := ⟨_, rfl⟩
      rw [← hxl] at y0
      have HXL := hideP hxl
      have HSP : Hid (spk L O (k + 1) = spk L O k ++ spw o k x.l) := hideP (by rw [spk, List.getElem?_eq_getElem hkl, ← hx, ← hoo])
      have hxlb : m + xl ≤ 1099511627776 := by
        have h1 := HTL.out (k + 1) hkl
        rw [HSP.out, List.length_append, spw, List.length_map, ← HM.out, ← HXL.out] at h1
        exact h1
      have HTL2 := hideP hxlb
      have hxlb : xl ≤ 1099511627776 := by omega
      generalize x.a = xa at *
      generalize x.c = xc at *
      clear z0 z1 hx hc ho hoo hxl
      go_wp2
      go_loopw [5, 19] (fun s5 s19 w2 => ∃ (j m2 : Nat), j ≤ xl ∧ Hid (m2 = m + j) ∧ s19 = .int .i64 j ∧ Hid (Gro W w2 65 2 s5 m2 (sv (spk L O k ++ spw o k (x.l.take j))))) (fun _ s19 _ => xl - (intOf s19).toNat)
      case atStart => exact ⟨0, m, by omega, hideP (by omega), rfl, by rw [List.take_zero, spw, List.map_nil, List.append_nil]; exact HG⟩
      case round =>
        obtain ⟨j, m2, hj, HM2, rfl, HG2⟩ := hrel
        by_cases hjl : j < xl
        · have hjx : j < x.l.length := by rw [← HXL.out]; exact hjl
          obtain ⟨xb, xo, rfl, hxc⟩ := HZ1.out (by intro e; rw [e] at hjx; simp at hjx)
          have y1 := HG2.out.kept.cell (hxc j hjx) (fun f => f)
          have y2 := HG2.out.kept.cell HOC.out (fun f => f)
          obtain ⟨hp1, hp2⟩ := HXI.out.at hjx
          have HST := hideP (spw_take o k x.l j hjx)
          obtain ⟨p, hp⟩ : ∃ p, p = x.l[j]?.getD 0 := ⟨_, rfl⟩
          rw [← hp] at y1 hp1 hp2 HST
          have hjj : (j : Int) < (xl : Int) := by omega
          clear hxc hp
          obtain ⟨sa, sc, rfl⟩ := HG2.out.shape
          go_wp2_with (at_builtin; refine StpQ.go ?_)
          refine ⟨?_⟩
          obtain ⟨i0, hi, hz0, hz1, hz2⟩ := info_partsP Tryd.infoSp
          refine wpList_push rfl (.tmp 23) (.tmp 32) 49 rfl 65 i0 (.agg #[.int .i64 0, .int .i64 0]) 2 16 Tryd.underlying49 hi hz0 hz1 hz2 rfl (by decide) (.slice sa m2 sc) m2 (sv (spk L O k ++ spw o k (x.l.take j))) (enS (p - o, k)) rfl HG2 rfl rfl (enS_one _) (hideP (by have := HTL2.out; have := HM2.out; omega)) (hideP (by have := HTL2.out; have := HM2.out; unfold maxLen; omega)) ?_
          intro a' c' W5 HG5
          have HG6 : Hid (Gro W W5 65 2 (.slice a' (m2 + 1) c') (m2 + 1) (sv (spk L O k ++ spw o k (x.l.take (j + 1))))) := hideP (by
            rw [HST.out, ← List.append_assoc, sv_app]
            exact HG5.out)
          clear HG5
          go_wp2
          go_roundw
          case rel => exact ⟨j + 1, m2 + 1, by omega, hideP (by have := HM2.out; omega), by go_num, HG6⟩
          case measure => simp [intOf]; omega
        · obtain rfl : j = xl := by omega
          have h6 := HG2.out
          rw [List.take_of_length_le (by rw [HXL.out]; exact Nat.le_refl _), ← HSP.out] at h6
          have HG6 := hideP h6
          clear h6
          have HM6 : Hid (m2 = (spk L O (k + 1)).length) := hideP (by rw [HSP.out, List.length_append, spw, List.length_map, ← HM.out, ← HXL.out]; exact HM2.out)
          go_wp2
          go_roundw
          case rel => exact ⟨k + 1, m2, by omega, by go_num, HM6, HG6⟩
          case measure => simp [intOf]; omega
    · obtain rfl : k = n := by omega
      obtain ⟨S, hS⟩ : ∃ S, S = spk L O k := ⟨_, rfl⟩
      have hne := HNE.out
      rw [← HN.out, ← hS] at hne
      have hg := HG.out
      have hm := HM.out
      rw [← hS] at hg hm
      have hmp : 0 < m := by rw [hm]; exact List.length_pos_iff.2 hne
      obtain ⟨sa, sc, rfl⟩ := hg.shape
      obtain ⟨g, rfl, -, -⟩ := hg.cell hmp
      subst hm
      have CS := hideP (sort_spots hg (by
        have h1 := HTL.out k (by rw [← HN.out]; exact Nat.le_refl _)
        rw [hS]; exact h1))
      have HGK := hideP hg.kept
      have HGW := hideP ((hg.own.lt g rfl).1)
      have HSS := hideP hS
      clear hg hS hne HG HM
      obtain ⟨sl, hsl⟩ : ∃ sl, sl = S.length := ⟨_, rfl⟩
      rw [← hsl] at CS hmp ⊢
      have HSL := hideP hsl
      clear hsl
      go_wp2_with (go_at_call 30; refine StpQ.go ?_)
      refine ⟨?_⟩
      refine CS.out.mono ?_
      clear CS
      rintro e W2 ⟨rfl, L2, h1, h2, h3, h4, h5⟩
      have H1 := hideP h1
      have H2 := hideP h2
      have H3 := hideP h3
      have H4 := hideP h4
      have H5 := hideP (HGK.out.trans h5 (fun i hi => .inr (by rw [hi]; exact HGW.out)))
      clear h1 h2 h3 h4 h5
      go_wp2
      go_ret
      have hl2 : L2.length = sl := by rw [H2.out.length_eq, HSL.out]
      rw [← HSS.out]
      exact ⟨g, sc, L2, by rw [hl2]; rfl, by rw [← HSL.out]; exact H1.out, H2.out, H3.out, H4.out, H5.out⟩
set_option maxRecDepth 20000 in
set_option maxHeartbeats 8000000 in
theorem phraseFreq_some (L : List Il) (O : List Int) (a oa : Option Addr) (c oc : Nat) (sl : Int) (W : World) (hL : LiAt W a L) (hO : IntsAt W oa O) (hlo : L.length = O.length) (hll : L.length ≤ 1048576) (hin : ∀ x ∈ L, InL x.l) (hlx : ∀ x ∈ L, x.l.length ≤ 1048576) (hio : InL O) (hsl : 0 ≤ sl ∧ sl ≤ 2147483647) (htl : ∀ k, k ≤ L.length → (spk L O k).length ≤ 1099511627776) (hne : spk L O L.length ≠ []) :
    Calls Tryd.prog 6 #[.slice a L.length c, .slice oa O.length oc, .int .i64 sl] W fun e w' => ∃ L2 : List (Int × Nat), L2 = (Sort.pdq (ltOf cfS) (spk L O L.length).toArray 0 (spk L O L.length).length (Lib.bitLen (spk L O L.length).length) true true).toList ∧ L2.Perm (spk L O L.length) ∧ L2.Pairwise (fun x y => x.1 ≤ y.1) ∧ e = .returned (.int .i64 (cbg L2 L.length sl : Nat)) ∧ Kept (fun _ => False) W w' := by
  have CK := hideP (fun W' (k : Kept (fun _ => False) W W') => keepLimits_in O oa oc W' (hO.kept k) (by omega) hio)
  have CS := hideP (spotsOf_some L O a oa c oc W hL hO hlo (by omega) hin hio htl hne)
  have CC := hideP (fun W' L2 (a2 : Option Addr) (c2 : Nat) (hS : SpAt W' a2 L2) (hp : L2.Perm (spk L O L.length)) => countBegins_any L2 a2 c2 L.length sl W' hS (by rw [hp.length_eq]; exact htl _ (Nat.le_refl _)) (by omega) (fun x hx => spk_word L O _ x (hp.mem_iff.1 hx)) (fun x hx => spk_at L O hin hio _ x (hp.mem_iff.1 hx)) (by omega))
  have HL := hideP hL
  have HIN := hideP hin
  have HLX := hideP hlx
  obtain ⟨s1, s2⟩ := hsl
  have e1 : decide (sl < 0) = false := decide_eq_false (by omega)
  have e2 : decide (2147483647 < sl) = false := decide_eq_false (by omega)
  have e3 : ¬ sl < 0 := by omega
  have e4 : ¬ 2147483647 < sl := by omega
  rw [← hlo] at CK CS ⊢
  obtain ⟨n, hn⟩ : ∃ n, n = L.length := ⟨_, rfl⟩
  have HN := hideP hn
  rw [← hn] at CK CS CC hll ⊢
  clear hL hO hin hlx hio htl hne hlo hn
  go_enter Tryd.func6, Tryd.ntmps6
  go_wp2_with (go_at_call 17; refine (CK.out _ (Kept.refl _ _)).mono ?_; clear CK; rintro e W1 ⟨rfl, rfl⟩)
  go_loopw [29] (fun s29 wr => ∃ k : Nat, k ≤ n ∧ s29 = .int .i64 k ∧ wr = W1) (fun s29 _ => n - (intOf s29).toNat)
  case atStart => exact ⟨0, by omega, rfl, rfl⟩
  case round =>
    obtain ⟨k, hk, rfl, rfl⟩ := hrel
    by_cases hlt : k < n
    · have hkl : k < L.length := by rw [← HN.out]; exact hlt
      obtain ⟨b, off, rfl, hc⟩ := HL.out (by intro e; rw [e] at hkl; simp at hkl)
      obtain ⟨z0, z1⟩ := hc k hkl
      have hm := List.getElem_mem hkl
      have CX := hideP (keepLimits_in L[k].l L[k].a L[k].c wr z1 (by have := HLX.out _ hm; omega) (HIN.out _ hm))
      generalize L[k].l.length = xl at *
      generalize L[k].a = xa at *
      generalize L[k].c = xc at *
      have hkk : (k : Int) < (n : Int) := by omega
      clear z1 hc hm
      go_wp2_with (go_at_call 17; refine CX.out.mono ?_; clear CX; rintro e W2 ⟨rfl, rfl⟩)
      go_roundw
      case rel => exact ⟨k + 1, by omega, by go_num, trivial⟩
      case measure => simp [intOf]; omega
    · obtain rfl : k = n := by omega
      go_wp2_with (go_at_call 19; refine StpQ.go ?_)
      refine ⟨?_⟩
      refine CS.out.mono ?_
      clear CS
      rintro e W2 ⟨g, c2, L2, rfl, h1, h2, h3, h4, k2⟩
      have CC2 := hideP (CC.out W2 L2 _ c2 h4 h2)
      have H1 := hideP h1
      have H2 := hideP h2
      have H3 := hideP h3
      have HK2 := hideP k2
      clear h1 h2 h3 h4 k2 CC
      obtain ⟨l2, hl2⟩ : ∃ l2, l2 = L2.length := ⟨_, rfl⟩
      rw [← hl2] at CC2 ⊢
      clear hl2
      go_wp2_with (go_at_call 18; refine StpQ.go ?_)
      refine ⟨?_⟩
      refine CC2.out.mono ?_
      clear CC2
      rintro e W3 ⟨rfl, k3⟩
      have HK3 := hideP (HK2.out.trans k3 (fun _ f => f.elim))
      clear k3
      go_wp2
      go_ret
      exact ⟨L2, H1.out, H2.out, H3.out, rfl, HK3.out⟩
end Go.Proofs.YtedohkcoeebajaaDoor
namespace Go.Proofs.YtedohkcoeebajaaDoor
open Go.ChangeShapes Go.WideShapes Go.ChangeAt Go.RowKit

theorem sorted5 : (Sort.pdq (ltOf cfS) #[((1 : Int), 0), (5, 0), (9, 0), (1, 1), (9, 1)] 0 5 (Lib.bitLen 5) true true).toList = [((1 : Int), 0), (1, 1), (5, 0), (9, 0), (9, 1)] := by
  kernel_rfl
theorem cbg5 : cbg [((1 : Int), 0), (1, 1), (5, 0), (9, 0), (9, 1)] 2 0 = 2 := by decide
end Go.Proofs.YtedohkcoeebajaaDoor
namespace Go.Proofs.YtedohkcoeebajaaDoor
open Go.ChangeShapes Go.WideShapes Go.ChangeAt Go.RowKit

/-- The postings of the chapter's first example. -/
def twl (k : Nat) : List Po := (List.range k).map (fun i : Nat => (⟨10 * (i : Int), [3]⟩ : Po))
theorem twl_step (k : Nat) : twl (k + 1) = twl k ++ [⟨10 * (k : Int), [3]⟩] := by unfold twl; rw [List.range_succ, List.map_append]; rfl
theorem twl_len (k : Nat) : (twl k).length = k := by simp [twl]
theorem twl_last (k : Nat) : lastd (-1) (twl (k + 1)) = 10 * (k : Int) := by rw [twl_step, lastd_append]; rfl
theorem twl_good : ∀ k, k ≤ 100 → gdl (-1) (twl k)
  | 0, _ => trivial
  | k + 1, h => by
    rw [twl_step, gdl_append]
    refine ⟨twl_good k (by omega), ?_, trivial⟩
    have hl : lastd (-1) (twl k) < 10 * (k : Int) := by
      cases k with
      | zero => decide
      | succ j => rw [twl_last]; omega
    exact ⟨by simp only; omega, by simp only; omega, hl, by simp, ⟨by decide, by decide, trivial⟩⟩
theorem twl_tot : ∀ k, tot (twl k) = k
  | 0 => rfl
  | k + 1 => by rw [twl_step, tot_append, twl_tot k]; rfl
set_option maxRecDepth 20000 in
set_option maxHeartbeats 4000000 in
theorem twenty_any (W : World) : Calls Tryd.prog 10 #[] W fun e w' => ∃ (FL : List Pg) (a : Option Addr) (c : Nat), e = .returned (.slice a FL.length c) ∧ pol FL = twl 20 ∧ PsAt w' a FL ∧ FL.length ≤ c ∧ Kept (fun _ => False) W w' := by
  go_enter Tryd.func10, Tryd.ntmps10
  go_wp2
  go_loopw [1, 2] (fun s1 s2 wr => ∃ (k : Nat) (FL : List Pg) (sa : Option Addr) (sc : Nat), k ≤ 20 ∧ s2 = .int .i64 k ∧ s1 = .slice sa k sc ∧ Hid (pol FL = twl k) ∧ Hid (Gps (fun _ => False) W wr (.slice sa k sc) k FL)) (fun _ s2 _ => 20 - (intOf s2).toNat)
  case atStart => exact ⟨0, [], none, 0, by omega, rfl, rfl, hideP rfl, hideP ⟨⟨rfl, .inl ⟨rfl, rfl⟩⟩, Kept.refl _ _, fun g hg => (by cases hg), fun g hg => (by cases hg)⟩⟩
  case round =>
    obtain ⟨k, FL, sa, sc, hk, rfl, rfl, HP, HG⟩ := hrel
    by_cases hlt : k < 20
    · have hkk : (k : Int) < 20 := by omega
      have kA := Kept.alloc wr (.cells #[.int .i64 3] 3)
      have HG1 := hideP (HG.out.step kA (fun _ f => f.elim))
      have GW := hideP HG1.out.own
      have hB : Hid (IntsAt (wr.alloc (.cells #[.int .i64 3] 3)) (some ⟨wr.heap.size, 0, none⟩) [3]) := hideP (fun _ => ⟨wr.heap.size, 0, rfl, fun j hj => by
        have : j = 0 := by simpa using hj
        subst this
        simp⟩)
      have s4 : W.heap.size ≤ (wr.alloc (.cells #[.int .i64 3] 3)).heap.size := HG1.out.kept.size
      have hz : (wr.alloc (.cells #[.int .i64 3] 3)).heap.size = wr.heap.size + 1 := by simp
      have HZ := hideP hz
      have HOB : Hid (Value.ownBlock (.slice sa k sc) ≠ some wr.heap.size) := hideP (fun e => by
        have := (HG.out.own.lt _ e).2
        omega)
      have HWS := hideP HG.out.kept.size
      clear kA hz
      go_wp2_with (at_builtin; refine wpList_pushG rfl _ _ rfl _ k (pcs FL) ⟨10 * (k : Int), some ⟨wr.heap.size, 0, none⟩, 1, [3]⟩ 1 rfl rfl GW s4 _ (by first | rfl | simp) rfl (by omega) ?_; intro gb c' W5 O5 K5 A5)
      have HG5 := hideP (HG1.out.more O5.out K5.out A5.out (M := [⟨10 * (k : Int), some ⟨wr.heap.size, 0, none⟩, 1, [3]⟩]) (fun g hg => by
        rw [List.mem_singleton] at hg
        subst hg
        exact hB.out) (fun g hg _ => by
        rw [List.mem_singleton] at hg
        subst hg
        exact ⟨wr.heap.size, 0, rfl, HWS.out, by rw [HZ.out]; omega, HOB.out⟩))
      have HP5 : Hid (pol (FL ++ [⟨10 * (k : Int), some ⟨wr.heap.size, 0, none⟩, 1, [3]⟩]) = twl (k + 1)) := hideP (by
        rw [twl_step, ← HP.out]
        simp [pol, Pg.po])
      clear O5 K5 A5 GW HG1 hB s4
      generalize (FL ++ [⟨10 * (k : Int), some ⟨wr.heap.size, 0, none⟩, 1, [3]⟩] : List Pg) = FL5 at *
      go_wp2
      go_roundw
      case rel => exact ⟨k + 1, FL5, _, c', by omega, by go_num, rfl, HP5, HG5⟩
      case measure => simp [intOf]; omega
    · obtain rfl : k = 20 := by omega
      have h1 := HG.out.at
      have HN := hideP h1.2.1
      have HC := hideP h1.2.2
      have HA := hideP h1.1
      clear h1
      go_wp2
      go_ret
      exact ⟨FL, sa, sc, by rw [← HN.out]; rfl, HP.out, HA.out, by rw [← HN.out]; exact HC.out, HG.out.kept⟩
end Go.Proofs.YtedohkcoeebajaaDoor
namespace Go.Proofs.YtedohkcoeebajaaDoor
open Go.ChangeShapes Go.WideShapes Go.ChangeAt Go.RowKit

/-- Numbers that have just been laid. -/
theorem ints_new (W : World) (l : List Int) : IntsAt (W.alloc (.cells (is l).toArray 3)) (some ⟨W.heap.size, 0, none⟩) l := by
  intro _
  refine ⟨W.heap.size, 0, rfl, fun k hk => ?_⟩
  rw [Nat.zero_add, cell_of_row _ _ _ _ _ _ (heap_alloc_new W _)]
  simp [is, List.getElem?_eq_getElem hk]
def V4 (V : World) : World := (((V.alloc (.cells #[.int .i64 1, .int .i64 5, .int .i64 9] 3)).alloc (.cells #[.int .i64 2, .int .i64 10] 3)).alloc (.cells #[.slice (some ⟨V.heap.size, 0, none⟩) 3 3, .slice (some ⟨V.heap.size + 1, 0, none⟩) 2 2] 23)).alloc (.cells #[.int .i64 0, .int .i64 1] 3)
theorem kept_V4 (V : World) : Kept (fun _ => False) V (V4 V) := (((Kept.alloc V _).trans (Kept.alloc _ _) (fun _ f => f.elim)).trans (Kept.alloc _ _) (fun _ f => f.elim)).trans (Kept.alloc _ _) (fun _ f => f.elim)
theorem phrase2 (V : World) : Calls Tryd.prog 6 #[.slice (some ⟨V.heap.size + 2, 0, none⟩) 2 2, .slice (some ⟨V.heap.size + 3, 0, none⟩) 2 2, .int .i64 0] (V4 V) fun e w' => e = .returned (.int .i64 2) ∧ Kept (fun _ => False) V w' := by
  have k1 := Kept.alloc V (.cells #[.int .i64 1, .int .i64 5, .int .i64 9] 3)
  obtain ⟨V1, hV1⟩ : ∃ V1, V1 = V.alloc (.cells #[.int .i64 1, .int .i64 5, .int .i64 9] 3) := ⟨_, rfl⟩
  have i1 : IntsAt V1 (some ⟨V.heap.size, 0, none⟩) [1, 5, 9] := by rw [hV1]; exact ints_new V [1, 5, 9]
  have z1 : V1.heap.size = V.heap.size + 1 := by rw [hV1]; simp
  obtain ⟨V2, hV2⟩ : ∃ V2, V2 = V1.alloc (.cells #[.int .i64 2, .int .i64 10] 3) := ⟨_, rfl⟩
  have i2 : IntsAt V2 (some ⟨V.heap.size + 1, 0, none⟩) [2, 10] := by rw [hV2, ← z1]; exact ints_new V1 [2, 10]
  have z2 : V2.heap.size = V.heap.size + 2 := by rw [hV2]; simp [z1]
  have k2 : Kept (fun _ => False) V1 V2 := by rw [hV2]; exact Kept.alloc _ _
  obtain ⟨V3, hV3⟩ : ∃ V3, V3 = V2.alloc (.cells #[.slice (some ⟨V.heap.size, 0, none⟩) 3 3, .slice (some ⟨V.heap.size + 1, 0, none⟩) 2 2] 23) := ⟨_, rfl⟩
  have k3 : Kept (fun _ => False) V2 V3 := by rw [hV3]; exact Kept.alloc _ _
  have z3 : V3.heap.size = V.heap.size + 3 := by rw [hV3]; simp [z2]
  have g3 : V3.heap[V.heap.size + 2]? = some (.cells #[.slice (some ⟨V.heap.size, 0, none⟩) 3 3, .slice (some ⟨V.heap.size + 1, 0, none⟩) 2 2] 23 (0, 0)) := by rw [hV3, ← z2]; exact heap_alloc_new V2 _
  obtain ⟨W4, hW4⟩ : ∃ W4, W4 = V3.alloc (.cells #[.int .i64 0, .int .i64 1] 3) := ⟨_, rfl⟩
  have k4 : Kept (fun _ => False) V3 W4 := by rw [hW4]; exact Kept.alloc _ _
  have i4 : IntsAt W4 (some ⟨V.heap.size + 3, 0, none⟩) [0, 1] := by rw [hW4, ← z3]; exact ints_new V3 [0, 1]
  have g4 := k4.heap g3 (fun f => f)
  have e4 : V4 V = W4 := by rw [hW4, hV3, hV2, hV1]; rfl
  have k24 := k3.trans k4 (fun _ f => f.elim)
  have k14 := k2.trans k24 (fun _ f => f.elim)
  have hL : LiAt W4 (some ⟨V.heap.size + 2, 0, none⟩) [⟨some ⟨V.heap.size, 0, none⟩, 3, [1, 5, 9]⟩, ⟨some ⟨V.heap.size + 1, 0, none⟩, 2, [2, 10]⟩] := by
    intro _
    refine ⟨V.heap.size + 2, 0, rfl, fun k hk => ?_⟩
    have : k = 0 ∨ k = 1 := by simp at hk; omega
    rcases this with rfl | rfl
    · exact ⟨by rw [cell_of_row _ _ _ _ _ _ g4]; rfl, i1.kept k14⟩
    · exact ⟨by rw [cell_of_row _ _ _ _ _ _ g4]; rfl, i2.kept k24⟩
  have hk := kept_V4 V
  rw [e4] at hk ⊢
  have h := phraseFreq_some [⟨some ⟨V.heap.size, 0, none⟩, 3, [1, 5, 9]⟩, ⟨some ⟨V.heap.size + 1, 0, none⟩, 2, [2, 10]⟩] [0, 1] (some ⟨V.heap.size + 2, 0, none⟩) (some ⟨V.heap.size + 3, 0, none⟩) 2 2 0 W4 hL i4 rfl (by simp) (by
    intro x hx
    simp at hx
    rcases hx with rfl | rfl <;> (intro y hy; simp at hy; omega)) (by
    intro x hx
    simp at hx
    rcases hx with rfl | rfl <;> simp) (by intro y hy; simp at hy; omega) (by decide) (by
    intro k hk
    have : k = 0 ∨ k = 1 ∨ k = 2 := by simp at hk; omega
    rcases this with rfl | rfl | rfl <;> simp [spk, spw]) (by simp [spk, spw])
  refine h.mono ?_
  rintro e w' ⟨L2, h1, -, -, rfl, k9⟩
  have hs : L2 = [((1 : Int), 0), (1, 1), (5, 0), (9, 0), (9, 1)] := h1.trans sorted5
  rw [hs]
  exact ⟨by rw [show (cbg [((1 : Int), 0), (1, 1), (5, 0), (9, 0), (9, 1)] [(⟨some ⟨V.heap.size, 0, none⟩, 3, [1, 5, 9]⟩ : Il), ⟨some ⟨V.heap.size + 1, 0, none⟩, 2, [2, 10]⟩].length 0) = 2 from cbg5]; rfl, hk.trans k9 (fun _ f => f.elim)⟩
theorem p20_17 : plc (twl 20) 165 = 17 := by decide +kernel
theorem p20_20 : plc (twl 20) 1000 = 20 := by decide +kernel
set_option maxRecDepth 20000 in
set_option maxHeartbeats 8000000 in
theorem fixed_any (ad : Nat → Addr) (W : World) (hE : ErQ W ad) : Calls Tryd.prog 5 #[] W fun e w' => e = .returned (.bool true) ∧ Kept (fun _ => False) W w' := by
  have C1 := hideP (twenty_any W)
  have HE := hideP hE
  have HG : Hid (gdl (-1) (twl 20)) := hideP (twl_good 20 (by decide))
  have HIL : Hid ((img (twl 20)).length ≤ 1073741824) := hideP (by have := img_le HG.out (by rw [twl_len]; decide) (by rw [twl_tot]; decide); omega)
  have CE : Hid (∀ (W1 : World) (FL : List Pg) (a : Option Addr) (c : Nat), pol FL = twl 20 → PsAt W1 a FL → FL.length ≤ c → Calls Tryd.prog 9 #[.slice a FL.length c] W1 fun e w' => ∃ g c', e = .returned (.tuple #[.slice (some ⟨g, 0, none⟩) (img (twl 20)).length c', .int .i64 0]) ∧ BytesAt w' (some ⟨g, 0, none⟩) (img (twl 20)) ∧ Kept (fun _ => False) W1 w') := hideP (fun W1 FL a c hp hP hc => by
    have hI : ∀ p ∈ pol FL, IsInts p.ps := by
      rw [hp]
      intro p hm
      obtain ⟨i, _, rfl⟩ := List.mem_map.1 hm
      intro x hx
      simp at hx
      omega
    have hl : FL.length = 20 := by rw [← pol_len, hp, twl_len]
    refine (dencode_any FL a c W1 hP (fun g hg => hI g.po (List.mem_map_of_mem hg)) (by omega) hc (by rw [hp, twl_tot]; decide)).mono ?_
    rintro e w' (⟨_, g, c', rfl, hG⟩ | ⟨hn, _⟩)
    · rw [hp] at hG ⊢
      exact ⟨g, c', rfl, (gro_bytes hG).1, hG.kept⟩
    · exact absurd ((flts_iff hI).2 (by rw [hp]; exact HG.out)) hn)
  clear hE
  go_enter Tryd.func5, Tryd.ntmps5
  go_wp2_with (go_at_call 10; refine StpQ.go ?_)
  refine ⟨?_⟩
  refine C1.out.mono ?_
  clear C1
  rintro e W1 ⟨FL, a, c, rfl, hp, hP, hc, k1⟩
  have CE1 := hideP (CE.out W1 FL a c hp hP hc)
  have HK1 := hideP k1
  obtain ⟨fl, hfl⟩ : ∃ fl, fl = FL.length := ⟨_, rfl⟩
  rw [← hfl] at CE1 ⊢
  clear CE hp hP hc k1 hfl
  go_wp2_with (go_at_call 9; refine StpQ.go ?_)
  refine ⟨?_⟩
  refine CE1.out.mono ?_
  clear CE1
  rintro e W2 ⟨g, c2, rfl, hB, k2⟩
  have hk2 := HK1.out.trans k2 (fun _ f => f.elim)
  have CO := hideP (copen_good (twl 20) (some ⟨g, 0, none⟩) c2 ad W2 hB HG.out HIL.out (HE.out.kept hk2))
  have HK2 := hideP hk2
  clear k2 hB hk2 HK1
  obtain ⟨il, hil⟩ : ∃ il, il = (img (twl 20)).length := ⟨_, rfl⟩
  rw [← hil] at CO ⊢
  clear hil
  go_wp2_with (go_at_call 11; refine StpQ.go ?_)
  refine ⟨?_⟩
  refine CO.out.mono ?_
  clear CO
  rintro e W3 ⟨cb, bl, W0, rfl, hA, hcb, k0, k3⟩
  have HS0 := hideP hA.toS
  have HE0 := hideP (HE.out.kept (HK2.out.trans k0 (fun _ f => f.elim)))
  have HK3 := hideP (HK2.out.trans k3 (fun _ f => f.elim))
  have HCB : Hid (W.heap.size ≤ cb) := hideP (Nat.le_trans HK2.out.size hcb)
  clear hA k0 k3 HK2 HE hcb
  have CD := hideP (cdocS W3 HS0.out)
  rw [show docU (twl 20) 0 = -1 from rfl] at CD
  have CN := hideP (cnext_in W3 ad HS0.out (Nat.zero_le _) (by decide) (by rw [twl_len]; decide) HG.out HIL.out HE0.out)
  rw [show docU (twl 20) (0 + 1) = 0 by decide +kernel] at CN
  go_wp2_with (first
    | (go_at_call 12; refine CD.out.mono ?_; clear CD; rintro e W4 ⟨rfl, rfl⟩)
    | (go_at_call 13; refine StpQ.go ?_))
  refine ⟨?_⟩
  refine CN.out.mono ?_
  clear CN
  rintro e W5 ⟨rfl, hS1, k5⟩
  have HS1 := hideP hS1
  have HK5 := hideP (HK3.out.young k5 HCB.out)
  have CA := hideP (cadv_in W5 165 ad HS1.out (by rw [twl_len]; decide) (by decide +kernel) (by decide) (by rw [twl_len]; decide) HG.out HIL.out HE0.out)
  rw [p20_17, twl_len, show docU (twl 20) (17 + 1) = 170 by decide +kernel, show 0 + 1 + mvU 20 (0 + 1) 17 = 4 by decide] at CA
  clear hS1 k5 HS0 HK3
  go_wp2_with (go_at_call 14; refine StpQ.go ?_)
  refine ⟨?_⟩
  refine CA.out.mono ?_
  clear CA
  rintro e W6 ⟨rfl, hS2, k6⟩
  have HS2 := hideP hS2
  have HK6 := hideP (HK5.out.young k6 HCB.out)
  have CM := hideP (cmovesS W6 HS2.out)
  have CF := hideP (cfreqS W6 HS2.out)
  rw [show (posU (twl 20) (17 + 1)).length = 1 by decide +kernel] at CF
  have CP := hideP (phrase2 W6)
  unfold V4 at CP
  clear hS2 k6 HS1 HK5
  go_wp2_with (first
    | (go_at_call 15; refine CM.out.mono ?_; clear CM; rintro e W7 ⟨rfl, rfl⟩)
    | (go_at_call 16; refine CF.out.mono ?_; clear CF; rintro e W8 ⟨rfl, rfl⟩)
    | (go_at_call 6; refine StpQ.go ?_))
  refine ⟨?_⟩
  refine CP.out.mono ?_
  clear CP
  rintro e W9 ⟨rfl, k9⟩
  have HS9 := hideP (HS2.out.later k9)
  have HK9 := hideP (HK6.out.trans k9 (fun _ f => f.elim))
  have CA := hideP (cadv_in W9 1000 ad HS9.out (by rw [twl_len]; decide) (by decide +kernel) (by decide) (by rw [twl_len]; decide) HG.out HIL.out HE0.out)
  rw [p20_20, twl_len, show docU (twl 20) (20 + 1) = 2147483647 by decide +kernel] at CA
  clear k9 HS2 HK6
  go_wp2_with (go_at_call 14; refine StpQ.go ?_)
  refine ⟨?_⟩
  refine CA.out.mono ?_
  clear CA
  rintro e W10 ⟨rfl, hS10, k10⟩
  have HK10 := hideP (HK9.out.young k10 HCB.out)
  clear hS10 k10
  go_wp2
  go_ret
  exact ⟨rfl, HK10.out⟩
end Go.Proofs.YtedohkcoeebajaaDoor
