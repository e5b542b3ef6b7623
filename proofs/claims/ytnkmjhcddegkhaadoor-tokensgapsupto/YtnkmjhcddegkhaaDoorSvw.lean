import Derived.Test.YtnkmjhcddegkhaaDoorStm
import Derived.Deep.OwnRows
namespace Go.Proofs.YtnkmjhcddegkhaaDoor
open Go.ChangeShapes Go.WideShapes Go.ChangeAt Go.RowKit

theorem hideV {p : Prop} (h : p) : Hid p := h
theorem Tryd.infoBo : (Tryd.prog.info? 4).map (fun i => (i.zero, i.size, i.bytes)) = some (some (.bool false), 1, 1) := by kernel_rfl
def bvl (l : List UInt8) (k : Nat) : List Value := ((vwl l).take k ++ List.replicate (l.length - k) false).map Value.bool
theorem bvl_at (l : List UInt8) (k : Nat) (h : k < l.length) : (bvl l k)[k]? = some (.bool false) := by
  unfold bvl
  rw [List.getElem?_map, List.getElem?_append_right (by rw [List.length_take, vwl_len]; omega), List.length_take, vwl_len, Nat.min_eq_left (by omega), Nat.sub_self, List.getElem?_replicate, if_pos (by omega)]
  rfl
theorem bvl_pre (l : List UInt8) (k : Nat) (h : k < l.length) (h0 : 0 < k) : (bvl l k)[k - 1]? = some (.bool (vat l (k - 1))) := by
  unfold bvl vat
  rw [List.getElem?_map, List.getElem?_append_left (by rw [List.length_take, vwl_len]; omega), List.getElem?_take, if_pos (by omega), List.getElem?_eq_getElem (by rw [vwl_len]; omega), List.getD_eq_getElem?_getD, List.getElem?_eq_getElem (by rw [vwl_len]; omega), Option.getD_some]
  rfl
theorem vwl_get (l : List UInt8) (k : Nat) (h : k < l.length) (p : Bool) (hp : p = if k = 0 then true else vat l (k - 1)) : (vwl l)[k]'(by rw [vwl_len]; exact h) = vb p l[k] := by
  rw [hp]
  exact vw_get true l k h
theorem bvl_next (l : List UInt8) (k : Nat) (h : k < l.length) (p : Bool) (hp : p = if k = 0 then true else vat l (k - 1)) : (bvl l k).set k (.bool (vb p l[k])) = bvl l (k + 1) := by
  unfold bvl
  rw [← List.map_set, List.set_append_right _ _ (by rw [List.length_take, vwl_len]; omega), List.length_take, vwl_len, Nat.min_eq_left (by omega), Nat.sub_self, List.take_succ_eq_append_getElem (by rw [vwl_len]; exact h), vwl_get l k h p hp, List.append_assoc]
  rw [show l.length - k = (l.length - (k + 1)) + 1 by omega, List.replicate_succ, List.set_cons_zero]
  rfl
theorem bvl_stay (l : List UInt8) (k : Nat) (h : k < l.length) (p : Bool) (hp : p = if k = 0 then true else vat l (k - 1)) (hb : vb p l[k] = false) : bvl l k = bvl l (k + 1) := by
  rw [← bvl_next l k h p hp, hb]
  obtain ⟨hk, e⟩ := List.getElem?_eq_some_iff.1 (bvl_at l k h)
  rw [← e, List.set_getElem_self]
theorem bvl_end (l : List UInt8) : bvl l l.length = (vwl l).map Value.bool := by
  unfold bvl
  rw [Nat.sub_self, List.replicate_zero, List.append_nil, List.take_of_length_le (by rw [vwl_len]; exact Nat.le_refl _)]
theorem made_list (z : Value) (n : Nat) : (madeCells #[z] n).toList = List.replicate n z := by
  apply List.ext_getElem?
  intro i
  rw [Array.getElem?_toList, List.getElem?_replicate]
  by_cases h : i < n
  · rw [if_pos h]; simp [madeCells, h, Nat.mod_one]
  · rw [if_neg h, Array.getElem?_eq_none (by rw [size_madeCells]; omega)]
theorem bvl_start (w : World) (l : List UInt8) (hl : l.length ≤ 281474976710656) : Gro w (w.alloc (.cells (madeCells #[.bool false] l.length) 4)) 4 1 (.slice (some ⟨w.heap.size, 0, none⟩) l.length l.length) l.length (bvl l 0) := by
  have e : (madeCells #[Value.bool false] l.length).toList = bvl l 0 := by
    rw [made_list]
    unfold bvl
    rw [List.take_zero, List.nil_append, Nat.sub_zero, List.map_replicate]
  refine ⟨⟨by rw [← e, made_list, List.length_replicate, Nat.mul_one], .inr ⟨w.heap.size, l.length, madeCells #[.bool false] l.length, rfl, Nat.le_refl _, heap_alloc_new w _, Nat.le_refl _, by unfold maxLen; omega, by rw [size_madeCells, Nat.mul_one], ?_⟩⟩, Kept.alloc _ _⟩
  rw [Nat.mul_one, ← e, List.take_of_length_le (by rw [Array.length_toList, size_madeCells]; exact Nat.le_refl _)]
theorem vb_y (p : Bool) : vb p 121 = !p := by cases p <;> rfl
theorem vb_no (p : Bool) (c : UInt8) (h1 : c ≠ 97) (h2 : c ≠ 101) (h3 : c ≠ 105) (h4 : c ≠ 111) (h5 : c ≠ 117) (h6 : c ≠ 121) : vb p c = false := by
  simp [vb, isVw, h1, h2, h3, h4, h5, h6]
theorem u8_ne {c d : UInt8} (h : c ≠ d) : ((c.toNat : Int) == (d.toNat : Int)) = false := by
  rw [beq_eq_false_iff_ne]
  intro e
  exact h (UInt8.toNat_inj.1 (by omega))
set_option maxRecDepth 20000 in
set_option maxHeartbeats 4000000 in
theorem vowels_any (l : List UInt8) (w : World) (hl : l.length ≤ 281474976710656) :
    Calls Tryd.prog 55 #[.string (bq l)] w fun e w' => ∃ g, e = .returned (.slice (some ⟨g, 0, none⟩) l.length l.length) ∧ Gro w w' 4 1 (.slice (some ⟨g, 0, none⟩) l.length l.length) l.length ((vwl l).map Value.bool) := by
  have hm := run_make_row' (P := Tryd.prog) 79 4 (.bool false) 1 Tryd.underlying79 Tryd.infoBo rfl .i64 .i64 l.length (by omega) (by omega) w
  have HG := hideV (bvl_start w l hl)
  generalize w.alloc (.cells (madeCells #[.bool false] l.length) 4) = W1 at hm HG
  obtain ⟨s, hs⟩ : ∃ s, s = bq l := ⟨_, rfl⟩
  have hz : s.size = l.length := by rw [hs]; exact bq_size l
  have hz' : (s.size : Int) = (l.length : Int) := by rw [hz]
  have HX : Hid (∀ k (h : k < l.length) (h2 : k < s.size), s[k] = l[k]) := hideV (fun k h h2 => by subst hs; rfl)
  rw [← hs]
  clear hs
  obtain ⟨g, hg⟩ : ∃ g, g = w.heap.size := ⟨_, rfl⟩
  rw [← hg] at hm HG
  clear hg
  go_enter Tryd.func55, Tryd.ntmps55
  go_wp2
  go_loopw [10] (fun i wr => ∃ (k : Nat), k ≤ l.length ∧ i = .int .i64 k ∧ Hid (Gro w wr 4 1 (.slice (some ⟨g, 0, none⟩) l.length l.length) l.length (bvl l k))) (fun i _ => l.length - (intOf i).toNat)
  case atStart => exact ⟨0, by omega, rfl, HG⟩
  case round =>
    obtain ⟨k, hk, rfl, HR⟩ := hrel
    clear HG hm
    by_cases hlt : k < l.length
    · obtain ⟨p, hp⟩ : ∃ p : Bool, p = if k = 0 then true else vat l (k - 1) := ⟨_, rfl⟩
      have h2 : k < s.size := by omega
      have hc0 := HX.out k hlt h2
      have x0 := HR.out.at (bvl_at l k hlt)
      have HN : Hid (∀ b, vb p l[k] = b → Gro w (wr.setCell ⟨g, k, none⟩ (.bool b)) 4 1 (.slice (some ⟨g, 0, none⟩) l.length l.length) l.length (bvl l (k + 1))) := hideV (fun b hb => by
        subst hb
        have := (HR.out.set k (.bool (vb p l[k]))).1
        rwa [bvl_next l k hlt p hp] at this)
      have f0 := (HR.out.set k (.bool true)).2
      have HP : Hid (0 < k → wr.cell? ⟨g, k - 1, none⟩ = some (.bool p)) := hideV (fun h0 => by
        have := HR.out.at (bvl_pre l k hlt h0)
        rw [hp, if_neg (by omega)]; exact this)
      have HP0 : Hid (k = 0 → p = true) := hideV (fun h0 => by rw [hp, if_pos h0])
      have HS : Hid (vb p l[k] = false → Gro w wr 4 1 (.slice (some ⟨g, 0, none⟩) l.length l.length) l.length (bvl l (k + 1))) := hideV (fun hb => by rw [← bvl_stay l k hlt p hp hb]; exact HR.out)
      clear hp HR
      obtain ⟨c, hc1⟩ : ∃ c, c = l[k] := ⟨_, rfl⟩
      rw [← hc1] at hc0 HN HS
      have hc3 : s[k].toNat = c.toNat := by rw [hc0]
      clear hc0 hc1 HX
      have hki : (k : Int) < (l.length : Int) := by omega
      by_cases v97 : c = 97
      · have HQ := hideV (HN.out true (by rw [v97]; rfl))
        have hc4 : s[k].toNat = 97 := by rw [hc3, v97]; rfl
        clear v97 HN HS HP HP0 hc3
        go_wp2
        go_roundw
        case rel => exact ⟨k + 1, by omega, by go_num, HQ⟩
        case measure => simp [intOf]; omega
      · have n97 : ((c.toNat : Int) == 97) = false := u8_ne v97
        by_cases v101 : c = 101
        · have HQ := hideV (HN.out true (by rw [v101]; rfl))
          have hc4 : s[k].toNat = 101 := by rw [hc3, v101]; rfl
          clear v101 HN HS HP HP0 hc3
          go_wp2
          go_roundw
          case rel => exact ⟨k + 1, by omega, by go_num, HQ⟩
          case measure => simp [intOf]; omega
        · have n101 : ((c.toNat : Int) == 101) = false := u8_ne v101
          by_cases v105 : c = 105
          · have HQ := hideV (HN.out true (by rw [v105]; rfl))
            have hc4 : s[k].toNat = 105 := by rw [hc3, v105]; rfl
            clear v105 HN HS HP HP0 hc3
            go_wp2
            go_roundw
            case rel => exact ⟨k + 1, by omega, by go_num, HQ⟩
            case measure => simp [intOf]; omega
          · have n105 : ((c.toNat : Int) == 105) = false := u8_ne v105
            by_cases v111 : c = 111
            · have HQ := hideV (HN.out true (by rw [v111]; rfl))
              have hc4 : s[k].toNat = 111 := by rw [hc3, v111]; rfl
              clear v111 HN HS HP HP0 hc3
              go_wp2
              go_roundw
              case rel => exact ⟨k + 1, by omega, by go_num, HQ⟩
              case measure => simp [intOf]; omega
            · have n111 : ((c.toNat : Int) == 111) = false := u8_ne v111
              by_cases v117 : c = 117
              · have HQ := hideV (HN.out true (by rw [v117]; rfl))
                have hc4 : s[k].toNat = 117 := by rw [hc3, v117]; rfl
                clear v117 HN HS HP HP0 hc3
                go_wp2
                go_roundw
                case rel => exact ⟨k + 1, by omega, by go_num, HQ⟩
                case measure => simp [intOf]; omega
              · have n117 : ((c.toNat : Int) == 117) = false := u8_ne v117
                by_cases v121 : c = 121
                · have hc4 : s[k].toNat = 121 := by rw [hc3, v121]; rfl
                  have HQ := hideV (HN.out (!p) (by rw [v121, vb_y]))
                  clear v97 v101 v105 v111 v117 n97 n101 n105 n111 n117 v121 HN HS hc3
                  by_cases h0 : k = 0
                  · have hpt := HP0.out h0
                    subst hpt
                    have z0 : ¬ (0 : Int) < (k : Int) := by omega
                    clear HP HP0 h0
                    go_wp2
                    go_roundw
                    case rel => exact ⟨k + 1, by omega, by go_num, HQ⟩
                    case measure => simp [intOf]; omega
                  · have y0 := HP.out (by omega)
                    have z0 : (0 : Int) < (k : Int) := by omega
                    have z1 : (0 : Int) ≤ (k : Int) - 1 := by omega
                    have z2 : (k : Int) - 1 < (l.length : Int) := by omega
                    have z3 : ((k : Int) - 1).toNat = k - 1 := by omega
                    have z4 : wrap64 ((k : Int) - 1) = (k : Int) - 1 := by unfold wrap64; omega
                    clear HP HP0 h0
                    go_wp2
                    go_roundw
                    case rel => exact ⟨k + 1, by omega, by go_num, HQ⟩
                    case measure => simp [intOf]; omega
                · have n121 : ((c.toNat : Int) == 121) = false := u8_ne v121
                  have HQ := hideV (HS.out (vb_no p c v97 v101 v105 v111 v117 v121))
                  clear v97 v101 v105 v111 v117 v121 HN HS HP HP0
                  go_wp2
                  go_roundw
                  case rel => exact ⟨k + 1, by omega, by go_num, HQ⟩
                  case measure => simp [intOf]; omega
    · obtain rfl : k = l.length := by omega
      have HE := HR
      rw [bvl_end] at HE
      go_wp2
      go_ret
      exact ⟨g, rfl, HE.out⟩
end Go.Proofs.YtnkmjhcddegkhaaDoor
