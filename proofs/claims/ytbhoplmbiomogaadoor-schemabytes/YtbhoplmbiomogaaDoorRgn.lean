import Derived.Test.YtbhoplmbiomogaaDoorScy
import Derived.Test.YtbhoplmbiomogaaDoorFnd2
import Derived.Deep.QuietTactic
import Derived.BigQuiet
namespace Go.Proofs.YtbhoplmbiomogaaDoor
open Go.ChangeShapes Go.WideShapes Go.ChangeAt Go.RowKit Go.Maps

theorem isW_eq (c : UInt8) : isW c = (lz c.toNat || nz c.toNat || decide (c.toNat = 95)) := rfl
theorem isW_yes (c : UInt8) (h : (97 ≤ c.toNat ∧ c.toNat ≤ 122) ∨ (48 ≤ c.toNat ∧ c.toNat ≤ 57) ∨ c.toNat = 95) : isW c = true := by
  rw [isW_eq]
  unfold lz nz
  rcases h with h | h | h
  · rw [decide_eq_true h]; rfl
  · rw [decide_eq_true h, Bool.or_true]; rfl
  · rw [decide_eq_true h, Bool.or_true]
theorem isW_no (c : UInt8) (h : ¬ ((97 ≤ c.toNat ∧ c.toNat ≤ 122) ∨ (48 ≤ c.toNat ∧ c.toNat ≤ 57) ∨ c.toNat = 95)) : isW c = false := by
  rw [isW_eq]
  unfold lz nz
  rw [decide_eq_false (fun q => h (Or.inl q)), decide_eq_false (fun q => h (Or.inr (Or.inl q))), decide_eq_false (fun q => h (Or.inr (Or.inr q)))]; rfl
theorem ret_b {a b : Bool} (h : b = a) : Ending.returned (.bool a) = .returned (.bool b) := by rw [h]
set_option maxRecDepth 20000 in
set_option maxHeartbeats 2000000 in
theorem rgname_loop (s : ByteArray) (w : World) (h0 : 0 < s.size) (h1 : s.size ≤ 32) :
    Calls Tryd.prog 39 #[.string s] w fun e w' => e = .returned (.bool (lz s[0].toNat && s.data.toList.all isW)) ∧ w' = w := by
  obtain ⟨B, hB⟩ : ∃ B, B = (lz s[0].toNat && s.data.toList.all isW) := ⟨_, rfl⟩
  rw [← hB]
  have HQ := hideW hB
  clear hB
  have h0' : ¬ (s.size : Int) < 1 := by omega
  have h1' : ¬ 32 < (s.size : Int) := by omega
  go_enter Tryd.func39, Tryd.ntmps39
  go_wp2
  go_loopw [3] (fun i wr => ∃ (k : Nat), k ≤ s.size ∧ i = .int .i64 k ∧ Hid ((s.data.toList.take k).all isW = true) ∧ Hid (0 < k → lz s[0].toNat = true) ∧ wr = w) (fun i _ => s.size - (intOf i).toNat)
  case atStart => exact ⟨0, by omega, rfl, rfl, hideW (fun h => absurd h (by omega)), rfl⟩
  case round =>
    obtain ⟨k, hk, rfl, hA, hL0, rfl⟩ := hrel
    by_cases hlt : k < s.size
    · have HN := hideW (all_next s k hlt hA.out)
      have HB := hideW (all_bad s k hlt)
      have HL : Hid (lz s[k].toNat = true → lz s[0].toNat = true) := hideW (fun h => by
        by_cases e : k = 0
        · subst e; exact h
        · exact hL0.out (by omega))
      have HZ : Hid (k = 0 → lz s[k].toNat = false → lz s[0].toNat = false) := hideW (fun e h => by subst e; exact h)
      clear hA
      obtain ⟨c, hc⟩ : ∃ c, c = s[k] := ⟨_, rfl⟩
      rw [← hc] at HN HB HL HZ
      have hc2 : s[k].toNat = c.toNat := by rw [hc]
      have hc3 : (s[k].toNat : Int) = (c.toNat : Int) := by rw [hc]
      have hcb : c.toNat < 256 := c.toNat_lt
      clear hc
      by_cases hS : 97 ≤ c.toNat ∧ c.toNat ≤ 122
      · have a1 : (97 : Int) ≤ c.toNat := by omega
        have a2 : (c.toNat : Int) ≤ 122 := by omega
        have HW := hideW (isW_yes c (Or.inl hS))
        have HL2 := hideW (HL.out (decide_eq_true hS))
        clear hS HZ HB HL
        go_wp2
        go_roundw
        case rel => exact ⟨k + 1, by omega, by go_num, HN.out HW.out, hideW (fun _ => HL2.out), trivial⟩
        case measure => simp [intOf]; omega
      · have hq : (decide ((97 : Int) ≤ c.toNat) && decide ((c.toNat : Int) ≤ 122)) = false := by
          rw [Bool.and_eq_false_iff, decide_eq_false_iff_not, decide_eq_false_iff_not]; omega
        have hnl : lz c.toNat = false := decide_eq_false hS
        by_cases hk0 : k = 0
        · have HX := hideW (HZ.out hk0 hnl)
          have z0 : ((k : Int) == 0) = true := by simp [hk0]
          clear hk0 HZ HL HB HN hnl
          by_cases a1 : (97 : Int) ≤ c.toNat
          · have a2 : ¬ (c.toNat : Int) ≤ 122 := by omega
            clear hS hq
            go_wp2
            go_ret
            exact ⟨ret_b (by rw [HQ.out, HX.out]; rfl), rfl⟩
          · clear hS hq
            go_wp2
            go_ret
            exact ⟨ret_b (by rw [HQ.out, HX.out]; rfl), rfl⟩
        · have HX := hideW (hL0.out (by omega))
          have z0 : ((k : Int) == 0) = false := by simp; omega
          by_cases hG : (48 ≤ c.toNat ∧ c.toNat ≤ 57) ∨ c.toNat = 95
          · have HW := hideW (isW_yes c (Or.inr hG))
            have a1 : ¬ (97 : Int) ≤ c.toNat := by omega
            clear hS hq hnl HZ HL HB
            by_cases hu : c.toNat = 95
            · have q1 : ((c.toNat : Int) == 95) = true := by simp [hu]
              have q2 : (c.toNat : Int) = 95 := by omega
              clear hG hu
              go_wp2
              go_roundw
              case rel => exact ⟨k + 1, by omega, by go_num, HN.out HW.out, hideW (fun _ => HX.out), trivial⟩
              case measure => simp [intOf]; omega
            · have q1 : ((c.toNat : Int) == 95) = false := by simp; omega
              have q2 : ¬ (c.toNat : Int) < 48 := by omega
              have q3 : ¬ 57 < (c.toNat : Int) := by omega
              clear hG hu
              go_wp2
              go_roundw
              case rel => exact ⟨k + 1, by omega, by go_num, HN.out HW.out, hideW (fun _ => HX.out), trivial⟩
              case measure => simp [intOf]; omega
          · have HW := hideW (HB.out (isW_no c (fun q => q.elim hS hG)))
            have q1 : ((c.toNat : Int) == 95) = false := by simp; omega
            clear HZ HL HB HN hnl
            by_cases a1 : (97 : Int) ≤ c.toNat
            · have a2 : ¬ (c.toNat : Int) ≤ 122 := by omega
              have q2 : ¬ (c.toNat : Int) < 48 := by omega
              have q3 : 57 < (c.toNat : Int) := by omega
              clear hS hq hG
              go_wp2
              go_ret
              exact ⟨ret_b (by rw [HQ.out, HW.out, Bool.and_false]), rfl⟩
            · by_cases q2 : (c.toNat : Int) < 48
              · clear hS hq hG
                go_wp2
                go_ret
                exact ⟨ret_b (by rw [HQ.out, HW.out, Bool.and_false]), rfl⟩
              · have q3 : 57 < (c.toNat : Int) := by omega
                have q4 : ((c.toNat : Int) != 95) = true := by rw [bne, q1]; rfl
                clear hS hq hG
                go_wp2
                go_ret
                exact ⟨ret_b (by rw [HQ.out, HW.out, Bool.and_false]), rfl⟩
    · obtain rfl : k = s.size := by omega
      have HX := hideW (hL0.out h0)
      go_wp2
      go_ret
      refine ⟨ret_b ?_, rfl⟩
      have e := hA.out
      rw [List.take_of_length_le (by rw [Array.length_toList]; exact Nat.le_refl _)] at e
      rw [HQ.out, e, HX.out]; rfl
set_option maxRecDepth 20000 in
/-- The document's goodName. -/
theorem rgname_any (s : ByteArray) (w : World) (hs : s.size ≤ maxLen) :
    Calls Tryd.prog 39 #[.string s] w fun e w' => e = .returned (.bool (gname s.data.toList)) ∧ w' = w := by
  unfold maxLen at hs
  by_cases h0 : s.size = 0
  · have e : gname s.data.toList = false := by rw [List.eq_nil_of_length_eq_zero (l := s.data.toList) (by rw [Array.length_toList]; exact h0)]; rfl
    have h0' : (s.size : Int) < 1 := by omega
    rw [e]
    clear h0 e
    go_enter Tryd.func39, Tryd.ntmps39
    go_wp2
    go_ret
    exact ⟨rfl, rfl⟩
  · have hp : 0 < s.size := by omega
    rw [gname_eq s hp]
    by_cases h1 : s.size ≤ 32
    · have := rgname_loop s w hp h1
      simpa [h1] using this
    · have h0' : ¬ (s.size : Int) < 1 := by omega
      have h1' : 32 < (s.size : Int) := by omega
      rw [show decide (s.size ≤ 32) = false from decide_eq_false h1, Bool.false_and, Bool.false_and]
      clear h1 h0
      go_enter Tryd.func39, Tryd.ntmps39
      go_wp2
      go_ret
      exact ⟨rfl, rfl⟩
end Go.Proofs.YtbhoplmbiomogaaDoor
