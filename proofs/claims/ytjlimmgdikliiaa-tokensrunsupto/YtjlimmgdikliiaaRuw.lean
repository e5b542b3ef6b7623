import Derived.Test.YtjlimmgdikliiaaRum
import Derived.Test.YtjlimmgdikliiaaLvt
namespace Go.Proofs.Ytjlimmgdikliiaa
open Go.ChangeShapes Go.WideShapes Go.ChangeAt Go.RowKit

theorem wb_nat (c : UInt8) (b : Bool) (h : b = (decide (97 ≤ c.toNat ∧ c.toNat ≤ 122) || (decide (65 ≤ c.toNat ∧ c.toNat ≤ 90) || (decide (48 ≤ c.toNat ∧ c.toNat ≤ 57) || (decide (c.toNat = 95) || decide (128 ≤ c.toNat)))))) : wb c = b := by
  rw [h]
  unfold wb isSm isCp isDg isHi
  have e : (c == 95) = decide (c.toNat = 95) := by
    rw [Bool.eq_iff_iff, beq_iff_eq, decide_eq_true_eq]
    exact ⟨fun h => by rw [h]; rfl, fun h => UInt8.toNat_inj.1 h⟩
  rw [e]
  simp only [Bool.decide_and]
set_option maxRecDepth 20000 in
set_option maxHeartbeats 2000000 in
theorem lwordByte_u (c : UInt8) (w : World) : Calls Try.prog 9 #[.int .u8 (c.toNat : Int)] w fun e w' => e = .returned (.bool (wb c)) ∧ w' = w := by
  have hc := c.toNat_lt
  by_cases h1 : 128 ≤ c.toNat
  · skip
    have hw : wb c = true := wb_nat c true (by simp; omega)
    rw [hw]
    have f0 : (128 : Int) ≤ (c.toNat : Int) := by omega
    go_enter Try.func9, Try.ntmps9
    go_wp2
    go_ret
    exact ⟨rfl, rfl⟩
  · skip
    by_cases h2 : c.toNat = 95
    · skip
      have hw : wb c = true := wb_nat c true (by simp; omega)
      rw [hw]
      have f0 : ¬ (128 : Int) ≤ (c.toNat : Int) := by omega
      have f9 : ((c.toNat : Int) == 95) = true := by rw [beq_iff_eq]; omega
      go_enter Try.func9, Try.ntmps9
      go_wp2
      go_ret
      exact ⟨rfl, rfl⟩
    · skip
      by_cases h3 : 48 ≤ c.toNat
      · skip
        by_cases h4 : c.toNat ≤ 57
        · skip
          have hw : wb c = true := wb_nat c true (by simp; omega)
          rw [hw]
          have f0 : ¬ (128 : Int) ≤ (c.toNat : Int) := by omega
          have f1 : (48 : Int) ≤ (c.toNat : Int) := by omega
          have f2 : (c.toNat : Int) ≤ 57 := by omega
          have f9 : ((c.toNat : Int) == 95) = false := by rw [beq_eq_false_iff_ne]; omega
          go_enter Try.func9, Try.ntmps9
          go_wp2
          go_ret
          exact ⟨rfl, rfl⟩
        · skip
          by_cases h5 : 65 ≤ c.toNat
          · skip
            by_cases h6 : c.toNat ≤ 90
            · skip
              have hw : wb c = true := wb_nat c true (by simp; omega)
              rw [hw]
              have f0 : ¬ (128 : Int) ≤ (c.toNat : Int) := by omega
              have f1 : (48 : Int) ≤ (c.toNat : Int) := by omega
              have f2 : ¬ (c.toNat : Int) ≤ 57 := by omega
              have f3 : (65 : Int) ≤ (c.toNat : Int) := by omega
              have f4 : (c.toNat : Int) ≤ 90 := by omega
              have f9 : ((c.toNat : Int) == 95) = false := by rw [beq_eq_false_iff_ne]; omega
              go_enter Try.func9, Try.ntmps9
              go_wp2
              go_ret
              exact ⟨rfl, rfl⟩
            · skip
              by_cases h7 : 97 ≤ c.toNat
              · skip
                by_cases h8 : c.toNat ≤ 122
                · skip
                  have hw : wb c = true := wb_nat c true (by simp; omega)
                  rw [hw]
                  have f0 : ¬ (128 : Int) ≤ (c.toNat : Int) := by omega
                  have f1 : (48 : Int) ≤ (c.toNat : Int) := by omega
                  have f2 : ¬ (c.toNat : Int) ≤ 57 := by omega
                  have f3 : (65 : Int) ≤ (c.toNat : Int) := by omega
                  have f4 : ¬ (c.toNat : Int) ≤ 90 := by omega
                  have f5 : (97 : Int) ≤ (c.toNat : Int) := by omega
                  have f6 : (c.toNat : Int) ≤ 122 := by omega
                  have f9 : ((c.toNat : Int) == 95) = false := by rw [beq_eq_false_iff_ne]; omega
                  go_enter Try.func9, Try.ntmps9
                  go_wp2
                  go_ret
                  exact ⟨rfl, rfl⟩
                · skip
                  have hw : wb c = false := wb_nat c false (by simp; omega)
                  rw [hw]
                  have f0 : ¬ (128 : Int) ≤ (c.toNat : Int) := by omega
                  have f1 : (48 : Int) ≤ (c.toNat : Int) := by omega
                  have f2 : ¬ (c.toNat : Int) ≤ 57 := by omega
                  have f3 : (65 : Int) ≤ (c.toNat : Int) := by omega
                  have f4 : ¬ (c.toNat : Int) ≤ 90 := by omega
                  have f5 : (97 : Int) ≤ (c.toNat : Int) := by omega
                  have f6 : ¬ (c.toNat : Int) ≤ 122 := by omega
                  have f9 : ((c.toNat : Int) == 95) = false := by rw [beq_eq_false_iff_ne]; omega
                  go_enter Try.func9, Try.ntmps9
                  go_wp2
                  go_ret
                  exact ⟨rfl, rfl⟩
              · skip
                have hw : wb c = false := wb_nat c false (by simp; omega)
                rw [hw]
                have f0 : ¬ (128 : Int) ≤ (c.toNat : Int) := by omega
                have f1 : (48 : Int) ≤ (c.toNat : Int) := by omega
                have f2 : ¬ (c.toNat : Int) ≤ 57 := by omega
                have f3 : (65 : Int) ≤ (c.toNat : Int) := by omega
                have f4 : ¬ (c.toNat : Int) ≤ 90 := by omega
                have f5 : ¬ (97 : Int) ≤ (c.toNat : Int) := by omega
                have f9 : ((c.toNat : Int) == 95) = false := by rw [beq_eq_false_iff_ne]; omega
                go_enter Try.func9, Try.ntmps9
                go_wp2
                go_ret
                exact ⟨rfl, rfl⟩
          · skip
            have hw : wb c = false := wb_nat c false (by simp; omega)
            rw [hw]
            have f0 : ¬ (128 : Int) ≤ (c.toNat : Int) := by omega
            have f1 : (48 : Int) ≤ (c.toNat : Int) := by omega
            have f2 : ¬ (c.toNat : Int) ≤ 57 := by omega
            have f3 : ¬ (65 : Int) ≤ (c.toNat : Int) := by omega
            have f4 : ¬ (97 : Int) ≤ (c.toNat : Int) := by omega
            have f9 : ((c.toNat : Int) == 95) = false := by rw [beq_eq_false_iff_ne]; omega
            go_enter Try.func9, Try.ntmps9
            go_wp2
            go_ret
            exact ⟨rfl, rfl⟩
      · skip
        have hw : wb c = false := wb_nat c false (by simp; omega)
        rw [hw]
        have f0 : ¬ (128 : Int) ≤ (c.toNat : Int) := by omega
        have f1 : ¬ (48 : Int) ≤ (c.toNat : Int) := by omega
        have f2 : ¬ (65 : Int) ≤ (c.toNat : Int) := by omega
        have f3 : ¬ (97 : Int) ≤ (c.toNat : Int) := by omega
        have f9 : ((c.toNat : Int) == 95) = false := by rw [beq_eq_false_iff_ne]; omega
        go_enter Try.func9, Try.ntmps9
        go_wp2
        go_ret
        exact ⟨rfl, rfl⟩
theorem wtk_get (l : List UInt8) (i k : Nat) (ws : List (Nat × Nat)) (h : k < ws.length) (h2 : k < (wtk l i ws).length) : (wtk l i ws)[k] = ⟨bq (wtx l ws[k]), 0, (i + k : Nat), ws[k].1, ws[k].2⟩ := by
  induction ws generalizing i k with
  | nil => simp at h
  | cons p r ih =>
    cases k with
    | zero => rfl
    | succ k =>
      show (wtk l (i + 1) r)[k]'(by rw [wtk_len]; simpa using h) = ⟨bq (wtx l (r[k]'(by simpa using h))), 0, (i + (k + 1) : Nat), _, _⟩
      rw [ih (i + 1) k (by simpa using h), show i + 1 + k = i + (k + 1) by omega]
      rfl
theorem wtx_own (t : List UInt8) (n : Nat) (h : n = t.length) : wtx t (0, n) = t := by
  unfold wtx
  rw [List.drop_zero, List.take_of_length_le (by simp only; omega)]
end Go.Proofs.Ytjlimmgdikliiaa
