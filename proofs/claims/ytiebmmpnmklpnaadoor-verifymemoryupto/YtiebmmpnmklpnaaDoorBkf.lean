import Derived.Test.YtiebmmpnmklpnaaDoorRdD
namespace Go.Proofs.YtiebmmpnmklpnaaDoor
open Go.ChangeShapes Go.WideShapes Go.ChangeAt Go.RowKit

theorem pow7 (n i : Nat) : n / 128 * 2 ^ (7 * (i + 1)) = n / 128 * 128 * 2 ^ (7 * i) := by
  rw [show 7 * (i + 1) = 7 + 7 * i by omega, Nat.pow_add, ← Nat.mul_assoc]
/-- A written uvarint is read again, whatever stands behind it. -/
theorem rdu_uvb_at : ∀ (n i acc : Nat) (r : List Int), i ≤ 9 → n < 2 ^ (64 - 7 * i) → (0 < i → 0 < n) → rdu i acc (uvb n ++ r) = .ok (acc + n * 2 ^ (7 * i), i + (uvb n).length) := by
  intro n
  induction n using Nat.strongRecOn with
  | ind n ih =>
    intro i acc r hi hn h0
    have h9 : i = 9 → n < 2 := by intro e; subst e; simpa using hn
    by_cases h : n < 128
    · rw [uvb_small h, List.singleton_append, rdu, if_neg (by omega), if_pos (by omega), if_neg (by omega)]
      have e : (n : Int).toNat % 128 = n := by omega
      rw [e]
      rfl
    · have hi9 : i < 9 := by
        rcases Nat.lt_or_ge i 9 with h1 | h1
        · exact h1
        · have := h9 (by omega); omega
      rw [uvb_big h, List.cons_append, rdu, if_neg (by omega), if_neg (by omega)]
      have e : (128 + (n : Int) % 128).toNat % 128 = n % 128 := by omega
      have hn2 : n / 128 < 2 ^ (64 - 7 * (i + 1)) := by
        apply Nat.div_lt_of_lt_mul
        rw [show (128 : Nat) = 2 ^ 7 by decide, ← Nat.pow_add, show 7 + (64 - 7 * (i + 1)) = 64 - 7 * i by omega]
        exact hn
      rw [e, ih (n / 128) (by omega) (i + 1) _ r (by omega) hn2 (by omega), pow7, List.length_cons]
      have e2 : acc + n % 128 * 2 ^ (7 * i) + n / 128 * 128 * 2 ^ (7 * i) = acc + n * 2 ^ (7 * i) := by
        rw [Nat.add_assoc, ← Nat.add_mul]
        congr 2
        omega
      rw [e2]
      congr 2
      omega
theorem rdu_uvb (n : Nat) (r : List Int) (h : n < 18446744073709551616) : rdu 0 0 (uvb n ++ r) = .ok (n, (uvb n).length) := by
  have := rdu_uvb_at n 0 0 r (by omega) (by simpa using h) (fun h => by omega)
  simpa using this
/-- What is read as a number is what is written for it. -/
theorem rdu_form_at : ∀ (l : List Int) (i acc v k : Nat), i ≤ 9 → IsBytes l → rdu i acc l = .ok (v, k) → ∃ n, v = acc + n * 2 ^ (7 * i) ∧ (0 < i → 0 < n) ∧ i ≤ k ∧ l.take (k - i) = uvb n := by
  intro l
  induction l with
  | nil => intro i acc v k _ _ h; simp [rdu] at h
  | cons c r ih =>
    intro i acc v k hi hB h
    have hc := hB c (List.mem_cons_self ..)
    rw [rdu] at h
    split at h
    · cases h
    · rename_i h9
      split at h
      · rename_i hc1
        split at h
        · cases h
        · rename_i hz
          simp only [Except.ok.injEq, Prod.mk.injEq] at h
          obtain ⟨rfl, rfl⟩ := h
          refine ⟨c.toNat, ?_, by omega, by omega, ?_⟩
          · rw [Nat.mod_eq_of_lt (by omega)]
          · rw [show i + 1 - i = 1 by omega, uvb_small (by omega)]
            simp
            omega
      · rename_i hc1
        obtain ⟨n, e1, e2, e3, e4⟩ := ih (i + 1) _ v k (by omega) (fun x hx => hB x (List.mem_cons_of_mem _ hx)) h
        have h0 := e2 (by omega)
        refine ⟨c.toNat % 128 + 128 * n, ?_, by omega, by omega, ?_⟩
        · rw [e1, show 7 * (i + 1) = 7 + 7 * i by omega, Nat.pow_add, ← Nat.mul_assoc, Nat.add_assoc, ← Nat.add_mul]
          congr 2
          omega
        · rw [show k - i = (k - (i + 1)) + 1 by omega, List.take_succ_cons, e4, uvb_big (n := c.toNat % 128 + 128 * n) (by omega)]
          congr 1
          · omega
          · congr 1; omega
theorem rdu_form {l : List Int} {n k : Nat} (hB : IsBytes l) (h : rdu 0 0 l = .ok (n, k)) : l.take k = uvb n := by
  obtain ⟨m, e1, _, _, e4⟩ := rdu_form_at l 0 0 n k (by omega) hB h
  simp at e1 e4
  rw [e4, e1]
end Go.Proofs.YtiebmmpnmklpnaaDoor
