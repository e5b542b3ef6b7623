import Derived.Test.YtbhoplmbiomogaaDoorDck
namespace Go.Proofs.YtbhoplmbiomogaaDoor
open Go.ChangeShapes Go.WideShapes Go.ChangeAt Go.RowKit

/-- The low sevens of bytes, the first lowest. -/
def loB : List Int → Nat
  | [] => 0
  | c :: r => c.toNat % 128 + 128 * loB r
theorem loB_append (A B : List Int) : loB (A ++ B) = loB A + 2 ^ (7 * A.length) * loB B := by
  induction A with
  | nil => simp [loB]
  | cons c r ih =>
    rw [List.cons_append, loB, loB, ih, List.length_cons, show 7 * (r.length + 1) = 7 + 7 * r.length by omega, Nat.pow_add, Nat.mul_add]
    have : 2 ^ 7 * 2 ^ (7 * r.length) * loB B = 128 * (2 ^ (7 * r.length) * loB B) := by rw [Nat.mul_assoc]
    omega
theorem loB_drop (A : List Int) (k : Nat) : loB (A.drop k) ≤ loB A := by
  induction k generalizing A with
  | zero => simp
  | succ k ih =>
    cases A with
    | nil => simp
    | cons c r =>
      rw [List.drop_succ_cons, loB]
      have := ih r
      omega
theorem loB_one (A : List Int) (c : Int) : loB (A ++ [c]) = loB A + c.toNat % 128 * 2 ^ (7 * A.length) := by
  rw [loB_append, loB, loB, Nat.mul_zero, Nat.add_zero, Nat.mul_comm]
/-- How far the reading has come: i bytes, all of them 128 and more. -/
structure Far (L : List Int) (i : Nat) : Prop where
  eq : rdu 0 0 L = rdu i (loB (L.take i)) (L.drop i)
  le : i ≤ 9
  il : i ≤ L.length
theorem far_0 (L : List Int) : Far L 0 := ⟨by simp [loB], by omega, by omega⟩
theorem far_end {L : List Int} {i : Nat} (h : Far L i) (hi : L.length ≤ i) : rdu 0 0 L = .error 0 := by
  rw [h.eq, List.drop_of_length_le hi, rdu]
theorem far_at {L : List Int} {i c : Nat} (h : Far L i) (hi : i < L.length) (hc : L[i] = (c : Int)) :
    rdu 0 0 L = if i = 9 ∧ 1 < c then .error 1 else if c < 128 then (if c = 0 ∧ 0 < i then .error 1 else .ok (loB (L.take (i + 1)), i + 1)) else rdu (i + 1) (loB (L.take (i + 1))) (L.drop (i + 1)) := by
  have e1 : loB (L.take (i + 1)) = loB (L.take i) + c % 128 * 2 ^ (7 * i) := by
    rw [List.take_succ_eq_append_getElem hi, hc, loB_one, Int.toNat_natCast, List.length_take, Nat.min_eq_left (by omega)]
  rw [h.eq, List.drop_eq_getElem_cons hi, hc, rdu, e1, Int.toNat_natCast]
  have k1 : (i = 9 ∧ 1 < (c : Int)) ↔ (i = 9 ∧ 1 < c) := by omega
  have k2 : ((c : Int) < 128) ↔ c < 128 := by omega
  have k3 : ((c : Int) = 0 ∧ 0 < i) ↔ (c = 0 ∧ 0 < i) := by omega
  simp only [k1, k2, k3]
theorem far_next {L : List Int} {i c : Nat} (h : Far L i) (hi : i < L.length) (hc : L[i] = (c : Int)) (h1 : ¬ (i = 9 ∧ 1 < c)) (h2 : ¬ c < 128) : Far L (i + 1) := by
  have := h.le
  refine ⟨?_, by omega, by omega⟩
  rw [far_at h hi hc, if_neg h1, if_neg h2]
theorem loB_step {L : List Int} {n q c : Nat} (hq : q < n) (hn : n ≤ L.length) (hc : L[q]? = some (c : Int)) : loB ((L.take n).drop q) = c % 128 + 128 * loB ((L.take n).drop (q + 1)) := by
  have hqn : q < (L.take n).length := by rw [List.length_take]; omega
  have e : (L.take n)[q] = (c : Int) := by
    rw [List.getElem_take]
    rw [List.getElem?_eq_getElem (by omega)] at hc
    exact Option.some.inj hc
  rw [List.drop_eq_getElem_cons hqn, e, loB, Int.toNat_natCast]
theorem loB_all {L : List Int} {n : Nat} : loB ((L.take n).drop n) = 0 := by
  rw [List.drop_of_length_le (by rw [List.length_take]; omega)]; rfl
end Go.Proofs.YtbhoplmbiomogaaDoor
