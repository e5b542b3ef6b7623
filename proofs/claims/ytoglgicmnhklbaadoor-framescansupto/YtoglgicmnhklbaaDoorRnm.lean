import Derived.Test.YtoglgicmnhklbaaDoorDce
namespace Go.Proofs.YtoglgicmnhklbaaDoor
open Go.ChangeShapes Go.WideShapes Go.ChangeAt Go.RowKit

/-- The number of the low bits, the first byte the lowest. -/
def lo (l : List Int) : Nat := l.foldr (fun c s => c.toNat % 128 + 128 * s) 0
theorem lo_nil : lo [] = 0 := rfl
theorem lo_cons (c : Int) (r : List Int) : lo (c :: r) = c.toNat % 128 + 128 * lo r := rfl
theorem lo_append (A B : List Int) : lo (A ++ B) = lo A + 2 ^ (7 * A.length) * lo B := by
  induction A with
  | nil => simp [lo_nil]
  | cons c r ih =>
    rw [List.cons_append, lo_cons, ih, lo_cons, List.length_cons, show 7 * (r.length + 1) = 7 * r.length + 7 by omega, Nat.pow_add, Nat.mul_add, ← Nat.add_assoc]
    congr 1
    rw [show 2 ^ (7 * r.length) * 2 ^ 7 = 128 * 2 ^ (7 * r.length) by omega, Nat.mul_assoc]
theorem lo_lt (A : List Int) : lo A < 2 ^ (7 * A.length) := by
  induction A with
  | nil => simp [lo_nil]
  | cons c r ih =>
    rw [lo_cons, List.length_cons, show 7 * (r.length + 1) = 7 * r.length + 7 by omega, Nat.pow_add]
    omega
theorem lo_drop (A : List Int) (k : Nat) : lo (A.drop k) ≤ lo A := by
  induction A generalizing k with
  | nil => simp
  | cons c r ih =>
    cases k with
    | zero => simp
    | succ k => rw [List.drop_succ_cons, lo_cons]; have := ih k; omega
theorem rdu_run : ∀ (A : List Int) (i acc : Nat) (rest : List Int), (∀ x ∈ A, 128 ≤ x) → i + A.length ≤ 9 → rdu i acc (A ++ rest) = rdu (i + A.length) (acc + lo A * 2 ^ (7 * i)) rest := by
  intro A
  induction A with
  | nil => intro i acc rest _ _; simp [lo_nil]
  | cons c r ih =>
    intro i acc rest h hl
    rw [List.length_cons] at hl
    have hc := h c List.mem_cons_self
    rw [List.cons_append, rdu, if_neg (by omega), if_neg (by omega), ih _ _ _ (fun x hx => h x (List.mem_cons_of_mem _ hx)) (by omega), List.length_cons, lo_cons]
    have e : 2 ^ (7 * (i + 1)) = 128 * 2 ^ (7 * i) := by rw [show 7 * (i + 1) = 7 * i + 7 by omega, Nat.pow_add]; omega
    rw [e, show i + 1 + r.length = i + (r.length + 1) by omega]
    congr 1
    rw [Nat.add_mul, ← Nat.mul_assoc, Nat.mul_comm (lo r) 128]
    omega
/-- What stands at the place where a number may end. -/
theorem rdu_end {l : List Int} {i c : Nat} (hi : i ≤ 9) (hl : i < l.length) (hc : l[i]?.getD 0 = (c : Int)) (h : ∀ x ∈ l.take i, 128 ≤ x) :
    rdu 0 0 (l.take 10) = if i = 9 ∧ 1 < c then .error 1 else if c < 128 then (if c = 0 ∧ 0 < i then .error 1 else .ok (lo (l.take (i + 1)), i + 1)) else rdu (i + 1) (lo (l.take (i + 1))) ((l.take 10).drop (i + 1)) := by
  have hli : (l.take i).length = i := by rw [List.length_take]; omega
  have hg : l[i] = (c : Int) := by rw [List.getElem?_eq_getElem hl] at hc; exact hc
  have e1 : l.take (i + 1) = l.take i ++ [(c : Int)] := by rw [List.take_succ_eq_append_getElem hl, hg]
  have e2 : l.take 10 = l.take i ++ ((c : Int) :: (l.take 10).drop (i + 1)) := by
    have h10 : i < (l.take 10).length := by rw [List.length_take]; omega
    have q := List.take_append_drop i (l.take 10)
    rw [List.take_take, Nat.min_eq_left (by omega), List.drop_eq_getElem_cons h10, List.getElem_take, hg] at q
    exact q.symm
  have e3 : lo (l.take (i + 1)) = lo (l.take i) + c % 128 * 2 ^ (7 * i) := by
    rw [e1, lo_append, hli, lo_cons, lo_nil, Int.toNat_natCast, Nat.mul_zero, Nat.add_zero, Nat.mul_comm]
  rw [e3]
  conv => lhs; rw [e2]
  rw [rdu_run _ _ _ _ h (by omega), hli, rdu, Nat.zero_add, Nat.mul_zero, Nat.pow_zero, Nat.mul_one, Nat.zero_add, Int.toNat_natCast]
  have k1 : (i = 9 ∧ 1 < (c : Int)) ↔ (i = 9 ∧ 1 < c) := by omega
  have k2 : ((c : Int) < 128) ↔ c < 128 := by omega
  have k3 : ((c : Int) = 0 ∧ 0 < i) ↔ (c = 0 ∧ 0 < i) := by omega
  simp only [k1, k2, k3]
theorem rdu_out {l : List Int} (hl : l.length ≤ 9) (h : ∀ x ∈ l, 128 ≤ x) : rdu 0 0 (l.take 10) = .error 0 := by
  rw [List.take_of_length_le (by omega), ← List.append_nil l, rdu_run _ _ _ _ h (by omega), rdu]
def numV : Except Nat (Nat × Nat) → Value
  | .ok (x, k) => .tuple #[.int .u64 x, .int .i64 k, .int .i64 0]
  | .error e => .tuple #[.int .u64 0, .int .i64 0, .int .i64 ((e + 1 : Nat) : Int)]
end Go.Proofs.YtoglgicmnhklbaaDoor
