import Derived.Test.YtmpneljkpcniiaaDoorRdE
namespace Go.Proofs.YtmpneljkpcniiaaDoor
open Go.ChangeShapes Go.WideShapes Go.ChangeAt Go.RowKit

/-- The number of bytes, the lowest first. -/
def vle : List Int → Nat
  | [] => 0
  | c :: r => c.toNat + 256 * vle r
theorem vle_snoc (c : Int) : ∀ l, vle (l ++ [c]) = vle l + 256 ^ l.length * c.toNat := by
  intro l
  induction l with
  | nil => simp [vle]
  | cons y r ih =>
    rw [List.cons_append, vle, vle, ih, List.length_cons, Nat.pow_succ, Nat.mul_add]
    have : 256 ^ r.length * 256 * c.toNat = 256 * (256 ^ r.length * c.toNat) := by rw [Nat.mul_comm (256 ^ r.length), Nat.mul_assoc]
    omega
theorem vle_lt : ∀ l : List Int, IsBytes l → vle l < 256 ^ l.length := by
  intro l
  induction l with
  | nil => intro _; simp [vle]
  | cons y r ih =>
    intro h
    have h1 := h y (List.mem_cons_self ..)
    have h2 := ih (fun x hx => h x (List.mem_cons_of_mem _ hx))
    rw [vle, List.length_cons, Nat.pow_succ]
    have : 256 * (vle r + 1) ≤ 256 * 256 ^ r.length := Nat.mul_le_mul_left _ h2
    omega
theorem le_vle : ∀ l : List Int, IsBytes l → le l.length (vle l) = l := by
  intro l
  induction l with
  | nil => intro _; rfl
  | cons y r ih =>
    intro h
    have h1 := h y (List.mem_cons_self ..)
    have h2 := ih (fun x hx => h x (List.mem_cons_of_mem _ hx))
    rw [List.length_cons, vle, le]
    have e1 : (y.toNat + 256 * vle r) % 256 = y.toNat := by omega
    have e2 : (y.toNat + 256 * vle r) / 256 = vle r := by omega
    rw [e1, e2, h2]
    congr 1
    omega
theorem vle_le : ∀ m n, vle (le m n) = n % 256 ^ m := by
  intro m
  induction m with
  | zero => intro n; simp [le, vle, Nat.mod_one]
  | succ m ih =>
    intro n
    rw [le, vle, ih, Nat.pow_succ, Nat.mul_comm (256 ^ m), Nat.mod_mul, Int.toNat_natCast]
theorem le_bytes : ∀ m n, IsBytes (le m n) := by
  intro m
  induction m with
  | zero => intro n x hx; cases hx
  | succ m ih =>
    intro n x hx
    rw [le] at hx
    rcases List.mem_cons.1 hx with rfl | hx
    · omega
    · exact ih _ x hx
theorem word_or (acc c k : Nat) (hacc : acc < 256 ^ k) (hc : c < 256) (hk : k < 8) :
    bits .or .u64 (acc : Int) (IntKind.u64.wrap ((c : Int) * 2 ^ (8 * k))) = ((acc + 256 ^ k * c : Nat) : Int) := by
  have hb : (c + 1) * 2 ^ (8 * k) ≤ 256 * 2 ^ (8 * k) := Nat.mul_le_mul_right _ hc
  rw [Nat.add_mul, Nat.one_mul, show (256 : Nat) = 2 ^ 8 by decide, ← Nat.pow_add] at hb
  have hp : 2 ^ (8 + 8 * k) ≤ 2 ^ 64 := Nat.pow_le_pow_right (by decide) (by omega)
  rw [pow8] at hacc ⊢
  have e : IntKind.u64.wrap ((c : Int) * 2 ^ (8 * k)) = ((c * 2 ^ (8 * k) : Nat) : Int) := by
    rw [IntKind.wrap_u64]
    have e1 : ((c : Int) * 2 ^ (8 * k)) = ((c * 2 ^ (8 * k) : Nat) : Int) := by push_cast; rfl
    rw [e1]
    omega
  rw [e, or_u64 _ _ (by omega) (by omega), or_above _ _ _ hacc, Nat.mul_comm c]
theorem vle_take_succ {l : List Int} {p k : Nat} (h : p + k < l.length) (c : Nat) (hc : l[p + k] = c) : vle ((l.drop p).take (k + 1)) = vle ((l.drop p).take k) + 256 ^ k * c := by
  have hk : k < (l.drop p).length := by rw [List.length_drop]; omega
  rw [List.take_succ_eq_append_getElem hk, vle_snoc, List.length_take, Nat.min_eq_left (by omega), List.getElem_drop, hc]
  rfl

end Go.Proofs.YtmpneljkpcniiaaDoor
