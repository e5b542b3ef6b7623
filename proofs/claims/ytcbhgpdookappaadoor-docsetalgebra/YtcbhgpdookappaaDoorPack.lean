import Derived.Test.YtcbhgpdookappaaDoorNums
namespace Go.Proofs.YtcbhgpdookappaaDoor
open Go.RowKit

/-- The m lowest digits of n to the base 256, the lowest first. -/
def le : Nat → Nat → List Int
  | 0, _ => []
  | m + 1, n => ((n % 256 : Nat) : Int) :: le m (n / 256)
theorem le_length (m : Nat) : ∀ n, (le m n).length = m := by
  induction m with
  | zero => intro n; rfl
  | succ m ih => intro n; simp [le, ih]
theorem le_snoc (m : Nat) : ∀ n, le (m + 1) n = le m n ++ [((n / 256 ^ m % 256 : Nat) : Int)] := by
  induction m with
  | zero => intro n; simp [le]
  | succ m ih =>
    intro n
    rw [le, ih, le, List.cons_append, Nat.div_div_eq_div_mul, Nat.pow_succ, Nat.mul_comm 256]
/-- Only what lies below 256^m counts. -/
theorem le_mod (m : Nat) : ∀ n k, n % 256 ^ m = k % 256 ^ m → le m n = le m k := by
  induction m with
  | zero => intro n k _; rfl
  | succ m ih =>
    intro n k h
    have hp : 256 ^ (m + 1) = 256 * 256 ^ m := by rw [Nat.pow_succ, Nat.mul_comm]
    rw [hp] at h
    have h1 : n % 256 = k % 256 := by
      have a := congrArg (· % 256) h
      simpa [Nat.mod_mul_right_mod] using a
    have h2 : n / 256 % 256 ^ m = k / 256 % 256 ^ m := by
      have a := congrArg (· / 256) h
      simpa [Nat.mod_mul_right_div_self] using a
    rw [le, le, h1, ih _ _ h2]
/-- The number that a list of elements of the width w stands for. -/
def pk (w : Nat) : List Int → Nat
  | [] => 0
  | x :: r => x.toNat + 2 ^ w * pk w r
theorem pk_snoc (w : Nat) (x : Int) : ∀ l, pk w (l ++ [x]) = pk w l + 2 ^ (w * l.length) * x.toNat := by
  intro l
  induction l with
  | nil => simp [pk]
  | cons y r ih =>
    rw [List.cons_append, pk, pk, ih, List.length_cons, Nat.mul_succ, Nat.pow_add, Nat.mul_add]
    have : 2 ^ (w * r.length) * 2 ^ w * x.toNat = 2 ^ w * (2 ^ (w * r.length) * x.toNat) := by
      rw [Nat.mul_comm (2 ^ (w * r.length)), Nat.mul_assoc]
    omega
theorem pk_lt (w : Nat) : ∀ l : List Int, (∀ x ∈ l, x.toNat < 2 ^ w) → pk w l < 2 ^ (w * l.length) := by
  intro l
  induction l with
  | nil => intro _; simp [pk]
  | cons y r ih =>
    intro h
    have h1 := h y (List.mem_cons_self ..)
    have h2 := ih (fun x hx => h x (List.mem_cons_of_mem _ hx))
    rw [pk, List.length_cons, Nat.mul_succ, Nat.pow_add]
    have h3 : 2 ^ w * (pk w r + 1) ≤ 2 ^ w * 2 ^ (w * r.length) := Nat.mul_le_mul_left _ h2
    rw [Nat.mul_add, Nat.mul_one, Nat.mul_comm (2 ^ w) (2 ^ (w * r.length))] at h3
    omega
/-- All bits of all elements. -/
def orl (l : List Int) : Nat := l.foldl (fun a x => a ||| x.toNat) 0
theorem orl_snoc (l : List Int) (x : Int) : orl (l ++ [x]) = orl l ||| x.toNat := by simp [orl, List.foldl_append]
theorem bitLen_le_iff (n k : Nat) : bitLen n ≤ k ↔ n < 2 ^ k := by
  constructor
  · intro h
    exact Nat.lt_of_lt_of_le (bitLen_spec n).1 (Nat.pow_le_pow_right (by decide) h)
  · intro h
    unfold bitLen
    split
    · omega
    · rename_i h0
      have := (Nat.log2_lt h0).2 h
      omega
theorem bitLen_or (a b : Nat) : bitLen (a ||| b) = max (bitLen a) (bitLen b) := by
  apply Nat.le_antisymm
  · rw [bitLen_le_iff]
    exact Nat.or_lt_two_pow ((bitLen_le_iff _ _).1 (Nat.le_max_left ..)) ((bitLen_le_iff _ _).1 (Nat.le_max_right ..))
  · have h := (bitLen_le_iff (a ||| b) _).1 (Nat.le_refl _)
    have h1 : bitLen a ≤ bitLen (a ||| b) := (bitLen_le_iff _ _).2 (Nat.lt_of_le_of_lt Nat.left_le_or h)
    have h2 : bitLen b ≤ bitLen (a ||| b) := (bitLen_le_iff _ _).2 (Nat.lt_of_le_of_lt Nat.right_le_or h)
    omega
theorem orl_lt (k : Nat) : ∀ l : List Int, (∀ x ∈ l, x.toNat < 2 ^ k) → orl l < 2 ^ k := by
  intro l
  suffices h : ∀ (l : List Int) (a : Nat), a < 2 ^ k → (∀ x ∈ l, x.toNat < 2 ^ k) → l.foldl (fun a x => a ||| x.toNat) a < 2 ^ k from fun hl => h l 0 (Nat.two_pow_pos _) hl
  intro l
  induction l with
  | nil => intro a ha _; simpa using ha
  | cons y r ih =>
    intro a ha h
    exact ih _ (Nat.or_lt_two_pow ha (h y (List.mem_cons_self ..))) (fun x hx => h x (List.mem_cons_of_mem _ hx))
theorem le_orl : ∀ (l : List Int) (x : Int), x ∈ l → x.toNat ≤ orl l := by
  suffices h : ∀ (l : List Int) (a : Nat), a ≤ l.foldl (fun a x => a ||| x.toNat) a ∧ ∀ x ∈ l, x.toNat ≤ l.foldl (fun a x => a ||| x.toNat) a from fun l x hx => (h l 0).2 x hx
  intro l
  induction l with
  | nil => intro a; exact ⟨Nat.le_refl _, fun x hx => by cases hx⟩
  | cons y r ih =>
    intro a
    have h := ih (a ||| y.toNat)
    refine ⟨Nat.le_trans Nat.left_le_or h.1, fun x hx => ?_⟩
    rcases List.mem_cons.1 hx with rfl | hx
    · exact Nat.le_trans Nat.right_le_or h.1
    · exact h.2 x hx
theorem mem_lt_width {l : List Int} {x : Int} (h : x ∈ l) : x.toNat < 2 ^ bitLen (orl l) :=
  Nat.lt_of_le_of_lt (le_orl l x h) (bitLen_spec _).1
theorem or_i64 (a b : Nat) (ha : a < 2 ^ 63) (hb : b < 2 ^ 63) : bits .or .i64 (a : Int) (b : Int) = ((a ||| b : Nat) : Int) := by
  show IntKind.i64.wrap ((BitVec.ofInt 64 (a : Int) ||| BitVec.ofInt 64 (b : Int)).toNat : Int) = _
  rw [BitVec.toNat_or, ofInt_nat a (by omega), ofInt_nat b (by omega), IntKind.wrap_i64]
  have := Nat.or_lt_two_pow ha hb
  omega
theorem or_u8 (a b : Nat) (ha : a < 256) (hb : b < 256) : bits .or .u8 (a : Int) (b : Int) = ((a ||| b : Nat) : Int) := by
  show IntKind.u8.wrap ((BitVec.ofInt 8 (a : Int) ||| BitVec.ofInt 8 (b : Int)).toNat : Int) = _
  have e : ∀ x : Nat, x < 256 → (BitVec.ofInt 8 (x : Int)).toNat = x := fun x hx => by
    rw [BitVec.ofInt_natCast, BitVec.toNat_ofNat]; exact Nat.mod_eq_of_lt hx
  rw [BitVec.toNat_or, e a ha, e b hb, IntKind.wrap_u8]
  have : a ||| b < 2 ^ 8 := Nat.or_lt_two_pow ha hb
  omega
/-- What is put above the bits that are there is added. -/
theorem or_above (a b u : Nat) (ha : a < 2 ^ u) : a ||| (b * 2 ^ u) = a + b * 2 ^ u := by
  rw [Nat.or_comm, Nat.mul_comm, Nat.add_comm]
  exact (Nat.two_pow_add_eq_or_of_lt ha b).symm
end Go.Proofs.YtcbhgpdookappaaDoor
