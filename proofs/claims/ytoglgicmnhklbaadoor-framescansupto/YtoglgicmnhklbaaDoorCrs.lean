import Derived.Test.YtoglgicmnhklbaaDoorCrw
import Derived.Test.YtoglgicmnhklbaaDoorRdB
namespace Go.Proofs.YtoglgicmnhklbaaDoor
open Go.ChangeShapes Go.WideShapes Go.ChangeAt Go.RowKit

/-- The seal's polynomial. -/
def pC : Nat := 2197175160
theorem pC_lt : pC < 4294967296 := by decide
/-- The table of four bits at a time. -/
def tabS : List Nat := [0, 498536548, 997073096, 651767980, 1994146192, 1802195444, 1303535960, 1342533948, 3988292384, 4027552580, 3604390888, 3412177804, 2607071920, 2262029012, 2685067896, 3183342108]
def tabC : List Nat := [0, 274646895, 549293790, 820201905, 1098587580, 1361435347, 1640403810, 1905808397, 2197175160, 2460548119, 2722870694, 2987750089, 3280807620, 3553878443, 3811616794, 4084100981]
theorem tabS_is : ∀ k, k < 16 → tabS[k]?.getD 0 = cxn pS 4 k := by decide +kernel
theorem tabC_is : ∀ k, k < 16 → tabC[k]?.getD 0 = cxn pC 4 k := by decide +kernel
/-- Four bits that are 0 leave without a trace. -/
theorem cxn_shift (P : Nat) (q : Nat) : ∀ n, cxn P n (2 ^ n * q) = q
  | 0 => by rw [Nat.pow_zero, Nat.one_mul]; rfl
  | n + 1 => by
    have h1 : cxn P (n + 1) (2 ^ (n + 1) * q) = cxn P n (cx P (2 ^ (n + 1) * q)) := (cxn_cx P n _).symm
    have h2 : cx P (2 ^ (n + 1) * q) = 2 ^ n * q := by
      have e : 2 ^ (n + 1) * q = 2 * (2 ^ n * q) := by rw [Nat.pow_succ']; exact Nat.mul_assoc _ _ _
      rw [e, cx, if_neg (by omega)]
      omega
    rw [h1, h2, cxn_shift P q n]
theorem split16 (r : Nat) : r = (2 ^ 4 * (r / 16)) ^^^ (r % 16) := by
  apply Nat.eq_of_testBit_eq
  intro i
  rw [Nat.testBit_xor, Nat.testBit_two_pow_mul, show r % 16 = r % 2 ^ 4 from rfl, Nat.testBit_mod_two_pow, show r / 16 = r / 2 ^ 4 from rfl, Nat.testBit_div_two_pow]
  by_cases h : i < 4
  · simp [h, show ¬ 4 ≤ i by omega]
  · simp [h, show 4 ≤ i by omega, show i - 4 + 4 = i by omega]
/-- Four bits gone over, by the table. -/
theorem nibble (P r : Nat) : cxn P 4 r = r / 16 ^^^ cxn P 4 (r % 16) := by
  have h := congrArg (cxn P 4) (split16 r)
  rw [h, cxn_xor, cxn_shift]
/-- The register behind a byte, and behind bytes. -/
def cbyte (P r c : Nat) : Nat := cxn P 8 (r ^^^ c)
def crun (P r : Nat) (l : List Int) : Nat := l.foldl (fun x c => cbyte P x c.toNat) r
theorem crun_nil (P r : Nat) : crun P r [] = r := List.foldl_nil
theorem crun_cons (P r : Nat) (c : Int) (l : List Int) : crun P r (c :: l) = crun P (cbyte P r c.toNat) l := List.foldl_cons
theorem cbyte_lt {P r c : Nat} (hP : P < 4294967296) (hr : r < 4294967296) (hc : c < 4294967296) : cbyte P r c < 4294967296 := cxn_lt hP 8 (xor_lt32 hr hc)
theorem cbyte_nib (P r c : Nat) : cbyte P r c = (let a := r ^^^ c; let b := a / 16 ^^^ cxn P 4 (a % 16); b / 16 ^^^ cxn P 4 (b % 16)) := by
  unfold cbyte
  rw [cxn_add P 4 4]
  simp only
  rw [← nibble, ← nibble]
theorem crun_append (P : Nat) (l m : List Int) (r : Nat) : crun P r (l ++ m) = crun P (crun P r l) m := List.foldl_append
theorem crun_snoc (P : Nat) (l : List Int) (r : Nat) (c : Int) : crun P r (l ++ [c]) = cbyte P (crun P r l) c.toNat := by
  rw [crun_append, crun_cons, crun_nil]
theorem crun_lt {P : Nat} (hP : P < 4294967296) (l : List Int) : ∀ {r : Nat}, IsBytes l → r < 4294967296 → crun P r l < 4294967296 := by
  induction l with
  | nil => intro r _ h; rw [crun_nil]; exact h
  | cons c l ih =>
    intro r hb h
    rw [crun_cons]
    exact ih (fun x hx => hb x (List.mem_cons_of_mem _ hx)) (cbyte_lt hP h (by have := hb c List.mem_cons_self; omega))
/-- The register's first content goes through the bytes as through noughts. -/
theorem cbyte_xor (P r s c : Nat) : cbyte P (r ^^^ s) c = cxn P 8 r ^^^ cbyte P s c := by
  unfold cbyte
  rw [Nat.xor_assoc]
  exact cxn_xor P 8 r (s ^^^ c)
theorem crun_xor (P : Nat) (l : List Int) : ∀ (r s : Nat), crun P (r ^^^ s) l = cxn P (8 * l.length) r ^^^ crun P s l := by
  induction l with
  | nil =>
    intro r s
    rw [List.length_nil, Nat.mul_zero, crun_nil, crun_nil, cxn]
  | cons c l ih =>
    intro r s
    have e2 : 8 * (c :: l).length = 8 * l.length + 8 := by rw [List.length_cons]; omega
    have e5 := cxn_add P 8 (8 * l.length) r
    rw [crun_cons, crun_cons, cbyte_xor, e2, e5]
    exact ih _ _
end Go.Proofs.YtoglgicmnhklbaaDoor
