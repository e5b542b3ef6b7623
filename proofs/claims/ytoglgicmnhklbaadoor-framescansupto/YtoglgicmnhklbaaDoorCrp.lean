import Derived.WalkKit
namespace Go.Proofs.YtoglgicmnhklbaaDoor
open Go.RowKit

theorem ofInt_nat32 (x : Nat) (hx : x < 4294967296) : (BitVec.ofInt 32 (x : Int)).toNat = x := by
  rw [BitVec.ofInt_natCast, BitVec.toNat_ofNat]; exact Nat.mod_eq_of_lt hx
theorem xor_lt32 {a b : Nat} (ha : a < 4294967296) (hb : b < 4294967296) : a ^^^ b < 4294967296 := Nat.xor_lt_two_pow (n := 32) ha hb
theorem xor_u32 (a b : Nat) (ha : a < 4294967296) (hb : b < 4294967296) : bits .xor .u32 (a : Int) (b : Int) = ((a ^^^ b : Nat) : Int) := by
  show IntKind.u32.wrap ((BitVec.ofInt 32 (a : Int) ^^^ BitVec.ofInt 32 (b : Int)).toNat : Int) = _
  rw [BitVec.toNat_xor, ofInt_nat32 a ha, ofInt_nat32 b hb, IntKind.wrap_u32]
  have := xor_lt32 ha hb
  omega
theorem and_u32 (a b : Nat) (ha : a < 4294967296) (hb : b < 4294967296) : bits .and .u32 (a : Int) (b : Int) = ((a &&& b : Nat) : Int) := by
  show IntKind.u32.wrap ((BitVec.ofInt 32 (a : Int) &&& BitVec.ofInt 32 (b : Int)).toNat : Int) = _
  rw [BitVec.toNat_and, ofInt_nat32 a ha, ofInt_nat32 b hb, IntKind.wrap_u32]
  have : a &&& b ≤ a := Nat.and_le_left
  omega
theorem and1_u32 (a : Nat) (ha : a < 4294967296) : bits .and .u32 (a : Int) 1 = ((a % 2 : Nat) : Int) := by
  have := and_u32 a 1 ha (by decide)
  rw [Nat.and_one_is_mod] at this
  exact this

/-- The register with one bit more gone over. -/
def cx (P q : Nat) : Nat := if q % 2 = 1 then q / 2 ^^^ P else q / 2
def cxn (P : Nat) : Nat → Nat → Nat
  | 0, q => q
  | n + 1, q => cx P (cxn P n q)
theorem cx_lt {P q : Nat} (hP : P < 4294967296) (hq : q < 4294967296) : cx P q < 4294967296 := by
  unfold cx
  split
  · exact xor_lt32 (by omega) hP
  · omega
theorem cxn_lt {P : Nat} (hP : P < 4294967296) : ∀ n {q : Nat}, q < 4294967296 → cxn P n q < 4294967296
  | 0, _, h => h
  | n + 1, _, h => cx_lt hP (cxn_lt hP n h)
theorem cx_zero (P : Nat) : cx P 0 = 0 := by simp [cx]
theorem cxn_zero (P : Nat) : ∀ n, cxn P n 0 = 0
  | 0 => rfl
  | n + 1 => by rw [cxn, cxn_zero P n, cx_zero]
theorem xor4 (a b c d : Nat) : (a ^^^ b) ^^^ (c ^^^ d) = (a ^^^ c) ^^^ (b ^^^ d) := by
  rw [Nat.xor_assoc, ← Nat.xor_assoc b c d, Nat.xor_comm b c, Nat.xor_assoc c b d, ← Nat.xor_assoc]
theorem cx_xor (P a b : Nat) : cx P (a ^^^ b) = cx P a ^^^ cx P b := by
  have hm := Nat.xor_mod_two_eq_one (a := a) (b := b)
  unfold cx
  rw [Nat.xor_div_two]
  by_cases h1 : a % 2 = 1 <;> by_cases h2 : b % 2 = 1
  · rw [if_neg (by rw [hm]; simp [h1, h2]), if_pos h1, if_pos h2, xor4, Nat.xor_self, Nat.xor_zero]
  · rw [if_pos (by rw [hm]; simp [h1, h2]), if_pos h1, if_neg h2, Nat.xor_assoc, Nat.xor_comm (b / 2), Nat.xor_assoc]
  · rw [if_pos (by rw [hm]; simp [h1, h2]), if_neg h1, if_pos h2, Nat.xor_assoc]
  · rw [if_neg (by rw [hm]; simp [h1, h2]), if_neg h1, if_neg h2]
theorem cxn_xor (P : Nat) : ∀ n a b, cxn P n (a ^^^ b) = cxn P n a ^^^ cxn P n b
  | 0, _, _ => rfl
  | n + 1, a, b => by rw [cxn, cxn_xor P n, cx_xor]; rfl
theorem cxn_add (P : Nat) (m : Nat) : ∀ n q, cxn P (n + m) q = cxn P n (cxn P m q)
  | 0, q => by rw [Nat.zero_add]; rfl
  | n + 1, q => by rw [Nat.add_right_comm, cxn, cxn_add P m n]; rfl
theorem cxn_cx (P n q : Nat) : cxn P n (cx P q) = cx P (cxn P n q) := by
  have h1 := cxn_add P 1 n q
  have h2 := cxn_add P n 1 q
  rw [Nat.add_comm 1 n] at h2
  exact h1.symm.trans h2
/-- The register is turned back: the bit that has left stands on top. -/
theorem cx_inj {P a b : Nat} (hP : P < 4294967296) (hP31 : 2147483648 ≤ P) (ha : a < 4294967296) (hb : b < 4294967296) (h : cx P a = cx P b) : a = b := by
  have key : ∀ x, x < 4294967296 → (cx P x).testBit 31 = decide (x % 2 = 1) := by
    intro x hx
    have hp : P.testBit 31 = true := by
      rw [Nat.testBit, Nat.shiftRight_eq_div_pow]
      have : P / 2 ^ 31 = 1 := by omega
      rw [this]; rfl
    have h0 : (x / 2).testBit 31 = false := Nat.testBit_lt_two_pow (by omega)
    unfold cx
    by_cases hx2 : x % 2 = 1
    · rw [if_pos hx2, Nat.testBit_xor, hp, h0]; simp [hx2]
    · rw [if_neg hx2, h0]; simp [hx2]
  have e1 := key a ha
  have e2 := key b hb
  rw [h, e2] at e1
  unfold cx at h
  by_cases h1 : a % 2 = 1
  · have h2 : b % 2 = 1 := by simpa [h1] using e1
    rw [if_pos h1, if_pos h2] at h
    have : a / 2 = b / 2 := by
      have e := congrArg (· ^^^ P) h
      simpa [Nat.xor_assoc] using e
    omega
  · have h2 : ¬ b % 2 = 1 := by simpa [h1] using e1
    rw [if_neg h1, if_neg h2] at h
    omega
theorem cxn_inj {P : Nat} (hP : P < 4294967296) (hP31 : 2147483648 ≤ P) : ∀ n {a b : Nat}, a < 4294967296 → b < 4294967296 → cxn P n a = cxn P n b → a = b
  | 0, _, _, _, _, h => h
  | n + 1, _, _, ha, hb, h => cxn_inj hP hP31 n ha hb (cx_inj hP hP31 (cxn_lt hP n ha) (cxn_lt hP n hb) h)

/-- The product of two registers, k bits of the first gone over. -/
def ctm (P p q : Nat) : Nat → Nat
  | 0 => 0
  | k + 1 => ctm P p q k ^^^ (if p.testBit (31 - k) = true then cxn P k q else 0)
theorem ctm_cx (P p q : Nat) : ∀ k, ctm P p (cx P q) k = cx P (ctm P p q k)
  | 0 => (cx_zero P).symm
  | k + 1 => by
    rw [ctm, ctm, ctm_cx P p q k, cx_xor]
    congr 1
    by_cases h : p.testBit (31 - k) = true
    · rw [if_pos h, if_pos h, cxn_cx]
    · rw [if_neg h, if_neg h, cx_zero]
theorem ctm_cxn (P p q : Nat) : ∀ m k, ctm P p (cxn P m q) k = cxn P m (ctm P p q k)
  | 0, _ => rfl
  | m + 1, k => by rw [cxn, ctm_cx, ctm_cxn P p q m k]; rfl
theorem cxn_one (P : Nat) : ∀ k, k ≤ 31 → cxn P k 2147483648 = 2 ^ (31 - k)
  | 0, _ => rfl
  | k + 1, h => by
    rw [cxn, cxn_one P k (by omega), cx]
    have e : 2 ^ (31 - k) = 2 * 2 ^ (31 - (k + 1)) := by
      rw [← Nat.pow_succ']
      congr 1
      omega
    rw [e, if_neg (by omega)]
    omega
theorem ctm_bit (P p : Nat) : ∀ k, k ≤ 32 → ∀ i, (ctm P p 2147483648 k).testBit i = (decide (32 - k ≤ i ∧ i < 32) && p.testBit i)
  | 0, _, i => by
    have : ¬ (32 - 0 ≤ i ∧ i < 32) := by omega
    simp [ctm, this]
  | k + 1, h, i => by
    rw [ctm, Nat.testBit_xor, ctm_bit P p k (by omega) i, cxn_one P k (by omega)]
    by_cases hp : p.testBit (31 - k) = true
    · rw [if_pos hp, Nat.testBit_two_pow]
      by_cases hi : 31 - k = i
      · subst hi
        have h1 : decide (32 - k ≤ 31 - k ∧ 31 - k < 32) = false := decide_eq_false (by omega)
        have h2 : decide (32 - (k + 1) ≤ 31 - k ∧ 31 - k < 32) = true := decide_eq_true (by omega)
        rw [h1, h2, hp]
        simp
      · have e : decide (32 - k ≤ i ∧ i < 32) = decide (32 - (k + 1) ≤ i ∧ i < 32) := decide_eq_decide.2 (by omega)
        rw [e, decide_eq_false hi, Bool.xor_false]
    · rw [if_neg hp, Nat.zero_testBit]
      by_cases hi : 31 - k = i
      · subst hi
        simp only [Bool.not_eq_true] at hp
        simp [hp]
      · have e : decide (32 - k ≤ i ∧ i < 32) = decide (32 - (k + 1) ≤ i ∧ i < 32) := decide_eq_decide.2 (by omega)
        rw [e, Bool.xor_false]
theorem ctm_one (P p : Nat) (hp : p < 4294967296) : ctm P p 2147483648 32 = p := by
  apply Nat.eq_of_testBit_eq
  intro i
  rw [ctm_bit P p 32 (Nat.le_refl _)]
  by_cases hi : i < 32
  · simp [hi]
  · have : p.testBit i = false := Nat.testBit_lt_two_pow (Nat.lt_of_lt_of_le (n := p) (m := 2 ^ 32) hp (Nat.pow_le_pow_right (by decide) (by omega)))
    simp [hi, this]
/-- To multiply by a power of x is to go over so many bits. -/
theorem ctm_power (P p m : Nat) (hp : p < 4294967296) : ctm P p (cxn P m 2147483648) 32 = cxn P m p := by
  rw [ctm_cxn, ctm_one P p hp]
theorem ctm_lt {P p q : Nat} (hP : P < 4294967296) (hq : q < 4294967296) : ∀ k, ctm P p q k < 4294967296
  | 0 => Nat.zero_lt_succ _
  | k + 1 => by
    rw [ctm]
    refine xor_lt32 (ctm_lt hP hq k) ?_
    split
    · exact cxn_lt hP k hq
    · decide
theorem bit_and (p k : Nat) (hk : k ≤ 31) : (p &&& 2 ^ (31 - k) ≠ 0) ↔ p.testBit (31 - k) = true := by
  have _ := hk
  constructor
  · intro h
    cases hb : p.testBit (31 - k) with
    | true => rfl
    | false =>
      exfalso
      apply h
      apply Nat.eq_of_testBit_eq
      intro i
      rw [Nat.testBit_and, Nat.testBit_two_pow, Nat.zero_testBit]
      by_cases hi : 31 - k = i
      · subst hi; simp [hb]
      · simp [hi]
  · intro h e
    have : (p &&& 2 ^ (31 - k)).testBit (31 - k) = true := by
      rw [Nat.testBit_and, Nat.testBit_two_pow, h]; simp
    rw [e, Nat.zero_testBit] at this
    cases this
end Go.Proofs.YtoglgicmnhklbaaDoor
