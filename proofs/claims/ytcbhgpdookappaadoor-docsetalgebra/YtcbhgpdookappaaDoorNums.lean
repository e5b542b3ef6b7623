import Derived.WalkKit
import Derived.Laws.MathBits
namespace Go.Proofs.YtcbhgpdookappaaDoor
open Go.RowKit

def zig (v : Int) : Int := if 0 ≤ v then 2 * v else -(2 * v) - 1
def zag (u : Int) : Int := if u % 2 = 0 then u / 2 else -(u / 2) - 1

theorem xor_ones64 (b : Nat) (hb : b < 2 ^ 64) : b ^^^ (2 ^ 64 - 1) = 2 ^ 64 - 1 - b := by
  apply Nat.eq_of_testBit_eq
  intro i
  rw [Nat.testBit_xor, Nat.testBit_two_pow_sub_one, show 2 ^ 64 - 1 - b = 2 ^ 64 - (b + 1) by omega, Nat.testBit_two_pow_sub_succ hb]
  by_cases hi : i < 64
  · simp [hi]
  · have : b.testBit i = false := Nat.testBit_lt_two_pow (Nat.lt_of_lt_of_le hb (Nat.pow_le_pow_right (by decide) (by omega)))
    simp [hi, this]
theorem ofInt_nat (x : Nat) (hx : x < 2 ^ 64) : (BitVec.ofInt 64 (x : Int)).toNat = x := by
  rw [BitVec.ofInt_natCast, BitVec.toNat_ofNat]; exact Nat.mod_eq_of_lt hx
theorem xor_u64 (a b : Nat) (ha : a < 2 ^ 64) (hb : b < 2 ^ 64) : bits .xor .u64 (a : Int) (b : Int) = ((a ^^^ b : Nat) : Int) := by
  show IntKind.u64.wrap ((BitVec.ofInt 64 (a : Int) ^^^ BitVec.ofInt 64 (b : Int)).toNat : Int) = _
  rw [BitVec.toNat_xor, ofInt_nat a ha, ofInt_nat b hb, IntKind.wrap_u64]
  have := Nat.xor_lt_two_pow ha hb
  omega
theorem zig_bits (v : Int) (h0 : -9223372036854775808 ≤ v) (h1 : v ≤ 9223372036854775807) :
    bits .xor .u64 (IntKind.u64.wrap (IntKind.u64.wrap v * 2)) (IntKind.u64.wrap (v / 9223372036854775808)) = zig v := by
  unfold zig
  by_cases hv : 0 ≤ v
  · have e1 : IntKind.u64.wrap (IntKind.u64.wrap v * 2) = (((2 * v).toNat : Nat) : Int) := by
      rw [IntKind.wrap_u64, IntKind.wrap_u64]; omega
    have e2 : IntKind.u64.wrap (v / 9223372036854775808) = ((0 : Nat) : Int) := by
      rw [IntKind.wrap_u64]; omega
    rw [e1, e2, xor_u64 _ _ (by omega) (by decide), if_pos hv, Nat.xor_zero]
    omega
  · have e1 : IntKind.u64.wrap (IntKind.u64.wrap v * 2) = (((2 * v + 18446744073709551616).toNat : Nat) : Int) := by
      rw [IntKind.wrap_u64, IntKind.wrap_u64]; omega
    have e2 : IntKind.u64.wrap (v / 9223372036854775808) = ((2 ^ 64 - 1 : Nat) : Int) := by
      rw [IntKind.wrap_u64]; omega
    rw [e1, e2, xor_u64 _ _ (by omega) (by decide), xor_ones64 _ (by omega), if_neg hv]
    omega
theorem and1_u64 (a : Nat) (ha : a < 2 ^ 64) : bits .and .u64 (a : Int) 1 = ((a % 2 : Nat) : Int) := by
  show IntKind.u64.wrap ((BitVec.ofInt 64 (a : Int) &&& BitVec.ofInt 64 (1 : Int)).toNat : Int) = _
  have h1 : (BitVec.ofInt 64 (1 : Int)).toNat = 1 := by decide
  rw [BitVec.toNat_and, ofInt_nat a ha, h1, Nat.and_one_is_mod, IntKind.wrap_u64]
  omega
theorem xor_i64_0 (x : Nat) (hx : x < 9223372036854775808) : bits .xor .i64 (x : Int) 0 = (x : Int) := by
  show IntKind.i64.wrap ((BitVec.ofInt 64 (x : Int) ^^^ BitVec.ofInt 64 (0 : Int)).toNat : Int) = _
  have h1 : (BitVec.ofInt 64 (0 : Int)).toNat = 0 := by decide
  rw [BitVec.toNat_xor, h1, ofInt_nat x (by omega), Nat.xor_zero, IntKind.wrap_i64]
  omega
theorem xor_i64_m1 (x : Nat) (hx : x < 9223372036854775808) : bits .xor .i64 (x : Int) (-1) = -(x : Int) - 1 := by
  show IntKind.i64.wrap ((BitVec.ofInt 64 (x : Int) ^^^ BitVec.ofInt 64 (-1 : Int)).toNat : Int) = _
  have h1 : (BitVec.ofInt 64 (-1 : Int)).toNat = 2 ^ 64 - 1 := by decide
  rw [BitVec.toNat_xor, h1, ofInt_nat x (by omega), xor_ones64 x (by omega), IntKind.wrap_i64]
  omega
theorem zag_bits (v : Int) (h0 : 0 ≤ v) (h1 : v ≤ 18446744073709551615) :
    bits .xor .i64 (v / 2) (wrap64 (-wrap64 (bits .and .u64 v 1))) = zag v := by
  obtain ⟨a, rfl⟩ : ∃ a : Nat, v = a := ⟨v.toNat, by omega⟩
  rw [and1_u64 a (by omega)]
  unfold zag
  have e0 : ((a : Int) / 2) = ((a / 2 : Nat) : Int) := by omega
  by_cases h : (a : Int) % 2 = 0
  · have e : wrap64 (-wrap64 ((a % 2 : Nat) : Int)) = 0 := by unfold wrap64; omega
    rw [e, if_pos h, e0, xor_i64_0 _ (by omega)]
  · have e : wrap64 (-wrap64 ((a % 2 : Nat) : Int)) = -1 := by unfold wrap64; omega
    rw [e, if_neg h, e0, xor_i64_m1 _ (by omega)]

theorem zig_bd (v : Int) (h0 : -9223372036854775808 ≤ v) (h1 : v ≤ 9223372036854775807) : 0 ≤ zig v ∧ zig v ≤ 18446744073709551615 := by
  unfold zig; split <;> omega
theorem zag_bd (u : Int) (h0 : 0 ≤ u) (h1 : u ≤ 18446744073709551615) : -9223372036854775808 ≤ zag u ∧ zag u ≤ 9223372036854775807 := by
  unfold zag; split <;> omega
theorem zag_zig (v : Int) : zag (zig v) = v := by unfold zig zag; split <;> split <;> omega
theorem zig_zag (u : Int) (h0 : 0 ≤ u) : zig (zag u) = u := by unfold zig zag; split <;> split <;> omega

/-- How many bytes a uvarint has. -/
def ulen (n : Nat) : Nat := if n < 128 then 1 else 1 + ulen (n / 128)
  termination_by n
  decreasing_by omega
theorem ulen_small {n : Nat} (h : n < 128) : ulen n = 1 := by rw [ulen, if_pos h]
theorem ulen_big {n : Nat} (h : ¬ n < 128) : ulen n = 1 + ulen (n / 128) := by rw [ulen, if_neg h]
theorem ulen_bits : ∀ (k n : Nat), n < 2 ^ k → ulen n = max 1 ((bitLen n + 6) / 7) := by
  intro k
  induction k using Nat.strongRecOn with
  | ind k ih =>
    intro n hn
    by_cases h : n < 128
    · rw [ulen_small h]
      have h2 : bitLen n ≤ 7 := by
        unfold bitLen
        split
        · omega
        · rename_i h0
          have := (Nat.log2_lt h0).2 (show n < 2 ^ 7 from h)
          omega
      omega
    · rw [ulen_big h]
      have hk : 7 ≤ k := by
        by_cases hk : 7 ≤ k
        · exact hk
        · exfalso
          have : 2 ^ k ≤ 2 ^ 7 := Nat.pow_le_pow_right (by decide) (by omega)
          omega
      have hd : n / 128 < 2 ^ (k - 7) := by
        apply Nat.div_lt_of_lt_mul
        have : (128 : Nat) * 2 ^ (k - 7) = 2 ^ k := by
          rw [show (128 : Nat) = 2 ^ 7 by decide, ← Nat.pow_add]; congr 1; omega
        omega
      have s := bitLen_shift n 7 (by simp; omega)
      rw [ih (k - 7) (by omega) _ hd, s]
      simp
      have hp : 1 ≤ bitLen (n / 128) := by
        unfold bitLen; split <;> omega
      omega
theorem ulen_le (n : Nat) (h : n < 2 ^ 64) : 1 ≤ ulen n ∧ ulen n ≤ 10 := by
  rw [ulen_bits 64 n h]
  have : bitLen n ≤ 64 := by
    unfold bitLen
    split
    · omega
    · rename_i h0
      have := (Nat.log2_lt h0).2 h
      omega
  omega
/-- The bytes of a uvarint. -/
def uvb (n : Nat) : List Int := if n < 128 then [(n : Int)] else (128 + (n : Int) % 128) :: uvb (n / 128)
  termination_by n
  decreasing_by omega
theorem uvb_small {n : Nat} (h : n < 128) : uvb n = [(n : Int)] := by rw [uvb, if_pos h]
theorem uvb_big {n : Nat} (h : ¬ n < 128) : uvb n = (128 + (n : Int) % 128) :: uvb (n / 128) := by rw [uvb, if_neg h]
theorem uvb_length (n : Nat) : (uvb n).length = ulen n := by
  induction n using Nat.strongRecOn with
  | ind n ih =>
    by_cases h : n < 128
    · rw [uvb_small h, ulen_small h]; rfl
    · rw [uvb_big h, ulen_big h, List.length_cons, ih (n / 128) (by omega)]; omega
theorem ret_int {k : IntKind} {a b : Int} (h : a = b) : Ending.returned (.int k a) = .returned (.int k b) := by rw [h]
theorem ret_bool {a b : Bool} (h : a = b) : Ending.returned (.bool a) = .returned (.bool b) := by rw [h]
theorem len_close (b : Nat) (v x : Int) (hx : x.toNat = v.toNat / 2 ^ b) (hb : b ≤ 56) (hlt : x < 256) (hpos : 0 < x) :
    wrap64 ((b : Int) + wrap64 ((bitLen x.toNat : Nat) : Int)) = ((bitLen v.toNat : Nat) : Int) := by
  have l := bitLen_le8 x.toNat (by omega)
  have s := bitLen_shift v.toNat b (by rw [← hx]; omega)
  rw [← hx] at s
  rw [s]
  unfold wrap64
  omega
theorem len_close0 (x : Int) (hlt : x < 256) :
    wrap64 ((bitLen x.toNat : Nat) : Int) = ((bitLen x.toNat : Nat) : Int) := by
  have l := bitLen_le8 x.toNat (by omega)
  unfold wrap64
  omega
theorem bitLen_le (n : Nat) (h : n < 2 ^ 64) : bitLen n ≤ 64 := by
  unfold bitLen
  split
  · omega
  · rename_i h0
    have := (Nat.log2_lt h0).2 h
    omega
/-- The lowest seven bits with the top bit set. -/
theorem or128 (n : Nat) : bits .or .u8 ((n % 256 : Nat) : Int) 128 = 128 + (n : Int) % 128 := by
  have h : ∀ k : Fin 256, bits .or .u8 ((k.val : Nat) : Int) 128 = 128 + ((k.val % 128 : Nat) : Int) := by decide +kernel
  have := h ⟨n % 256, by omega⟩
  simp only at this
  rw [this]
  omega
end Go.Proofs.YtcbhgpdookappaaDoor
