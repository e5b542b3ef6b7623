import Derived.Test.YtoglgicmnhklbaaDoorBase
import Derived.Test.YtoglgicmnhklbaaDoorCrp
namespace Go.Proofs.YtoglgicmnhklbaaDoor
open Go.ChangeShapes Go.WideShapes Go.ChangeAt Go.RowKit


theorem hideC {p : Prop} (h : p) : Hid p := h
def pS : Nat := 3988292384
theorem pS_lt : pS < 4294967296 := by decide
theorem half_pow (k : Nat) (hk : k ≤ 31) : 2147483648 / 2 ^ k = 2 ^ (31 - k) := by
  have e : (2147483648 : Nat) = 2 ^ (31 - k) * 2 ^ k := by
    rw [← Nat.pow_add, show 31 - k + k = 31 by omega]
  rw [e, Nat.mul_div_cancel _ (Nat.two_pow_pos k)]
theorem ofInt_nat64 (x : Nat) (hx : x < 18446744073709551616) : (BitVec.ofInt 64 (x : Int)).toNat = x := by
  rw [BitVec.ofInt_natCast, BitVec.toNat_ofNat]; exact Nat.mod_eq_of_lt hx
theorem and1_i64 (a : Nat) (ha : a < 9223372036854775808) : bits .and .i64 (a : Int) 1 = ((a % 2 : Nat) : Int) := by
  show IntKind.i64.wrap ((BitVec.ofInt 64 (a : Int) &&& BitVec.ofInt 64 ((1 : Nat) : Int)).toNat : Int) = _
  rw [BitVec.toNat_and, ofInt_nat64 a (by omega), ofInt_nat64 1 (by decide), IntKind.wrap_i64, Nat.and_one_is_mod]
  omega
/-- The register behind n bytes that are 0. -/
def zeros (a n : Nat) : Nat := cxn pS (8 * n) a
theorem zeros_lt {a n : Nat} (h : a < 4294967296) : zeros a n < 4294967296 := cxn_lt pS_lt _ h
theorem zeros_add (a n m : Nat) : zeros (zeros a n) m = zeros a (n + m) := by
  unfold zeros
  rw [← cxn_add]
  congr 1
  omega
/-- What Join answers. -/
def joined (a b : Nat) (n : Int) : Nat := zeros a n.toNat ^^^ b
theorem joined_lt {a b : Nat} {n : Int} (ha : a < 4294967296) (hb : b < 4294967296) : joined a b n < 4294967296 := xor_lt32 (zeros_lt ha) hb
end Go.Proofs.YtoglgicmnhklbaaDoor
