import Derived.Test.YtcbhgpdookappaaDoorDta
import Derived.BigRegion
namespace Go.Proofs.YtcbhgpdookappaaDoor.Ds
open Go.ChangeShapes Go.WideShapes Go.ChangeAt Go.RowKit

theorem ofInt_nat64 (x : Nat) (hx : x < 18446744073709551616) : (BitVec.ofInt 64 (x : Int)).toNat = x := by
  rw [BitVec.ofInt_natCast, BitVec.toNat_ofNat]; exact Nat.mod_eq_of_lt hx
theorem and_u64 (a b : Nat) (ha : a < 18446744073709551616) (hb : b < 18446744073709551616) : bits .and .u64 (a : Int) (b : Int) = ((a &&& b : Nat) : Int) := by
  show IntKind.u64.wrap ((BitVec.ofInt 64 (a : Int) &&& BitVec.ofInt 64 (b : Int)).toNat : Int) = _
  rw [BitVec.toNat_and, ofInt_nat64 a ha, ofInt_nat64 b hb, IntKind.wrap_u64]
  have : a &&& b ≤ a := Nat.and_le_left
  omega
theorem or_u64 (a b : Nat) (ha : a < 18446744073709551616) (hb : b < 18446744073709551616) : bits .or .u64 (a : Int) (b : Int) = ((a ||| b : Nat) : Int) := by
  show IntKind.u64.wrap ((BitVec.ofInt 64 (a : Int) ||| BitVec.ofInt 64 (b : Int)).toNat : Int) = _
  rw [BitVec.toNat_or, ofInt_nat64 a ha, ofInt_nat64 b hb, IntKind.wrap_u64]
  have : a ||| b < 2 ^ 64 := Nat.or_lt_two_pow (n := 64) ha hb
  omega
theorem wrap_small (x : Nat) (hx : x < 18446744073709551616) : IntKind.u64.wrap (x : Int) = (x : Int) := by
  rw [IntKind.wrap_u64]; omega
theorem and_i64 (x : Nat) (hx : x < 9223372036854775808) : bits .and .i64 (x : Int) 127 = ((x % 128 : Nat) : Int) := by
  show IntKind.i64.wrap ((BitVec.ofInt 64 (x : Int) &&& BitVec.ofInt 64 (127 : Int)).toNat : Int) = _
  rw [BitVec.toNat_and, ofInt_nat64 x (by omega), show (BitVec.ofInt 64 (127 : Int)).toNat = 2 ^ 7 - 1 from rfl, Nat.and_two_pow_sub_one_eq_mod, IntKind.wrap_i64]
  have : x % 2 ^ 7 < 128 := Nat.mod_lt _ (by decide)
  omega
set_option maxRecDepth 20000 in
set_option maxHeartbeats 1000000 in
theorem ones_any (x : Nat) (hx : x < 18446744073709551616) (w : World) :
    Calls Tryd.prog 73 #[.int .u64 x] w fun e w' => e = .returned (.int .i64 (pcn 64 x : Nat)) ∧ w' = w := by
  obtain ⟨a, b, c, y, z, u, ha, hb, hc, hy, hz, hu, hlt, hm⟩ := ones64 x
  have a1 : x / 2 &&& 6148914691236517205 ≤ 6148914691236517205 := Nat.and_le_right
  have a2 : x &&& 6148914691236517205 ≤ 6148914691236517205 := Nat.and_le_right
  have b1 : a / 4 &&& 3689348814741910323 ≤ 3689348814741910323 := Nat.and_le_right
  have b2 : a &&& 3689348814741910323 ≤ 3689348814741910323 := Nat.and_le_right
  have c1 : (b / 16 + b) &&& 1085102592571150095 ≤ 1085102592571150095 := Nat.and_le_right
  have e1 : bits .and .u64 ((x : Int) / 2) 6148914691236517205 = ((x / 2 &&& 6148914691236517205 : Nat) : Int) := and_u64 (x / 2) 6148914691236517205 (by omega) (by decide)
  have e2 : bits .and .u64 (x : Int) 6148914691236517205 = ((x &&& 6148914691236517205 : Nat) : Int) := and_u64 x 6148914691236517205 hx (by decide)
  have e3 : IntKind.u64.wrap (((x / 2 &&& 6148914691236517205 : Nat) : Int) + ((x &&& 6148914691236517205 : Nat) : Int)) = (a : Int) := by rw [IntKind.wrap_u64, ha]; omega
  have e4 : bits .and .u64 ((a : Int) / 4) 3689348814741910323 = ((a / 4 &&& 3689348814741910323 : Nat) : Int) := and_u64 (a / 4) 3689348814741910323 (by omega) (by decide)
  have e5 : bits .and .u64 (a : Int) 3689348814741910323 = ((a &&& 3689348814741910323 : Nat) : Int) := and_u64 a 3689348814741910323 (by omega) (by decide)
  have e6 : IntKind.u64.wrap (((a / 4 &&& 3689348814741910323 : Nat) : Int) + ((a &&& 3689348814741910323 : Nat) : Int)) = (b : Int) := by rw [IntKind.wrap_u64, hb]; omega
  have e7 : IntKind.u64.wrap ((b : Int) / 16 + (b : Int)) = ((b / 16 + b : Nat) : Int) := by rw [IntKind.wrap_u64]; omega
  have e8 : bits .and .u64 ((b / 16 + b : Nat) : Int) 1085102592571150095 = (c : Int) := by rw [hc]; exact and_u64 (b / 16 + b) 1085102592571150095 (by omega) (by decide)
  have e9 : IntKind.u64.wrap ((c : Int) + (c : Int) / 256) = (y : Int) := by rw [IntKind.wrap_u64]; omega
  have e10 : IntKind.u64.wrap ((y : Int) + (y : Int) / 65536) = (z : Int) := by rw [IntKind.wrap_u64]; omega
  have e11 : IntKind.u64.wrap ((z : Int) + (z : Int) / 4294967296) = (u : Int) := by rw [IntKind.wrap_u64]; omega
  have hu2 : u < 9223372036854775808 := by omega
  have e12 : wrap64 (u : Int) = (u : Int) := by unfold wrap64; omega
  have e13 : bits .and .i64 (u : Int) 127 = ((pcn 64 x : Nat) : Int) := by rw [← hm]; exact and_i64 u hu2
  have E := hideD (And.intro e1 (And.intro e2 (And.intro e3 (And.intro e4 (And.intro e5 (And.intro e6 (And.intro e7 (And.intro e8 (And.intro e9 (And.intro e10 (And.intro e11 (And.intro e12 e13))))))))))))
  clear e1 e2 e3 e4 e5 e6 e7 e8 e9 e10 e11 e12 e13 ha hb hc hy hz hu hlt hm a1 a2 b1 b2 c1
  go_enter Tryd.func73, Tryd.ntmps73
  go_wp2
  go_ret
  obtain ⟨e1, e2, e3, e4, e5, e6, e7, e8, e9, e10, e11, e12, e13⟩ := E.out
  refine ⟨?_, rfl⟩
  rw [e1, e2, e3, e4, e5, e6, e7, e8, e9, e10, e11]
  rw [e12, e13]
  rfl
/-- The table of TrailingZeros64 lies as the start lays it. -/
def dbTab : List Nat := [0, 1, 56, 2, 57, 49, 28, 3, 61, 58, 42, 50, 38, 29, 17, 4, 62, 47, 59, 36, 45, 43, 51, 22, 53, 39, 33, 30, 24, 18, 12, 5, 63, 55, 48, 27, 60, 41, 37, 16, 46, 35, 44, 21, 52, 32, 23, 11, 54, 26, 40, 15, 34, 20, 31, 10, 25, 14, 19, 9, 13, 8, 7, 6]
def DbAt (w : World) : Prop := ∀ k x, dbTab[k]? = some x → w.cell? ⟨24, k, none⟩ = some (.int .u8 (x : Nat))
theorem DbAt.keptN {w w' : World} (h : DbAt w) (k : ∀ p v, w.cell? p = some v → p.block = 24 → w'.cell? p = some v) : DbAt w' := fun i x hx => k _ _ (h i x hx) rfl
set_option maxRecDepth 20000 in
set_option maxHeartbeats 1000000 in
theorem trail_any (x k q : Nat) (e : x = 2 ^ k * (2 * q + 1)) (hx : x < 18446744073709551616) (w : World) (hD : DbAt w) :
    Calls Tryd.prog 81 #[.int .u64 x] w fun e w' => e = .returned (.int .i64 (k : Nat)) ∧ w' = w := by
  have hk := low_lt e hx
  have hpos : 0 < x := by rw [e]; exact Nat.mul_pos (Nat.two_pow_pos k) (by omega)
  have e0 : ((x : Int) == 0) = false := by simp; omega
  have e1 : IntKind.u64.wrap (-(x : Int)) = ((18446744073709551616 - x : Nat) : Int) := by rw [IntKind.wrap_u64]; omega
  have e2 : bits .and .u64 (x : Int) ((18446744073709551616 - x : Nat) : Int) = ((2 ^ k : Nat) : Int) := by rw [and_u64 x _ hx (by omega), low_neg e hx]
  obtain ⟨m, hm⟩ : ∃ m, m = 2 ^ k * 285870213051353865 % 18446744073709551616 := ⟨_, rfl⟩
  have e3 : IntKind.u64.wrap (((2 ^ k : Nat) : Int) * 285870213051353865) = (m : Int) := by
    rw [IntKind.wrap_u64, hm]; omega
  have ht := db_tab k hk
  rw [← hm] at ht
  have hi : m / 288230376151711744 < 64 := by omega
  have hc := hD _ _ ht
  obtain ⟨p, hp⟩ : ∃ p, p = 2 ^ k := ⟨_, rfl⟩
  rw [← hp] at e2 e3
  have hi2 : 0 ≤ (m : Int) / 288230376151711744 ∧ (m : Int) / 288230376151711744 < 64 := by omega
  clear ht hD e hm hp hi
  go_enter Tryd.func81, Tryd.ntmps81
  go_wp2
  go_ret
  exact ⟨rfl, rfl⟩
end Go.Proofs.YtcbhgpdookappaaDoor.Ds
