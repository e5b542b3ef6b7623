import Derived.WalkKit
import Derived.Laws.MathBits
import Derived.Test.YteeimpjjmdpbgaaDoorBase
import Derived.Deep.QuietTactic
import Derived.BigQuiet
namespace Go.Proofs.YteeimpjjmdpbgaaDoor
open Go.RowKit

def zig (v : Int) : Int := if 0 ≤ v then 2 * v else -(2 * v) - 1
def zag (u : Int) : Int := if u % 2 = 0 then u / 2 else -(u / 2) - 1

theorem xor_ones64 (b : Nat) (hb : b < 2 ^ 64) : b ^^^ (2 ^ 64 - 1) = 2 ^ 64 - 1 - b := by
  apply Nat.eq_of_testBit_eq
  intro i
  rw [Nat.testBit_xor, Nat.testBit_two_pow_sub_one, show 2 ^ 64 - 1 - b = 2 ^ 64 - (b + 1) by omega, Nat.testBit_two_pow_sub_succ hb]
  by_cases hi : i < 64
  · simp [hi]
  · have : b.testBit i = false := Nat.testBit_lt_two_pow (Nat.lt_of_lt_of_le hb (Nat.pow_le_pow_right (by decide) (by omega)))
    simp [hi, this]
theorem ofInt_nat (x : Nat) (hx : x < 2 ^ 64) : (BitVec.ofInt 64 (x : Int)).toNat = x := by
  rw [BitVec.ofInt_natCast, BitVec.toNat_ofNat]; exact Nat.mod_eq_of_lt hx
theorem xor_u64 (a b : Nat) (ha : a < 2 ^ 64) (hb : b < 2 ^ 64) : bits .xor .u64 (a : Int) (b : Int) = ((a ^^^ b : Nat) : Int) := by
  show IntKind.u64.wrap ((BitVec.ofInt 64 (a : Int) ^^^ BitVec.ofInt 64 (b : Int)).toNat : Int) = _
  rw [BitVec.toNat_xor, ofInt_nat a ha, ofInt_nat b hb, IntKind.wrap_u64]
  have := Nat.xor_lt_two_pow ha hb
  omega
theorem zig_bits (v : Int) (h0 : -9223372036854775808 ≤ v) (h1 : v ≤ 9223372036854775807) :
    bits .xor .u64 (IntKind.u64.wrap (IntKind.u64.wrap v * 2)) (IntKind.u64.wrap (v / 9223372036854775808)) = zig v := by
  unfold zig
  by_cases hv : 0 ≤ v
  · have e1 : IntKind.u64.wrap (IntKind.u64.wrap v * 2) = (((2 * v).toNat : Nat) : Int) := by
      rw [IntKind.wrap_u64, IntKind.wrap_u64]; omega
    have e2 : IntKind.u64.wrap (v / 9223372036854775808) = ((0 : Nat) : Int) := by
      rw [IntKind.wrap_u64]; omega
    rw [e1, e2, xor_u64 _ _ (by omega) (by decide), if_pos hv, Nat.xor_zero]
    omega
  · have e1 : IntKind.u64.wrap (IntKind.u64.wrap v * 2) = (((2 * v + 18446744073709551616).toNat : Nat) : Int) := by
      rw [IntKind.wrap_u64, IntKind.wrap_u64]; omega
    have e2 : IntKind.u64.wrap (v / 9223372036854775808) = ((2 ^ 64 - 1 : Nat) : Int) := by
      rw [IntKind.wrap_u64]; omega
    rw [e1, e2, xor_u64 _ _ (by omega) (by decide), xor_ones64 _ (by omega), if_neg hv]
    omega
theorem and1_u64 (a : Nat) (ha : a < 2 ^ 64) : bits .and .u64 (a : Int) 1 = ((a % 2 : Nat) : Int) := by
  show IntKind.u64.wrap ((BitVec.ofInt 64 (a : Int) &&& BitVec.ofInt 64 (1 : Int)).toNat : Int) = _
  have h1 : (BitVec.ofInt 64 (1 : Int)).toNat = 1 := by decide
  rw [BitVec.toNat_and, ofInt_nat a ha, h1, Nat.and_one_is_mod, IntKind.wrap_u64]
  omega
theorem xor_i64_0 (x : Nat) (hx : x < 9223372036854775808) : bits .xor .i64 (x : Int) 0 = (x : Int) := by
  show IntKind.i64.wrap ((BitVec.ofInt 64 (x : Int) ^^^ BitVec.ofInt 64 (0 : Int)).toNat : Int) = _
  have h1 : (BitVec.ofInt 64 (0 : Int)).toNat = 0 := by decide
  rw [BitVec.toNat_xor, h1, ofInt_nat x (by omega), Nat.xor_zero, IntKind.wrap_i64]
  omega
theorem xor_i64_m1 (x : Nat) (hx : x < 9223372036854775808) : bits .xor .i64 (x : Int) (-1) = -(x : Int) - 1 := by
  show IntKind.i64.wrap ((BitVec.ofInt 64 (x : Int) ^^^ BitVec.ofInt 64 (-1 : Int)).toNat : Int) = _
  have h1 : (BitVec.ofInt 64 (-1 : Int)).toNat = 2 ^ 64 - 1 := by decide
  rw [BitVec.toNat_xor, h1, ofInt_nat x (by omega), xor_ones64 x (by omega), IntKind.wrap_i64]
  omega
theorem zag_bits (v : Int) (h0 : 0 ≤ v) (h1 : v ≤ 18446744073709551615) :
    bits .xor .i64 (v / 2) (wrap64 (-wrap64 (bits .and .u64 v 1))) = zag v := by
  obtain ⟨a, rfl⟩ : ∃ a : Nat, v = a := ⟨v.toNat, by omega⟩
  rw [and1_u64 a (by omega)]
  unfold zag
  have e0 : ((a : Int) / 2) = ((a / 2 : Nat) : Int) := by omega
  by_cases h : (a : Int) % 2 = 0
  · have e : wrap64 (-wrap64 ((a % 2 : Nat) : Int)) = 0 := by unfold wrap64; omega
    rw [e, if_pos h, e0, xor_i64_0 _ (by omega)]
  · have e : wrap64 (-wrap64 ((a % 2 : Nat) : Int)) = -1 := by unfold wrap64; omega
    rw [e, if_neg h, e0, xor_i64_m1 _ (by omega)]

theorem zig_bd (v : Int) (h0 : -9223372036854775808 ≤ v) (h1 : v ≤ 9223372036854775807) : 0 ≤ zig v ∧ zig v ≤ 18446744073709551615 := by
  unfold zig; split <;> omega
theorem zag_bd (u : Int) (h0 : 0 ≤ u) (h1 : u ≤ 18446744073709551615) : -9223372036854775808 ≤ zag u ∧ zag u ≤ 9223372036854775807 := by
  unfold zag; split <;> omega
theorem zag_zig (v : Int) : zag (zig v) = v := by unfold zig zag; split <;> split <;> omega
theorem zig_zag (u : Int) (h0 : 0 ≤ u) : zig (zag u) = u := by unfold zig zag; split <;> split <;> omega

/-- How many bytes a uvarint has. -/
def ulen (n : Nat) : Nat := if n < 128 then 1 else 1 + ulen (n / 128)
  termination_by n
  decreasing_by omega
theorem ulen_small {n : Nat} (h : n < 128) : ulen n = 1 := by rw [ulen, if_pos h]
theorem ulen_big {n : Nat} (h : ¬ n < 128) : ulen n = 1 + ulen (n / 128) := by rw [ulen, if_neg h]
theorem ulen_bits : ∀ (k n : Nat), n < 2 ^ k → ulen n = max 1 ((bitLen n + 6) / 7) := by
  intro k
  induction k using Nat.strongRecOn with
  | ind k ih =>
    intro n hn
    by_cases h : n < 128
    · rw [ulen_small h]
      have h2 : bitLen n ≤ 7 := by
        unfold bitLen
        split
        · omega
        · rename_i h0
          have := (Nat.log2_lt h0).2 (show n < 2 ^ 7 from h)
          omega
      omega
    · rw [ulen_big h]
      have hk : 7 ≤ k := by
        by_cases hk : 7 ≤ k
        · exact hk
        · exfalso
          have : 2 ^ k ≤ 2 ^ 7 := Nat.pow_le_pow_right (by decide) (by omega)
          omega
      have hd : n / 128 < 2 ^ (k - 7) := by
        apply Nat.div_lt_of_lt_mul
        have : (128 : Nat) * 2 ^ (k - 7) = 2 ^ k := by
          rw [show (128 : Nat) = 2 ^ 7 by decide, ← Nat.pow_add]; congr 1; omega
        omega
      have s := bitLen_shift n 7 (by simp; omega)
      rw [ih (k - 7) (by omega) _ hd, s]
      simp
      have hp : 1 ≤ bitLen (n / 128) := by
        unfold bitLen; split <;> omega
      omega
theorem ulen_le (n : Nat) (h : n < 2 ^ 64) : 1 ≤ ulen n ∧ ulen n ≤ 10 := by
  rw [ulen_bits 64 n h]
  have : bitLen n ≤ 64 := by
    unfold bitLen
    split
    · omega
    · rename_i h0
      have := (Nat.log2_lt h0).2 h
      omega
  omega
/-- The bytes of a uvarint. -/
def uvb (n : Nat) : List Int := if n < 128 then [(n : Int)] else (128 + (n : Int) % 128) :: uvb (n / 128)
  termination_by n
  decreasing_by omega
theorem uvb_small {n : Nat} (h : n < 128) : uvb n = [(n : Int)] := by rw [uvb, if_pos h]
theorem uvb_big {n : Nat} (h : ¬ n < 128) : uvb n = (128 + (n : Int) % 128) :: uvb (n / 128) := by rw [uvb, if_neg h]
theorem uvb_length (n : Nat) : (uvb n).length = ulen n := by
  induction n using Nat.strongRecOn with
  | ind n ih =>
    by_cases h : n < 128
    · rw [uvb_small h, ulen_small h]; rfl
    · rw [uvb_big h, ulen_big h, List.length_cons, ih (n / 128) (by omega)]; omega
theorem ret_int {k : IntKind} {a b : Int} (h : a = b) : Ending.returned (.int k a) = .returned (.int k b) := by rw [h]
theorem ret_bool {a b : Bool} (h : a = b) : Ending.returned (.bool a) = .returned (.bool b) := by rw [h]
theorem len_close (b : Nat) (v x : Int) (hx : x.toNat = v.toNat / 2 ^ b) (hb : b ≤ 56) (hlt : x < 256) (hpos : 0 < x) :
    wrap64 ((b : Int) + wrap64 ((bitLen x.toNat : Nat) : Int)) = ((bitLen v.toNat : Nat) : Int) := by
  have l := bitLen_le8 x.toNat (by omega)
  have s := bitLen_shift v.toNat b (by rw [← hx]; omega)
  rw [← hx] at s
  rw [s]
  unfold wrap64
  omega
theorem len_close0 (x : Int) (hlt : x < 256) :
    wrap64 ((bitLen x.toNat : Nat) : Int) = ((bitLen x.toNat : Nat) : Int) := by
  have l := bitLen_le8 x.toNat (by omega)
  unfold wrap64
  omega
theorem bitLen_le (n : Nat) (h : n < 2 ^ 64) : bitLen n ≤ 64 := by
  unfold bitLen
  split
  · omega
  · rename_i h0
    have := (Nat.log2_lt h0).2 h
    omega
/-- The lowest seven bits with the top bit set. -/
theorem or128 (n : Nat) : bits .or .u8 ((n % 256 : Nat) : Int) 128 = 128 + (n : Int) % 128 := by
  have h : ∀ k : Fin 256, bits .or .u8 ((k.val : Nat) : Int) 128 = 128 + ((k.val % 128 : Nat) : Int) := by decide +kernel
  have := h ⟨n % 256, by omega⟩
  simp only at this
  rw [this]
  omega
end Go.Proofs.YteeimpjjmdpbgaaDoor
namespace Go.Proofs.YteeimpjjmdpbgaaDoor
open Go.ChangeShapes Go.WideShapes Go.ChangeAt Go.RowKit
end Go.Proofs.YteeimpjjmdpbgaaDoor
namespace Go.Proofs.YteeimpjjmdpbgaaDoor
open Go.ChangeShapes Go.WideShapes Go.ChangeAt Go.RowKit

theorem new_any (w : World) : Calls Tryd.prog 37 #[] w fun e w' => e = .returned (.pointer (some ⟨w.heap.size, 0, none⟩)) ∧ Wr w' w.heap.size (.slice none 0 0) [] ∧ Kept (fun _ => False) w w' := by
  go_enter Tryd.func37, Tryd.ntmps37
  go_wp2
  go_ret
  exact ⟨rfl, ⟨heap_alloc_new w _, World.ownsRow_nil _ _ _ _⟩, Kept.alloc _ _⟩

theorem wlen_any (bw : Nat) (v : Value) (xs : List Int) (w : World) (h : Wr w bw v xs) :
    Calls Tryd.prog 39 #[.pointer (some ⟨bw, 0, none⟩)] w fun e w' => e = .returned (.int .i64 xs.length) ∧ w' = w := by
  have hc := h.cell
  obtain ⟨a, c, rfl⟩ := h.slice
  clear h
  go_enter Tryd.func39, Tryd.ntmps39
  go_wp2
  go_ret
  exact ⟨rfl, rfl⟩

set_option maxRecDepth 20000 in
set_option maxHeartbeats 1000000 in
theorem wuv_any (bw : Nat) (v : Value) (xs : List Int) (n : Nat) (w : World) (h : Wr w bw v xs) (hn : n < 18446744073709551616) (hr : xs.length + 10 ≤ 140737488355328) :
    Calls Tryd.prog 38 #[.pointer (some ⟨bw, 0, none⟩), .int .u64 n] w fun e w' => e = .returned (.tuple #[]) ∧ ∃ v', Wr w' bw v' (xs ++ uvb n) ∧ WStep w w' bw v v' := by
  obtain ⟨i0, hi, hz0, hz1, hz2⟩ := info_parts Tryd.infoB
  have hul := (ulen_le n (by omega)).2
  have HH : Hid (Wr w bw v xs) := h
  clear h
  go_enter Tryd.func38, Tryd.ntmps38
  go_wp2
  go_loopw [1] (fun x wr => ∃ (m : Nat) (pre : List Int) (v1 : Value), m < 18446744073709551616 ∧ x = .int .u64 m ∧ uvb n = pre ++ uvb m ∧ Wr wr bw v1 (xs ++ pre) ∧ WStep w wr bw v v1)
    (fun x _ => (intOf x).toNat)
  case atStart => exact ⟨n, [], v, hn, rfl, rfl, by rw [List.append_nil]; exact HH.out, WStep.refl _ _ _⟩
  case round =>
    obtain ⟨m, pre, v1, hm, rfl, hpre, hW, hS⟩ := hrel
    have hlen : pre.length + (uvb m).length = ulen n := by rw [← uvb_length, hpre, List.length_append]
    have hp1 : 1 ≤ (uvb m).length := by rw [uvb_length]; exact (ulen_le m (by omega)).1
    have hl2 : (xs ++ pre).length = xs.length + pre.length := List.length_append
    have hP : Hid (uvb n = pre ++ uvb m) := hpre
    have HS : Hid (WStep w wr bw v v1) := hS
    have HW : Hid (Wr wr bw v1 (xs ++ pre)) := hW
    have hc := hW.cell
    have hown := hW.own
    clear hpre hS hW HH
    have hrm : (xs ++ pre).length + 1 ≤ 140737488355328 := by omega
    clear hlen hp1 hl2 hul hr
    obtain ⟨ys, hys⟩ : ∃ ys, ys = xs ++ pre := ⟨_, rfl⟩
    rw [← hys] at hown hrm HW
    have HY : Hid (ys = xs ++ pre) := hys
    clear hys
    by_cases hlt : m < 128
    · go_wp2_with (at_builtin; refine wpList_append_lies _ rfl _ _ 25 rfl 0 5 i0 (.int .u8 0) 1 1 Tryd.underlying25 hi hz0 hz1 hz2 rfl (by decide) _ _ _ rfl (hown.alloc _) ⟨wr.heap.size, 0, none⟩ 1 1 (bs [(m : Int)]) rfl rfl ?d1 ?d2 ?d3 ?d4 ?d5 ?d6 _ rfl ?_)
      case d1 => exact one_new _ _ _
      case d2 => exact bs_one _
      case d3 => decide
      case d4 => unfold maxLen; omega
      case d5 => omega
      case d6 => omega
      · intro g cap w1 hown1 hgrow hat _
        obtain ⟨q1, q2, q3, q4⟩ := wr_grown (news := [(m : Int)]) HW.out (Kept.alloc _ _) hown1 hgrow (hat.imp id (fun e => by omega))
        clear hown1 hgrow hat hown
        have Q3 : Hid _ := q3
        have Q4 : Hid _ := q4
        clear q3 q4
        go_wp2
        go_end0
        refine ⟨rfl, _, ?_, HS.out.trans Q4.out⟩
        rw [hP.out, uvb_small hlt, ← List.append_assoc, ← HY.out]
        exact Q3.out
    · have hge : (128 : Int) ≤ m := by omega
      have ho : bits .or .u8 ((m : Int) % 256) 128 = 128 + (m : Int) % 128 := by have := or128 m; rwa [show ((m % 256 : Nat) : Int) = (m : Int) % 256 by omega] at this
      go_wp2_with (at_builtin; refine wpList_append_lies _ rfl _ _ 25 rfl 0 5 i0 (.int .u8 0) 1 1 Tryd.underlying25 hi hz0 hz1 hz2 rfl (by decide) _ _ _ rfl (hown.alloc _) ⟨wr.heap.size, 0, none⟩ 1 1 (bs [128 + (m : Int) % 128]) rfl rfl ?c1 ?c2 ?c3 ?c4 ?c5 ?c6 _ rfl ?_)
      case c1 => exact one_new _ _ _
      case c2 => exact bs_one _
      case c3 => decide
      case c4 => unfold maxLen; omega
      case c5 => omega
      case c6 => omega
      · intro g cap w1 hown1 hgrow hat _
        obtain ⟨q1, q2, q3, q4⟩ := wr_grown (news := [128 + (m : Int) % 128]) HW.out (Kept.alloc _ _) hown1 hgrow (hat.imp id (fun e => by omega))
        clear hown1 hgrow hat hown ho
        have Q3 : Hid _ := q3
        have Q4 : Hid _ := q4
        clear q3 q4
        go_wp2
        go_roundw
        case rel =>
          refine ⟨m / 128, pre ++ [128 + (m : Int) % 128], _, by omega, by go_num, ?_, ?_, HS.out.trans Q4.out⟩
          · rw [hP.out, uvb_big hlt, List.append_assoc]; rfl
          · rw [← List.append_assoc, ← HY.out]; exact Q3.out
        case measure => simp [intOf]; omega
end Go.Proofs.YteeimpjjmdpbgaaDoor
namespace Go.Proofs.YteeimpjjmdpbgaaDoor
open Go.RowKit

/-- The m lowest digits of n to the base 256, the lowest first. -/
def le : Nat → Nat → List Int
  | 0, _ => []
  | m + 1, n => ((n % 256 : Nat) : Int) :: le m (n / 256)
theorem le_length (m : Nat) : ∀ n, (le m n).length = m := by
  induction m with
  | zero => intro n; rfl
  | succ m ih => intro n; simp [le, ih]
theorem le_snoc (m : Nat) : ∀ n, le (m + 1) n = le m n ++ [((n / 256 ^ m % 256 : Nat) : Int)] := by
  induction m with
  | zero => intro n; simp [le]
  | succ m ih =>
    intro n
    rw [le, ih, le, List.cons_append, Nat.div_div_eq_div_mul, Nat.pow_succ, Nat.mul_comm 256]
/-- Only what lies below 256^m counts. -/
theorem le_mod (m : Nat) : ∀ n k, n % 256 ^ m = k % 256 ^ m → le m n = le m k := by
  induction m with
  | zero => intro n k _; rfl
  | succ m ih =>
    intro n k h
    have hp : 256 ^ (m + 1) = 256 * 256 ^ m := by rw [Nat.pow_succ, Nat.mul_comm]
    rw [hp] at h
    have h1 : n % 256 = k % 256 := by
      have a := congrArg (· % 256) h
      simpa [Nat.mod_mul_right_mod] using a
    have h2 : n / 256 % 256 ^ m = k / 256 % 256 ^ m := by
      have a := congrArg (· / 256) h
      simpa [Nat.mod_mul_right_div_self] using a
    rw [le, le, h1, ih _ _ h2]
/-- The number that a list of elements of the width w stands for. -/
def pk (w : Nat) : List Int → Nat
  | [] => 0
  | x :: r => x.toNat + 2 ^ w * pk w r
theorem pk_snoc (w : Nat) (x : Int) : ∀ l, pk w (l ++ [x]) = pk w l + 2 ^ (w * l.length) * x.toNat := by
  intro l
  induction l with
  | nil => simp [pk]
  | cons y r ih =>
    rw [List.cons_append, pk, pk, ih, List.length_cons, Nat.mul_succ, Nat.pow_add, Nat.mul_add]
    have : 2 ^ (w * r.length) * 2 ^ w * x.toNat = 2 ^ w * (2 ^ (w * r.length) * x.toNat) := by
      rw [Nat.mul_comm (2 ^ (w * r.length)), Nat.mul_assoc]
    omega
theorem pk_lt (w : Nat) : ∀ l : List Int, (∀ x ∈ l, x.toNat < 2 ^ w) → pk w l < 2 ^ (w * l.length) := by
  intro l
  induction l with
  | nil => intro _; simp [pk]
  | cons y r ih =>
    intro h
    have h1 := h y (List.mem_cons_self ..)
    have h2 := ih (fun x hx => h x (List.mem_cons_of_mem _ hx))
    rw [pk, List.length_cons, Nat.mul_succ, Nat.pow_add]
    have h3 : 2 ^ w * (pk w r + 1) ≤ 2 ^ w * 2 ^ (w * r.length) := Nat.mul_le_mul_left _ h2
    rw [Nat.mul_add, Nat.mul_one, Nat.mul_comm (2 ^ w) (2 ^ (w * r.length))] at h3
    omega
/-- All bits of all elements. -/
def orl (l : List Int) : Nat := l.foldl (fun a x => a ||| x.toNat) 0
theorem orl_snoc (l : List Int) (x : Int) : orl (l ++ [x]) = orl l ||| x.toNat := by simp [orl, List.foldl_append]
theorem bitLen_le_iff (n k : Nat) : bitLen n ≤ k ↔ n < 2 ^ k := by
  constructor
  · intro h
    exact Nat.lt_of_lt_of_le (bitLen_spec n).1 (Nat.pow_le_pow_right (by decide) h)
  · intro h
    unfold bitLen
    split
    · omega
    · rename_i h0
      have := (Nat.log2_lt h0).2 h
      omega
theorem bitLen_or (a b : Nat) : bitLen (a ||| b) = max (bitLen a) (bitLen b) := by
  apply Nat.le_antisymm
  · rw [bitLen_le_iff]
    exact Nat.or_lt_two_pow ((bitLen_le_iff _ _).1 (Nat.le_max_left ..)) ((bitLen_le_iff _ _).1 (Nat.le_max_right ..))
  · have h := (bitLen_le_iff (a ||| b) _).1 (Nat.le_refl _)
    have h1 : bitLen a ≤ bitLen (a ||| b) := (bitLen_le_iff _ _).2 (Nat.lt_of_le_of_lt Nat.left_le_or h)
    have h2 : bitLen b ≤ bitLen (a ||| b) := (bitLen_le_iff _ _).2 (Nat.lt_of_le_of_lt Nat.right_le_or h)
    omega
theorem orl_lt (k : Nat) : ∀ l : List Int, (∀ x ∈ l, x.toNat < 2 ^ k) → orl l < 2 ^ k := by
  intro l
  suffices h : ∀ (l : List Int) (a : Nat), a < 2 ^ k → (∀ x ∈ l, x.toNat < 2 ^ k) → l.foldl (fun a x => a ||| x.toNat) a < 2 ^ k from fun hl => h l 0 (Nat.two_pow_pos _) hl
  intro l
  induction l with
  | nil => intro a ha _; simpa using ha
  | cons y r ih =>
    intro a ha h
    exact ih _ (Nat.or_lt_two_pow ha (h y (List.mem_cons_self ..))) (fun x hx => h x (List.mem_cons_of_mem _ hx))
theorem le_orl : ∀ (l : List Int) (x : Int), x ∈ l → x.toNat ≤ orl l := by
  suffices h : ∀ (l : List Int) (a : Nat), a ≤ l.foldl (fun a x => a ||| x.toNat) a ∧ ∀ x ∈ l, x.toNat ≤ l.foldl (fun a x => a ||| x.toNat) a from fun l x hx => (h l 0).2 x hx
  intro l
  induction l with
  | nil => intro a; exact ⟨Nat.le_refl _, fun x hx => by cases hx⟩
  | cons y r ih =>
    intro a
    have h := ih (a ||| y.toNat)
    refine ⟨Nat.le_trans Nat.left_le_or h.1, fun x hx => ?_⟩
    rcases List.mem_cons.1 hx with rfl | hx
    · exact Nat.le_trans Nat.right_le_or h.1
    · exact h.2 x hx
theorem mem_lt_width {l : List Int} {x : Int} (h : x ∈ l) : x.toNat < 2 ^ bitLen (orl l) :=
  Nat.lt_of_le_of_lt (le_orl l x h) (bitLen_spec _).1
theorem or_i64 (a b : Nat) (ha : a < 2 ^ 63) (hb : b < 2 ^ 63) : bits .or .i64 (a : Int) (b : Int) = ((a ||| b : Nat) : Int) := by
  show IntKind.i64.wrap ((BitVec.ofInt 64 (a : Int) ||| BitVec.ofInt 64 (b : Int)).toNat : Int) = _
  rw [BitVec.toNat_or, ofInt_nat a (by omega), ofInt_nat b (by omega), IntKind.wrap_i64]
  have := Nat.or_lt_two_pow ha hb
  omega
theorem or_u8 (a b : Nat) (ha : a < 256) (hb : b < 256) : bits .or .u8 (a : Int) (b : Int) = ((a ||| b : Nat) : Int) := by
  show IntKind.u8.wrap ((BitVec.ofInt 8 (a : Int) ||| BitVec.ofInt 8 (b : Int)).toNat : Int) = _
  have e : ∀ x : Nat, x < 256 → (BitVec.ofInt 8 (x : Int)).toNat = x := fun x hx => by
    rw [BitVec.ofInt_natCast, BitVec.toNat_ofNat]; exact Nat.mod_eq_of_lt hx
  rw [BitVec.toNat_or, e a ha, e b hb, IntKind.wrap_u8]
  have : a ||| b < 2 ^ 8 := Nat.or_lt_two_pow ha hb
  omega
/-- What is put above the bits that are there is added. -/
theorem or_above (a b u : Nat) (ha : a < 2 ^ u) : a ||| (b * 2 ^ u) = a + b * 2 ^ u := by
  rw [Nat.or_comm, Nat.mul_comm, Nat.add_comm]
  exact (Nat.two_pow_add_eq_or_of_lt ha b).symm
end Go.Proofs.YteeimpjjmdpbgaaDoor
namespace Go.Proofs.YteeimpjjmdpbgaaDoor
open Go.ChangeShapes Go.WideShapes Go.ChangeAt Go.RowKit

/-- A list of ints as it lies in memory: nothing is said of the address of an empty one. -/
def IntsAt (w : World) (a : Option Addr) (l : List Int) : Prop :=
  l ≠ [] → ∃ b off, a = some ⟨b, off, none⟩ ∧ ∀ k, k < l.length → w.cell? ⟨b, off + k, none⟩ = some (.int .i64 (l[k]?.getD 0))
/-- Ints that are ints. -/
def IsInts (l : List Int) : Prop := ∀ x ∈ l, -9223372036854775808 ≤ x ∧ x ≤ 9223372036854775807
theorem IsInts.at {l : List Int} (h : IsInts l) {k : Nat} (hk : k < l.length) : -9223372036854775808 ≤ l[k]?.getD 0 ∧ l[k]?.getD 0 ≤ 9223372036854775807 := by
  rw [List.getElem?_eq_getElem hk]
  exact h _ (List.getElem_mem hk)
theorem IntsAt.get {w : World} {a : Option Addr} {l : List Int} (h : IntsAt w a l) {k : Nat} (hk : k < l.length) : ∃ b off, a = some ⟨b, off, none⟩ ∧ w.cell? ⟨b, off + k, none⟩ = some (.int .i64 (l[k]?.getD 0)) := by
  obtain ⟨b, off, e, hc⟩ := h (by intro e; rw [e] at hk; simp at hk)
  exact ⟨b, off, e, hc k hk⟩
theorem IntsAt.of_same {w w' : World} {a : Option Addr} {l : List Int} (h : IntsAt w a l) (hs : ∀ p v, w.cell? p = some v → (∃ x, v = .int .i64 x) → w'.cell? p = some v) : IntsAt w' a l := by
  intro hl
  obtain ⟨b, off, e, hc⟩ := h hl
  exact ⟨b, off, e, fun k hk => hs _ _ (hc k hk) ⟨_, rfl⟩⟩

theorem any_snoc {k : Nat} {l : List Int} (p : Int → Bool) (hk : k < l.length) : (l.take (k + 1)).any p = ((l.take k).any p || p (l[k]?.getD 0)) := by
  rw [List.take_succ_eq_append_getElem hk, List.any_append, List.getElem?_eq_getElem hk]
  simp

/-- Each is greater than the one before it. -/
def riseB (l : List Int) : Bool := (List.range (l.length - 1)).all fun j => decide (l[j]?.getD 0 < l[j + 1]?.getD 0)
theorem riseB_iff (l : List Int) : riseB l = true ↔ ∀ j, j + 1 < l.length → l[j]?.getD 0 < l[j + 1]?.getD 0 := by
  unfold riseB
  rw [List.all_eq_true]
  constructor
  · intro h j hj
    simpa using h j (List.mem_range.2 (by omega))
  · intro h j hj
    simpa using h j (by have := List.mem_range.1 hj; omega)
end Go.Proofs.YteeimpjjmdpbgaaDoor
namespace Go.Proofs.YteeimpjjmdpbgaaDoor
open Go.RowKit

theorem pow8 (m : Nat) : 256 ^ m = 2 ^ (8 * m) := by
  rw [show (256 : Nat) = 2 ^ 8 by decide, ← Nat.pow_mul]
/-- What has been put of a run of bits: T bits of the value V; the whole bytes among them, and what waits. -/
structure RS (V T last used : Nat) (pre : List Int) : Prop where
  lt : V < 2 ^ T
  us : used = T % 8
  la : last = V / 2 ^ (8 * (T / 8))
  pr : pre = le (T / 8) V
theorem RS.last_lt {V T last used : Nat} {pre : List Int} (h : RS V T last used pre) : last < 2 ^ used := by
  rw [h.la, h.us]
  apply Nat.div_lt_of_lt_mul
  rw [← Nat.pow_add]
  have : 8 * (T / 8) + T % 8 = T := Nat.div_add_mod T 8
  rw [this]
  exact h.lt
theorem RS.used_lt {V T last used : Nat} {pre : List Int} (h : RS V T last used pre) : used < 8 := by rw [h.us]; omega
theorem RS.start : RS 0 0 0 0 [] := ⟨by decide, rfl, by simp, rfl⟩

/-- The byte that a piece makes. -/
theorem run_byte {last used v left : Nat} (hl : last < 2 ^ used) (hu : used < 8) (hv : v < 2 ^ left) :
    last ||| (v * 2 ^ used % 256) = last + (v % 2 ^ min left (8 - used)) * 2 ^ used ∧ v % 2 ^ min left (8 - used) < 2 ^ min left (8 - used) := by
  refine ⟨?_, Nat.mod_lt _ (Nat.two_pow_pos _)⟩
  have e1 : (256 : Nat) = 2 ^ (8 - used) * 2 ^ used := by rw [← Nat.pow_add, show 8 - used + used = 8 by omega]
  have e2 : v * 2 ^ used % 256 = v % 2 ^ (8 - used) * 2 ^ used := by rw [e1, Nat.mul_mod_mul_right]
  have e3 : v % 2 ^ (8 - used) = v % 2 ^ min left (8 - used) := by
    by_cases h : left ≤ 8 - used
    · rw [Nat.min_eq_left h, Nat.mod_eq_of_lt hv, Nat.mod_eq_of_lt (Nat.lt_of_lt_of_le hv (Nat.pow_le_pow_right (by decide) h))]
    · rw [Nat.min_eq_right (by omega)]
  rw [e2, e3, or_above _ _ _ hl]
theorem RS.value {V T last used d : Nat} {pre : List Int} (h : RS V T last used pre) : (V + d * 2 ^ T) / 2 ^ (8 * (T / 8)) = last + d * 2 ^ used := by
  have e : 2 ^ T = 2 ^ (8 * (T / 8)) * 2 ^ used := by rw [← Nat.pow_add, h.us, Nat.div_add_mod]
  rw [e, ← Nat.mul_assoc, Nat.mul_comm d, Nat.mul_assoc, Nat.add_mul_div_left _ _ (Nat.two_pow_pos _), ← h.la]
theorem RS.low {V T last used d : Nat} {pre : List Int} (h : RS V T last used pre) : le (T / 8) (V + d * 2 ^ T) = pre := by
  rw [h.pr]
  apply le_mod
  have e : 2 ^ T = 2 ^ (8 * (T / 8)) * 2 ^ used := by rw [← Nat.pow_add, h.us, Nat.div_add_mod]
  rw [pow8, e, ← Nat.mul_assoc, Nat.mul_comm d, Nat.mul_assoc, Nat.add_mul_mod_self_left]
theorem RS.bound {V T last used d t : Nat} {pre : List Int} (h : RS V T last used pre) (hd : d < 2 ^ t) : V + d * 2 ^ T < 2 ^ (T + t) := by
  rw [Nat.pow_add, Nat.mul_comm (2 ^ T) (2 ^ t)]
  have h1 : (d + 1) * 2 ^ T ≤ 2 ^ t * 2 ^ T := Nat.mul_le_mul_right _ hd
  rw [Nat.add_mul, Nat.one_mul] at h1
  have := h.lt
  omega
/-- A piece that fills the byte. -/
theorem RS.full {V T last used d t : Nat} {pre : List Int} (h : RS V T last used pre) (hd : d < 2 ^ t) (ht : used + t = 8) :
    RS (V + d * 2 ^ T) (T + t) 0 0 (pre ++ [((last + d * 2 ^ used : Nat) : Int)]) := by
  have hu := h.us
  have hT : (T + t) / 8 = T / 8 + 1 := by omega
  have hL : last + d * 2 ^ used < 256 := by
    have h1 : (d + 1) * 2 ^ used ≤ 2 ^ t * 2 ^ used := Nat.mul_le_mul_right _ hd
    rw [← Nat.pow_add, show t + used = 8 by omega, Nat.add_mul, Nat.one_mul] at h1
    have := h.last_lt
    omega
  refine ⟨h.bound hd, by omega, ?_, ?_⟩
  · rw [hT, show 8 * (T / 8 + 1) = 8 * (T / 8) + 8 by omega, Nat.pow_add, ← Nat.div_div_eq_div_mul, h.value]
    omega
  · rw [hT, le_snoc, h.low, pow8, h.value, Nat.mod_eq_of_lt hL]
/-- A piece that doesn't. -/
theorem RS.part {V T last used d t : Nat} {pre : List Int} (h : RS V T last used pre) (hd : d < 2 ^ t) (ht : used + t < 8) :
    RS (V + d * 2 ^ T) (T + t) (last + d * 2 ^ used) (used + t) pre := by
  have hu := h.us
  have hT : (T + t) / 8 = T / 8 := by omega
  refine ⟨h.bound hd, by omega, ?_, ?_⟩
  · rw [hT, h.value]
  · rw [hT, h.low]
/-- The last byte, if one waits. -/
theorem RS.close {V T last used : Nat} {pre : List Int} (h : RS V T last used pre) (hu : 0 < used) : pre ++ [(last : Int)] = le ((T + 7) / 8) V := by
  have hus := h.us
  have hl := h.last_lt
  have : 2 ^ used ≤ 2 ^ 8 := Nat.pow_le_pow_right (by decide) (by omega)
  rw [show (T + 7) / 8 = T / 8 + 1 by omega, le_snoc, ← h.pr, pow8, ← h.la, Nat.mod_eq_of_lt (by omega)]
theorem RS.close0 {V T last : Nat} {pre : List Int} (h : RS V T last 0 pre) : pre = le ((T + 7) / 8) V := by
  have hus := h.us
  rw [show (T + 7) / 8 = T / 8 by omega, ← h.pr]
/-- The value that has been put of an element, piece by piece. -/
theorem piece (x g t P W : Nat) : (P + x % 2 ^ g * 2 ^ W) + (x / 2 ^ g % 2 ^ t) * 2 ^ (W + g) = P + x % 2 ^ (g + t) * 2 ^ W := by
  have e : x % 2 ^ (g + t) = x % 2 ^ g + 2 ^ g * (x / 2 ^ g % 2 ^ t) := by
    rw [Nat.pow_add, Nat.mod_mul]
  rw [e, Nat.add_mul, Nat.pow_add, Nat.mul_comm (2 ^ W) (2 ^ g), ← Nat.mul_assoc, Nat.mul_comm (x / 2 ^ g % 2 ^ t) (2 ^ g)]
  omega
theorem RS.full' {P W g x last used t nl : Nat} {pre : List Int} (h : RS (P + x % 2 ^ g * 2 ^ W) (W + g) last used pre) (hn : nl = last + (x / 2 ^ g % 2 ^ t) * 2 ^ used) (ht : used + t = 8) :
    RS (P + x % 2 ^ (g + t) * 2 ^ W) (W + (g + t)) 0 0 (pre ++ [(nl : Int)]) := by
  have q := h.full (d := x / 2 ^ g % 2 ^ t) (t := t) (Nat.mod_lt _ (Nat.two_pow_pos _)) ht
  rw [piece, Nat.add_assoc, ← hn] at q
  exact q
theorem RS.part' {P W g x last used t nl : Nat} {pre : List Int} (h : RS (P + x % 2 ^ g * 2 ^ W) (W + g) last used pre) (hn : nl = last + (x / 2 ^ g % 2 ^ t) * 2 ^ used) (ht : used + t < 8) :
    RS (P + x % 2 ^ (g + t) * 2 ^ W) (W + (g + t)) nl (used + t) pre := by
  have q := h.part (d := x / 2 ^ g % 2 ^ t) (t := t) (Nat.mod_lt _ (Nat.two_pow_pos _)) ht
  rw [piece, Nat.add_assoc, ← hn] at q
  exact q
theorem run_or (last used y : Nat) (hl : last < 256) : bits .or .u8 (last : Int) (IntKind.u64.wrap ((y : Int) * 2 ^ used) % 256) = ((last ||| (y * 2 ^ used % 256) : Nat) : Int) := by
  have e : IntKind.u64.wrap ((y : Int) * 2 ^ used) % 256 = ((y * 2 ^ used % 256 : Nat) : Int) := by
    rw [IntKind.wrap_u64]
    have : ((y : Int) * 2 ^ used) = ((y * 2 ^ used : Nat) : Int) := by push_cast; rfl
    rw [this]
    omega
  rw [e, or_u8 _ _ hl (Nat.mod_lt _ (by decide))]
theorem div_more {x g y t : Nat} (hy : y = x / 2 ^ g) : ((y : Int) / 2 ^ t) = ((x / 2 ^ (g + t) : Nat) : Int) := by
  rw [Nat.pow_add, ← Nat.div_div_eq_div_mul, ← hy]
  push_cast
  rfl
end Go.Proofs.YteeimpjjmdpbgaaDoor
namespace Go.Proofs.YteeimpjjmdpbgaaDoor
open Go.ChangeShapes Go.WideShapes Go.ChangeAt Go.RowKit

/-- A list of ints that lies apart from what a Writer writes. -/
def IntsFar (w : World) (a : Option Addr) (l : List Int) (bw : Nat) (v : Value) : Prop :=
  l ≠ [] → ∃ b off, a = some ⟨b, off, none⟩ ∧ ¬ WF bw v b ∧ ∀ k, k < l.length → w.cell? ⟨b, off + k, none⟩ = some (.int .i64 (l[k]?.getD 0))
theorem IntsFar.ints {w : World} {a : Option Addr} {l : List Int} {bw : Nat} {v : Value} (h : IntsFar w a l bw v) : IntsAt w a l := by
  intro hl
  obtain ⟨b, off, e, _, hc⟩ := h hl
  exact ⟨b, off, e, hc⟩
theorem IntsFar.step {w w' : World} {a : Option Addr} {l : List Int} {bw : Nat} {v v' : Value} (h : IntsFar w a l bw v) (k : WStep w w' bw v v') : IntsFar w' a l bw v' := by
  intro hl
  obtain ⟨b, off, e, hF, hc⟩ := h hl
  have h0 := hc 0 (List.length_pos_iff.2 hl)
  have hlt := World.block_lt_of_cell? w _ h0
  refine ⟨b, off, e, ?_, fun j hj => k.kept.cell (hc j hj) hF⟩
  rintro (e1 | e1)
  · exact hF (.inl e1)
  · rcases k.new b e1 with x | x
    · exact hF (.inr x)
    · simp at hlt; omega
theorem IntsFar.keptF {F : Nat → Prop} {w w' : World} {a : Option Addr} {l : List Int} {bw : Nat} {v : Value} (h : IntsFar w a l bw v) (k : Kept F w w') (hF : ∀ ad, a = some ad → ¬ F ad.block) : IntsFar w' a l bw v := by
  intro hl
  obtain ⟨b, off, e, hW, hc⟩ := h hl
  exact ⟨b, off, e, hW, fun j hj => k.cell (hc j hj) (hF ⟨b, off, none⟩ e)⟩

end Go.Proofs.YteeimpjjmdpbgaaDoor
namespace Go.Proofs.YteeimpjjmdpbgaaDoor
open Go.ChangeShapes Go.WideShapes Go.ChangeAt Go.RowKit

theorem Kept.drewN (w : World) (n : Nat) : Kept (fun _ => False) w (w.drewN n) := ⟨rfl, rfl, rfl, Nat.le_refl _, fun _ _ _ => rfl⟩
theorem Wr.drewN {w : World} {bw : Nat} {v : Value} {xs : List Int} (h : Wr w bw v xs) (n : Nat) : Wr (w.drewN n) bw v xs := h.kept (Kept.drewN w n) (fun _ _ f => f)
theorem WStep.drewN (w : World) (bw : Nat) (v : Value) (n : Nat) : WStep w (w.drewN n) bw v v := ⟨(Kept.drewN w n).mono (fun _ h => h.elim), fun _ h => .inl h⟩

/-- The bytes of a packed list. -/
def packed (l : List Int) : List Int :=
  uvb l.length ++ (if l = [] then [] else ((bitLen (orl l) : Nat) : Int) :: le ((l.length * bitLen (orl l) + 7) / 8) (pk (bitLen (orl l)) l))
theorem packed_length (l : List Int) : (packed l).length = ulen l.length + (if l = [] then 0 else 1 + (l.length * bitLen (orl l) + 7) / 8) := by
  unfold packed
  rw [List.length_append, uvb_length]
  split <;> simp [le_length]
  omega
theorem orl_bits (l : List Int) (h0 : ∀ x ∈ l, 0 ≤ x) (hI : IsInts l) : bitLen (orl l) ≤ 63 := by
  rw [bitLen_le_iff]
  exact orl_lt 63 l (fun x hx => by have := hI x hx; have := h0 x hx; omega)
theorem no_neg {l : List Int} (h0 : ∀ x ∈ l, 0 ≤ x) : l.any (fun x => decide (x < 0)) = false := by
  rw [List.any_eq_false]
  intro x hx
  have := h0 x hx
  simp; omega


end Go.Proofs.YteeimpjjmdpbgaaDoor
namespace Go.Proofs.YteeimpjjmdpbgaaDoor
open Go.ChangeShapes Go.WideShapes Go.ChangeAt Go.RowKit

/-- The steps of a rising list, from the least number that may come. -/
def risb : List Int → Nat → List Int
  | [], _ => []
  | x :: r, s => uvb (x.toNat - s) ++ risb r (x.toNat + 1)
def nxt (l : List Int) (s : Nat) : Nat := l.foldl (fun _ x => x.toNat + 1) s
theorem risb_snoc (x : Int) : ∀ (l : List Int) (s : Nat), risb (l ++ [x]) s = risb l s ++ uvb (x.toNat - nxt l s) := by
  intro l
  induction l with
  | nil => intro s; simp [risb, nxt]
  | cons y r ih => intro s; rw [List.cons_append, risb, ih, risb, List.append_assoc]; rfl
theorem nxt_snoc (l : List Int) (x : Int) (s : Nat) : nxt (l ++ [x]) s = x.toNat + 1 := by simp [nxt, List.foldl_append]
theorem risb_length : ∀ (l : List Int) (s : Nat), (∀ x ∈ l, x ≤ 9223372036854775807) → (risb l s).length ≤ 10 * l.length := by
  intro l
  induction l with
  | nil => intro s _; simp [risb]
  | cons y r ih =>
    intro s h
    have h1 := ih (y.toNat + 1) (fun x hx => h x (List.mem_cons_of_mem _ hx))
    have h2 := h y (List.mem_cons_self ..)
    have h3 := (ulen_le (y.toNat - s) (by omega)).2
    rw [risb, List.length_append, uvb_length, List.length_cons]
    omega
/-- The bytes of a rising list. -/
def rising (l : List Int) : List Int := uvb l.length ++ risb l 0

/-- What a rising list looks like at the place k. -/
theorem nxt_le {l : List Int} (h0 : ∀ x ∈ l, 0 ≤ x) (hr : riseB l = true) {k : Nat} (hk : k < l.length) : (nxt (l.take k) 0 : Int) ≤ l[k] := by
  cases k with
  | zero => simp [nxt]; exact h0 _ (List.getElem_mem hk)
  | succ k =>
    rw [List.take_succ_eq_append_getElem (by omega), nxt_snoc]
    have := (riseB_iff l).1 hr k hk
    rw [List.getElem?_eq_getElem (by omega), List.getElem?_eq_getElem hk] at this
    have := h0 l[k] (List.getElem_mem (by omega))
    simp at *
    omega

end Go.Proofs.YteeimpjjmdpbgaaDoor
