import Derived.Test.YtikdokfkfioeeaaRows
import Derived.Test.YtikdokfkfioeeaaNums
import Derived.WalkKit
import Derived.ProofKit
import Derived.OpenShut
import Derived.WalkLawsBesides
namespace Go.Proofs.Ytikdokfkfioeeaa
open Go.ChangeShapes Go.WideShapes Go.ChangeAt Go.RowKit
theorem ret_int {k : IntKind} {a b : Int} (h : a = b) : Ending.returned (.int k a) = .returned (.int k b) := by rw [h]

theorem len_close (b : Nat) (v x : Int) (hx : x.toNat = v.toNat / 2 ^ b) (hb : b ≤ 56) (hlt : x < 256) (hpos : 0 < x) :
    wrap64 ((b : Int) + wrap64 ((bitLen x.toNat : Nat) : Int)) = ((bitLen v.toNat : Nat) : Int) := by
  have l := bitLen_le8 x.toNat (by omega)
  have s := bitLen_shift v.toNat b (by rw [← hx]; omega)
  rw [← hx] at s
  rw [s]
  unfold wrap64
  omega
theorem len_close0 (x : Int) (hlt : x < 256) :
    wrap64 ((bitLen x.toNat : Nat) : Int) = ((bitLen x.toNat : Nat) : Int) := by
  have l := bitLen_le8 x.toNat (by omega)
  unfold wrap64
  omega
theorem bitLen_le (n : Nat) (h : n < 2 ^ 64) : bitLen n ≤ 64 := by
  unfold bitLen
  split
  · omega
  · rename_i h0
    have := (Nat.log2_lt h0).2 h
    omega
set_option maxHeartbeats 4000000 in
set_option maxRecDepth 100000 in
theorem len64_any (v : Int) (w : World) (h0 : 0 ≤ v) (h1 : v ≤ 18446744073709551615) :
    Calls Try.prog 19 #[.int .u64 v] w fun e w' => e = .returned (.int .i64 (bitLen v.toNat)) ∧ w' = w := by
  go_enter Try.func19, Try.ntmps19
  go_wp2
  all_goals (go_ret; refine ⟨congrArg Ending.returned (congrArg (Value.int IntKind.i64) ?_), rfl⟩)
  all_goals rw [len8tab_get]
  all_goals first
    | exact len_close 56 v _ (by omega) (by omega) (by omega) (by omega)
    | exact len_close 48 v _ (by omega) (by omega) (by omega) (by omega)
    | exact len_close 40 v _ (by omega) (by omega) (by omega) (by omega)
    | exact len_close 32 v _ (by omega) (by omega) (by omega) (by omega)
    | exact len_close 24 v _ (by omega) (by omega) (by omega) (by omega)
    | exact len_close 16 v _ (by omega) (by omega) (by omega) (by omega)
    | exact len_close 8 v _ (by omega) (by omega) (by omega) (by omega)
    | (rw [len_close0 v (by omega), len_close0 v (by omega)])
theorem zig_any (v : Int) (w : World) (h0 : -9223372036854775808 ≤ v) (h1 : v ≤ 9223372036854775807) :
    Calls Try.prog 5 #[.int .i64 v] w fun e w' => e = .returned (.int .u64 (zig v)) ∧ w' = w := by
  go_enter Try.func5, Try.ntmps5
  go_wp2
  go_ret
  exact ⟨ret_int (zig_bits v h0 h1), rfl⟩
theorem zag_any (v : Int) (w : World) (h0 : 0 ≤ v) (h1 : v ≤ 18446744073709551615) :
    Calls Try.prog 7 #[.int .u64 v] w fun e w' => e = .returned (.int .i64 (zag v)) ∧ w' = w := by
  go_enter Try.func7, Try.ntmps7
  go_wp2
  go_ret
  exact ⟨ret_int (zag_bits v h0 h1), rfl⟩
theorem rzig_any (v : Int) (w : World) (h0 : -9223372036854775808 ≤ v) (h1 : v ≤ 9223372036854775807) :
    Calls Try.prog 8 #[.int .i64 v] w fun e w' => e = .returned (.int .u64 (zig v)) ∧ w' = w := by
  go_enter Try.func8, Try.ntmps8
  go_wp2
  all_goals go_ret
  · exact ⟨ret_int (by unfold zig; rw [if_pos (by assumption)]), rfl⟩
  · exact ⟨ret_int (by unfold zig; rw [if_neg (by omega)]; omega), rfl⟩
theorem rzag_any (v : Int) (w : World) (h0 : 0 ≤ v) (h1 : v ≤ 18446744073709551615) :
    Calls Try.prog 9 #[.int .u64 v] w fun e w' => e = .returned (.int .i64 (zag v)) ∧ w' = w := by
  go_enter Try.func9, Try.ntmps9
  go_wp2
  all_goals go_ret
  · refine ⟨ret_int (by unfold zag; rw [if_pos (by simp_all)]), rfl⟩
  · exact ⟨ret_int (by unfold zag; rw [if_neg (by simp_all)]), rfl⟩
theorem ulen_any (v : Int) (w : World) (h0 : 0 ≤ v) (h1 : v ≤ 18446744073709551615) :
    Calls Try.prog 6 #[.int .u64 v] w fun e w' => e = .returned (.int .i64 (ulen v.toNat)) ∧ w' = w := by
  have hb := bitLen_le v.toNat (by omega)
  have hu := ulen_bits 64 v.toNat (by omega)
  go_enter Try.func6, Try.ntmps6
  go_wp2_with (go_at_call 19; refine (len64_any _ _ (by omega) (by omega)).mono ?_; rintro e w' ⟨rfl, rfl⟩)
  all_goals go_ret
  · exact ⟨ret_int (by omega), rfl⟩
  · exact ⟨ret_int (by omega), rfl⟩

theorem Try.info5 : (Try.prog.info? 5).map (fun i => (i.zero, i.size, i.bytes)) = some (some (.int .u8 0), 1, 1) := by kernel_rfl
/-- The bytes of a uvarint. -/
def uvb (n : Nat) : List Int := if n < 128 then [(n : Int)] else (128 + (n : Int) % 128) :: uvb (n / 128)
  termination_by n
  decreasing_by omega
theorem uvb_small {n : Nat} (h : n < 128) : uvb n = [(n : Int)] := by rw [uvb, if_pos h]
theorem uvb_big {n : Nat} (h : ¬ n < 128) : uvb n = (128 + (n : Int) % 128) :: uvb (n / 128) := by rw [uvb, if_neg h]
theorem uvb_length (n : Nat) : (uvb n).length = ulen n := by
  induction n using Nat.strongRecOn with
  | ind n ih =>
    by_cases h : n < 128
    · rw [uvb_small h, ulen_small h]; rfl
    · rw [uvb_big h, ulen_big h, List.length_cons, ih (n / 128) (by omega)]; omega

theorem one_new (w : World) (x : Value) (t : TypeId) : ∀ (j : Nat) (u : Value), [x][j]? = some u → (w.alloc (.cells #[x] t)).cell? ((⟨w.heap.size, 0, none⟩ : Addr).add j) = some u := by
  intro j u hj
  match j, hj with
  | 0, hj => simp at hj; subst hj; simp [Addr.add]
set_option maxRecDepth 20000 in
set_option maxHeartbeats 800000 in
theorem uv_any (v : Nat) (w : World) (h1 : v < 18446744073709551616) :
    Calls Try.prog 10 #[.int .u64 v] w fun e w' => ∃ u, e = .returned u ∧ w'.ownsRow w.heap.size 5 1 u (ulen v) ((uvb v).map (Value.int .u8)) ∧ Below w.heap.size w w' := by
  obtain ⟨i0, hi, hz0, hz1, hz2⟩ := info_parts Try.info5
  have hul := (ulen_le v (by omega)).2
  go_enter Try.func10, Try.ntmps10
  go_wp2
  go_loopw [0, 3] (fun x b wr => ∃ (m : Nat) (pre : List Int), m < 18446744073709551616 ∧ x = .int .u64 m ∧ uvb v = pre ++ uvb m ∧ wr.ownsRow w.heap.size 5 1 b pre.length (pre.map (Value.int .u8)) ∧ Below w.heap.size w wr)
    (fun x _ _ => (intOf x).toNat)
  case atStart =>
    exact ⟨v, [], h1, rfl, rfl, World.ownsRow_made w #[] 0 (Nat.le_refl _) (by decide) rfl, (Below.refl _ _).alloc (Nat.le_refl _) _⟩
  case round =>
    obtain ⟨m, pre, hm, rfl, hpre, hown, hbel⟩ := hrel
    have hlen : pre.length + (uvb m).length = ulen v := by rw [← uvb_length, hpre, List.length_append]
    have hP : Hid (uvb v = pre ++ uvb m) := hpre
    clear hpre
    have hsz := hbel.size
    have hp1 : 1 ≤ (uvb m).length := by rw [uvb_length]; exact (ulen_le m (by omega)).1
    by_cases hlt : m < 128
    · go_wp2_with (first
        | (at_builtin; refine wpList_append_own _ rfl _ _ 26 rfl w.heap.size 5 i0 (.int .u8 0) 1 1 Try.underlying26 hi hz0 hz1 hz2 rfl (by decide) _ _ _ rfl (hown.alloc _) ⟨wr.heap.size, 0, none⟩ 1 1 [.int .u8 (m : Int)] rfl rfl ?d1 ?d2 ?d3 ?d4 ?d5 ?_)
        | go_in)
      case d1 => exact one_new _ _ _
      case d2 => intro u hu; simp at hu; subst hu; rfl
      case d3 => unfold maxLen; omega
      case d4 => omega
      case d5 => simp; omega
      · intro v' w1 hown' hgrow _
        have hB1 : Below w.heap.size w w1 := (hbel.alloc hsz _).grown hgrow (by simp; omega) (fun k hk => (hown.lt k hk).1)
        have hl2 : (uvb m).length = 1 := by rw [uvb_small hlt]; rfl
        clear hgrow hown
        go_wp2
        go_ret
        refine ⟨v', rfl, ?_, hB1⟩
        rw [hP.out, uvb_small hlt, List.map_append, ← hlen, hl2]
        exact hown'
    · have hge : (128 : Int) ≤ m := by omega
      go_wp2_with (first
        | (at_builtin; refine wpList_append_own _ rfl _ _ 26 rfl w.heap.size 5 i0 (.int .u8 0) 1 1 Try.underlying26 hi hz0 hz1 hz2 rfl (by decide) _ _ _ rfl (hown.alloc _) ⟨wr.heap.size, 0, none⟩ 1 1 [.int .u8 (128 + (m : Int) % 128)] rfl rfl ?c1 ?c2 ?c3 ?c4 ?c5 ?_)
        | go_in)
      case c1 => exact one_new _ _ _
      case c2 => intro u hu; simp at hu; subst hu; rfl
      case c3 => unfold maxLen; omega
      case c4 => omega
      case c5 => simp; omega
      · intro v' w1 hown' hgrow _
        have hB1 : Below w.heap.size w w1 := (hbel.alloc hsz _).grown hgrow (by simp; omega) (fun k hk => (hown.lt k hk).1)
        clear hgrow hown
        go_wp2
        go_roundw
        case rel =>
          refine ⟨m / 128, pre ++ [128 + (m : Int) % 128], by omega, by go_num, ?_, ?_, hB1⟩
          · rw [hP.out, uvb_big hlt, List.append_assoc]; rfl
          · rw [List.length_append, List.map_append]; exact hown'
        case measure => simp [intOf]; omega
end Go.Proofs.Ytikdokfkfioeeaa
