import Derived.Test.YtnkmjhcddegkhaaDoorRows
import Derived.Test.YtnkmjhcddegkhaaDoorTrm
import Derived.WalkKit
import Derived.ProofKit
import Derived.OpenShut
import Derived.WalkLawsBesides
namespace Go.Proofs.YtnkmjhcddegkhaaDoor
open Go.ChangeShapes Go.WideShapes Go.ChangeAt Go.RowKit

/-- The first k bytes from the right. -/
def tk (n k j : Nat) : Int := if 7 - j < k then ((n / 256 ^ (7 - j) % 256 : Nat) : Int) else 0
def tcells (n k : Nat) : Array Value := #[.int .u8 (tk n k 0), .int .u8 (tk n k 1), .int .u8 (tk n k 2), .int .u8 (tk n k 3), .int .u8 (tk n k 4), .int .u8 (tk n k 5), .int .u8 (tk n k 6), .int .u8 (tk n k 7)]

theorem tcell_at (w : World) (n : Nat) : ∀ i, i < 8 → (w.alloc (.cells (tcells n 8) 78)).cell? ⟨w.heap.size, 0 + i, none⟩ = some (.int .u8 ((tb n).getD i 0)) := by
  intro i hi
  have hk8 : i = 0 ∨ i = 1 ∨ i = 2 ∨ i = 3 ∨ i = 4 ∨ i = 5 ∨ i = 6 ∨ i = 7 := by omega
  rcases hk8 with rfl | rfl | rfl | rfl | rfl | rfl | rfl | rfl <;> simp [tcells, tk, tb]

set_option maxRecDepth 20000 in
set_option maxHeartbeats 1000000 in
theorem term_any (v : Int) (w : World) (h0 : -9223372036854775808 ≤ v) (h1 : v ≤ 9223372036854775807) :
    Calls Tryd.prog 43 #[.int .i64 v] w fun e w' => e = .returned (.string (tm (wd v))) ∧ Below w.heap.size w w' := by
  have e : IntKind.u64.wrap (IntKind.u64.wrap v + 9223372036854775808) = ((wd v : Nat) : Int) := by
    rw [IntKind.wrap_u64, IntKind.wrap_u64]; unfold wd; omega
  have hn := wd_lt v h1
  go_enter Tryd.func43, Tryd.ntmps43
  go_wp2
  clear e
  go_loopw [9] (fun i wr => ∃ k : Nat, k ≤ 8 ∧ i = .int .i64 k ∧ wr = w.alloc (.cells (tcells (wd v) k) 78)) (fun i _ => 8 - (intOf i).toNat)
  case atStart => exact ⟨0, by omega, rfl, rfl⟩
  case round =>
    obtain ⟨k, hk, rfl, rfl⟩ := hrel
    by_cases hlt : k < 8
    · have hk8 : k = 0 ∨ k = 1 ∨ k = 2 ∨ k = 3 ∨ k = 4 ∨ k = 5 ∨ k = 6 ∨ k = 7 := by omega
      clear hlt hk
      rcases hk8 with rfl | rfl | rfl | rfl | rfl | rfl | rfl | rfl
      all_goals
        simp only [tcells]
        go_wp2
        go_roundw
        case rel =>
          first
            | exact ⟨1, by omega, rfl, by simp [tk]⟩
            | exact ⟨2, by omega, rfl, by simp [tk]⟩
            | exact ⟨3, by omega, rfl, by simp [tk]⟩
            | exact ⟨4, by omega, rfl, by simp [tk]⟩
            | exact ⟨5, by omega, rfl, by simp [tk]⟩
            | exact ⟨6, by omega, rfl, by simp [tk]⟩
            | exact ⟨7, by omega, rfl, by simp [tk]⟩
            | exact ⟨8, by omega, rfl, by simp [tk, show ((wd v : Nat) : Int) / 72057594037927936 % 256 = ((wd v : Nat) : Int) / 72057594037927936 by omega]⟩
        case measure => simp [intOf]
    · obtain rfl : k = 8 := by omega
      have hc := run_convert_bytes_arg (P := Tryd.prog) (w.alloc (.cells (tcells (wd v) 8) 78)) 45 5 Tryd.underlying45 Tryd.underlying5 w.heap.size 0 8 8 (tb (wd v)) rfl (tcell_at w (wd v)) 9 Tryd.underlying9
      go_wp2
      go_ret
      exact ⟨rfl, (Below.refl _ _).alloc (Nat.le_refl _) _⟩

theorem ret2_int {x y : Int} {b : Bool} (h : x = y) : Ending.returned (.tuple #[.int .i64 x, .bool b]) = .returned (.tuple #[.int .i64 y, .bool b]) := by rw [h]
theorem bv_word (s : ByteArray) (hs : s.size = 8) : bv s.data.toList < 18446744073709551616 := by
  have hb := bv_lt s.data.toList
  rw [Array.length_toList, show s.data.size = 8 from hs] at hb
  exact hb
theorem num_wrap (s : ByteArray) (a : Nat) (ha : a = bv (s.data.toList.take 8)) (hs : s.size = 8) : wrap64 (IntKind.u64.wrap ((a : Int) - 9223372036854775808)) = (bv s.data.toList : Int) - 9223372036854775808 := by
  have hb := bv_word s hs
  rw [List.take_of_length_le (by rw [Array.length_toList]; exact Nat.le_of_eq hs)] at ha
  rw [← ha] at hb ⊢
  rw [IntKind.wrap_u64]
  unfold wrap64
  omega
theorem hideP {p : Prop} (h : p) : Hid p := h
theorem take_next (s : ByteArray) (k : Nat) (h : k < s.size) : s.data.toList.take (k + 1) = s.data.toList.take k ++ [s[k]] := by
  rw [List.take_succ_eq_append_getElem (by simpa using h)]; rfl
theorem term_step (s : ByteArray) (k a : Nat) (ha : a = bv (s.data.toList.take k)) (h : k < s.size) : a * 256 + s[k].toNat = bv (s.data.toList.take (k + 1)) := by
  rw [take_next s k h, bv_snoc, ha]
theorem term_small (s : ByteArray) (k a : Nat) (ha : a = bv (s.data.toList.take k)) (h : k < 8) : a < 72057594037927936 := by
  have hb := bv_lt (s.data.toList.take k)
  have hl : (s.data.toList.take k).length ≤ 7 := by rw [List.length_take]; omega
  have hp : 256 ^ (s.data.toList.take k).length ≤ 256 ^ 7 := Nat.pow_le_pow_right (by decide) hl
  rw [ha]
  omega
theorem tm_inj (v u : Int) (h0 : -9223372036854775808 ≤ v) (g0 : -9223372036854775808 ≤ u) : wd v = wd u ↔ v = u := by unfold wd; omega
theorem tm_lt (v u : Int) (h0 : -9223372036854775808 ≤ v) (g0 : -9223372036854775808 ≤ u) : wd v < wd u ↔ v < u := by unfold wd; omega
theorem term_less (v u : Int) (h0 : -9223372036854775808 ≤ v) (h1 : v ≤ 9223372036854775807) (g0 : -9223372036854775808 ≤ u) (g1 : u ≤ 9223372036854775807) :
    Op.bytesLess (tm (wd v)).toList (tm (wd u)).toList = decide (v < u) := by
  rw [ByteArray.toList_eq, ByteArray.toList_eq, tm_less _ _ (wd_lt v h1) (wd_lt u g1), decide_eq_decide]
  exact tm_lt v u h0 g0
theorem term_beq (v u : Int) (h0 : -9223372036854775808 ≤ v) (h1 : v ≤ 9223372036854775807) (g0 : -9223372036854775808 ≤ u) (g1 : u ≤ 9223372036854775807) :
    ((tm (wd v)).toList == (tm (wd u)).toList) = decide (v = u) := by
  rw [ByteArray.toList_eq, ByteArray.toList_eq, tm_beq _ _ (wd_lt v h1) (wd_lt u g1), decide_eq_decide]
  exact tm_inj v u h0 g0
end Go.Proofs.YtnkmjhcddegkhaaDoor
