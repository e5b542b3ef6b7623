import Derived.Test.YtikmmkhginakjaaBase
namespace Go.Proofs.Ytikmmkhginakjaa
open Go.ChangeShapes Go.WideShapes Go.ChangeAt Go.RowKit

theorem tmod_neg (v : Int) (h : v.tmod 256 < 0) : v.tmod 256 + 256 = v % 256 := by
  rw [Int.tmod_eq_emod] at h ⊢
  split at h <;> split <;> simp_all <;> omega
theorem tmod_pos (v : Int) (h : ¬ v.tmod 256 < 0) : v.tmod 256 = v % 256 := by
  rw [Int.tmod_eq_emod] at h ⊢
  split at h <;> split <;> simp_all <;> omega
/-- A term's key. -/
def keyOf (v : Int) (t : ByteArray) : ByteArray := strOfNums [v % 256] ++ t
theorem one_cell (w : World) (x : Int) : ∀ i, i < 1 → (w.alloc (.cells #[.int .u8 x] 5)).cell? ⟨w.heap.size, 0 + i, none⟩ = some (.int .u8 ([x].getD i 0)) := by
  intro i hi
  obtain rfl : i = 0 := by omega
  simp

set_option maxRecDepth 20000 in
set_option maxHeartbeats 1000000 in
theorem key_any (v : Int) (t : ByteArray) (w : World) (ht : t.size ≤ 140737488351232) :
    Calls Try.prog 4 #[.int .i64 v, .string t] w fun e w' => e = .returned (.string (strOfNums [v % 256] ++ t)) ∧ Below w.heap.size w w' := by
  have hz : ¬ 9223372036854775807 < (strOfNums [v % 256]).size + t.size := by rw [strOfNums_size]; simp only [List.length_cons, List.length_nil]; omega
  have hc := run_convert_bytes_arg (P := Try.prog) (w.alloc (.cells #[.int .u8 (v % 256)] 5)) 24 5 Try.underlying24 Try.underlying5 w.heap.size 0 1 1 [v % 256] rfl (one_cell w (v % 256)) 9 Try.underlying9
  go_enter Try.func4, Try.ntmps4
  go_wp2
  go_ret
  exact ⟨rfl, (Below.refl _ _).alloc (Nat.le_refl _) _⟩

set_option maxRecDepth 20000 in
set_option maxHeartbeats 1000000 in
theorem rkey_any (v : Int) (t : ByteArray) (w : World) (ht : t.size ≤ 140737488351232) :
    Calls Try.prog 5 #[.int .i64 v, .string t] w fun e w' => e = .returned (.string (strOfNums [v % 256] ++ t)) ∧ Below w.heap.size w w' := by
  have hz : ¬ 9223372036854775807 < (strOfNums [v % 256]).size + t.size := by rw [strOfNums_size]; simp only [List.length_cons, List.length_nil]; omega
  have hc := run_convert_bytes_arg (P := Try.prog) (w.alloc (.cells #[.int .u8 (v % 256)] 5)) 24 5 Try.underlying24 Try.underlying5 w.heap.size 0 1 1 [v % 256] rfl (one_cell w (v % 256)) 9 Try.underlying9
  by_cases hn : v.tmod 256 < 0
  · have e1 : v.tmod 256 + 256 = v % 256 := tmod_neg v hn
    go_enter Try.func5, Try.ntmps5
    go_wp2
    go_ret
    exact ⟨rfl, (Below.refl _ _).alloc (Nat.le_refl _) _⟩
  · have e1 : v.tmod 256 = v % 256 := tmod_pos v hn
    have e2 : ¬ v % 256 < 0 := by omega
    go_enter Try.func5, Try.ntmps5
    go_wp2
    go_ret
    exact ⟨rfl, (Below.refl _ _).alloc (Nat.le_refl _) _⟩

set_option maxRecDepth 20000 in
set_option maxHeartbeats 1000000 in
theorem keys_walk (v : Int) (t : ByteArray) (w : World) (ht : t.size ≤ 140737488351232) :
    Calls Try.prog 3 #[.int .i64 v, .string t] w fun e w' => e = .returned (.bool true) ∧ Kept (fun _ => False) w w' := by
  have CK : ∀ (v : Int) (t : ByteArray) (w : World), Hid (t.size ≤ 140737488351232) → Calls Try.prog 4 #[.int .i64 v, .string t] w fun e w' => e = .returned (.string (keyOf v t)) ∧ Below w.heap.size w w' := fun v t w h => key_any v t w h.out
  have C3 : ∀ w, Calls Try.prog 5 #[.int .i64 v, .string t] w fun e w' => e = .returned (.string (keyOf v t)) ∧ Below w.heap.size w w' := fun w => rkey_any v t w ht
  have e1 : ((keyOf 3 ⟨#[97, 98]⟩).toList == (⟨#[3, 97, 98]⟩ : ByteArray).toList) = true := by unfold keyOf; rw [ByteArray.toList_eq, ByteArray.toList_eq, ByteArray.data_append, Array.toList_append, strOfNums_data]; rfl
  have e3 : ((keyOf 3 ⟨#[97, 98]⟩).toList == [3, 97, 98]) = true := by unfold keyOf; rw [ByteArray.toList_eq, ByteArray.data_append, Array.toList_append, strOfNums_data]; rfl
  have e2 : ((keyOf v t).toList == (keyOf v t).toList) = true := by simp
  have h2 : Hid ((⟨#[97, 98]⟩ : ByteArray).size ≤ 140737488351232) := (by show 2 ≤ 140737488351232; omega)
  have ht : Hid (t.size ≤ 140737488351232) := ht
  go_enter Try.func3, Try.ntmps3
  go_wp2_with (first
    | (go_at_call 4; refine (CK _ _ _ (by first | exact ht | exact h2)).mono ?_; rintro e W1 ⟨rfl, K1⟩)
    | (go_at_call 5; refine (C3 _).mono ?_; rintro e W3 ⟨rfl, K3⟩))
  rename_i WA KA
  go_ret
  exact ⟨rfl, (((Kept.of_below KA).trans (Kept.of_below K1) (fun _ f => f.elim)).trans (Kept.of_below K3) (fun _ f => f.elim))⟩
end Go.Proofs.Ytikmmkhginakjaa
