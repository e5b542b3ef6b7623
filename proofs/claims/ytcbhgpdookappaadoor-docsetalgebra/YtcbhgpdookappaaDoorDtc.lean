import Derived.Test.YtcbhgpdookappaaDoorDtb
import Derived.BigRegion
namespace Go.Proofs.YtcbhgpdookappaaDoor.Ds
open Go.ChangeShapes Go.WideShapes Go.ChangeAt Go.RowKit

/-- A block's four words. -/
def bw (b : Nat → Nat) : Array Value := #[.int .u64 (b 0 : Nat), .int .u64 (b 1 : Nat), .int .u64 (b 2 : Nat), .int .u64 (b 3 : Nat)]
def BOk (b : Nat → Nat) : Prop := ∀ k, b k < 18446744073709551616
theorem bw_at (b : Nat → Nat) (k : Nat) (hk : k < 4) : (bw b)[k]? = some (.int .u64 (b k : Nat)) := by
  match k, hk with
  | 0, _ => rfl
  | 1, _ => rfl
  | 2, _ => rfl
  | 3, _ => rfl
/-- The four cells of a block that lies from off on. -/
theorem bw_cells {W : World} {g : Nat} {t : TypeId} {p : Nat × Nat} (b : Nat → Nat) (h : W.heap[g]? = some (.cells (bw b) t p)) :
    W.cell? ⟨g, 0, none⟩ = some (.int .u64 (b 0 : Nat)) ∧ W.cell? ⟨g, 1, none⟩ = some (.int .u64 (b 1 : Nat)) ∧ W.cell? ⟨g, 2, none⟩ = some (.int .u64 (b 2 : Nat)) ∧ W.cell? ⟨g, 3, none⟩ = some (.int .u64 (b 3 : Nat)) :=
  ⟨(cell_of_row _ _ _ _ _ _ h).trans rfl, (cell_of_row _ _ _ _ _ _ h).trans rfl, (cell_of_row _ _ _ _ _ _ h).trans rfl, (cell_of_row _ _ _ _ _ _ h).trans rfl⟩
theorem shr_bit (x j : Nat) (hx : x < 18446744073709551616) : (bits .and .u64 ((x : Int) / 2 ^ j) 1 == 1) = x.testBit j := by
  have h1 : (x : Int) / 2 ^ j = ((x / 2 ^ j : Nat) : Int) := by push_cast; rfl
  have h2 : x / 2 ^ j < 18446744073709551616 := Nat.lt_of_le_of_lt (Nat.div_le_self _ _) hx
  rw [h1, show (1 : Int) = ((1 : Nat) : Int) from rfl, and_u64 _ 1 h2 (by decide), Nat.and_one_is_mod, Nat.testBit_eq_decide_div_mod_eq]
  by_cases h : x / 2 ^ j % 2 = 1
  · simp [h]
  · simp [show x / 2 ^ j % 2 = 0 by omega]
set_option maxRecDepth 20000 in
set_option maxHeartbeats 1000000 in
theorem bhas_any (b : Nat → Nat) (i : Nat) (hi : i < 256) (hb : BOk b) (w : World) :
    Calls Tryd.prog 47 #[.agg (bw b), .int .i64 i] w fun e w' => e = .returned (.bool ((b (i / 64)).testBit (i % 64))) ∧ Kept (fun _ => False) w w' := by
  have hc : (w.alloc (.cells (bw b) 73)).cell? ⟨w.heap.size, i / 64, none⟩ = some (.int .u64 (b (i / 64) : Nat)) := (cell_of_row _ _ _ _ _ _ (heap_alloc_new w _)).trans (bw_at b _ (by omega))
  have h1 : 0 ≤ (i : Int) / 64 ∧ (i : Int) / 64 < 4 := by omega
  have hs := hideD (shr_bit (b (i / 64)) (i % 64) (hb _))
  obtain ⟨x, hx⟩ : ∃ x, x = b (i / 64) := ⟨_, rfl⟩
  rw [← hx] at hc hs ⊢
  clear hx
  go_enter Tryd.func47, Tryd.ntmps47
  go_wp2
  go_ret
  refine ⟨?_, Kept.alloc _ _⟩
  rw [← hs.out]
  rfl
/-- The counts of a block's first k words. -/
def psum (b : Nat → Nat) : Nat → Nat
  | 0 => 0
  | k + 1 => psum b k + pcn 64 (b k)
theorem psum_le (b : Nat → Nat) : ∀ k, psum b k ≤ 64 * k
  | 0 => Nat.le_refl _
  | k + 1 => by
    have h1 := psum_le b k
    have h2 := bl_len (b k)
    rw [bl_count] at h2
    rw [psum]; omega
theorem Tryd.infoU : (Tryd.prog.info? 61).map (fun i => (i.zero, i.size, i.bytes)) = some (some (.int .u64 0), 1, 8) := by kernel_rfl
theorem bidx (b : Nat → Nat) (k : Nat) (hk : k < 4) (W : World) : (Instr.index 73 (.agg (bw b)) (.int .i64 k)).run Tryd.prog W = .ok (.int .u64 (b k : Nat)) W := by
  obtain ⟨i0, hi, hz0, hz1, hz2⟩ := info_parts Tryd.infoU
  have h1 : (0 : Int) ≤ (k : Int) ∧ (k : Int) < 4 := by omega
  have hc := bw_at b k hk
  simp [Instr.index, run_underlying Tryd.underlying73, asIntOf, h1, sizeOf, typeInfo, hi, hz1, part, hc, go_sem]
  omega
set_option maxRecDepth 20000 in
set_option maxHeartbeats 1000000 in
theorem bcount_any (b : Nat → Nat) (hb : BOk b) (w : World) :
    Calls Tryd.prog 52 #[.agg (bw b)] w fun e w' => e = .returned (.int .i64 (psum b 4 : Nat)) ∧ Kept (fun _ => False) w w' := by
  obtain ⟨c0, c1, c2, c3⟩ := bw_cells b (heap_alloc_new w (.cells (bw b) 73))
  have ON := hideD (fun k (W : World) => ones_any (b k) (hb k) W)
  obtain ⟨W, hW⟩ : ∃ W, W = w.alloc (.cells (bw b) 73) := ⟨_, rfl⟩
  have KW := hideD (show Kept (fun _ => False) w W from by rw [hW]; exact Kept.alloc _ _)
  have BI := hideD (fun k hk => bidx b k hk W)
  have EB := hideD (show (#[.int .u64 (b 0 : Nat), .int .u64 (b 1 : Nat), .int .u64 (b 2 : Nat), .int .u64 (b 3 : Nat)] : Array Value) = bw b from rfl)
  have HW := hideD hW
  clear hW
  go_enter Tryd.func52, Tryd.ntmps52
  go_wp2
  rw [← HW.out, EB.out]
  clear HW EB c0 c1 c2 c3
  obtain ⟨B, hB⟩ : ∃ B, B = bw b := ⟨_, rfl⟩
  rw [← hB] at BI ⊢
  clear hB
  go_loop [3, 7] (fun s i => ∃ k : Nat, k ≤ 4 ∧ i = .int .i64 k ∧ s = .int .i64 (psum b k : Nat)) (fun _ i => 4 - (intOf i).toNat)
  case atStart => exact ⟨0, by omega, rfl, rfl⟩
  case round =>
    obtain ⟨k, hk, rfl, rfl⟩ := hrel
    by_cases hlt : k < 4
    · have hx := BI.out k hlt
      have O := hideD (ON.out k)
      have hle := psum_le b (k + 1)
      have hs := hideD (show psum b k + pcn 64 (b k) = psum b (k + 1) from rfl)
      have hp : psum b k + pcn 64 (b k) ≤ 256 := by rw [hs.out]; omega
      obtain ⟨x, hX⟩ : ∃ x, x = b k := ⟨_, rfl⟩
      obtain ⟨s, hS⟩ : ∃ s, s = psum b k := ⟨_, rfl⟩
      obtain ⟨q, hQ⟩ : ∃ q, q = pcn 64 x := ⟨_, rfl⟩
      rw [← hX] at hx O hs hp
      rw [← hS, ← hQ] at hs hp
      rw [← hQ] at O
      rw [← hS]
      clear hX hS hQ BI ON hle
      go_wp2_with (go_at_call 73; refine (O.out _).mono ?_; rintro e W' ⟨rfl, rfl⟩)
      go_round
      case rel => exact ⟨k + 1, by omega, by go_num, by rw [← hs.out]; go_num⟩
      case measure => simp [intOf]; omega
    · obtain rfl : k = 4 := by omega
      clear ON BI hlt hk
      go_wp2
      go_ret
      exact ⟨rfl, KW.out⟩
end Go.Proofs.YtcbhgpdookappaaDoor.Ds
