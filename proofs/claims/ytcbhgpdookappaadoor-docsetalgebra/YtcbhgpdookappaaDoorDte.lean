import Derived.Test.YtcbhgpdookappaaDoorDtd
import Derived.BigRegion
import Derived.Laws.Rows
namespace Go.Proofs.YtcbhgpdookappaaDoor.Ds
open Go.ChangeShapes Go.WideShapes Go.ChangeAt Go.RowKit

theorem andnot_u64 (a b : Nat) (ha : a < 18446744073709551616) (hb : b < 18446744073709551616) : bits .andNot .u64 (a : Int) (b : Int) = ((a ^^^ (a &&& b) : Nat) : Int) := by
  have e : a &&& (2 ^ 64 - 1 - b) = a ^^^ (a &&& b) := by
    apply Nat.eq_of_testBit_eq
    intro i
    rw [Nat.testBit_and, Nat.testBit_xor, Nat.testBit_and, show 2 ^ 64 - 1 - b = 2 ^ 64 - (b + 1) by omega, Nat.testBit_two_pow_sub_succ hb]
    by_cases h : i < 64
    · cases a.testBit i <;> cases b.testBit i <;> simp [h]
    · have : a.testBit i = false := Nat.testBit_lt_two_pow (Nat.lt_of_lt_of_le ha (show 2 ^ 64 ≤ 2 ^ i from Nat.pow_le_pow_right (by decide) (by omega)))
      simp [this]
  show IntKind.u64.wrap ((BitVec.ofInt 64 (a : Int) &&& ~~~(BitVec.ofInt 64 (b : Int))).toNat : Int) = _
  rw [BitVec.toNat_and, BitVec.toNat_not, ofInt_nat64 a ha, ofInt_nat64 b hb, e, IntKind.wrap_u64]
  have : a ^^^ (a &&& b) < 2 ^ 64 := Nat.xor_lt_two_pow (n := 64) ha (Nat.lt_of_le_of_lt Nat.and_le_left ha)
  omega
def orB (b c : Nat → Nat) : Nat → Nat := fun k => b k ||| c k
theorem orB_ok {b c : Nat → Nat} (hb : BOk b) (hc : BOk c) : BOk (orB b c) := fun k => Nat.or_lt_two_pow (n := 64) (hb k) (hc k)
def minusB (b c : Nat → Nat) : Nat → Nat := fun k => b k ^^^ (b k &&& c k)
theorem minusB_ok {b c : Nat → Nat} (hb : BOk b) : BOk (minusB b c) := fun k => Nat.xor_lt_two_pow (n := 64) (hb k) (Nat.lt_of_le_of_lt Nat.and_le_left (hb k))
def andB (b c : Nat → Nat) : Nat → Nat := fun k => b k &&& c k
theorem andB_ok {b c : Nat → Nat} (hb : BOk b) : BOk (andB b c) := fun k => Nat.lt_of_le_of_lt Nat.and_le_left (hb k)
set_option maxRecDepth 20000 in
set_option maxHeartbeats 1000000 in
theorem and_any (b c : Nat → Nat) (hb : BOk b) (hc : BOk c) (w : World) :
    Calls Tryd.prog 53 #[.agg (bw b), .agg (bw c)] w fun e w' => e = .returned (.agg (bw (andB b c))) ∧ Kept (fun _ => False) w w' := by
  go_enter Tryd.func53, Tryd.ntmps53
  go_wp2
  obtain ⟨W, hW⟩ : ∃ W, W = ((w.alloc (.cells (bw b) 73)).alloc (.cells (bw c) 73)).alloc (.cells #[.int .u64 0, .int .u64 0, .int .u64 0, .int .u64 0] 73) := ⟨_, rfl⟩
  rw [← hW]
  have H0 := hideD (show W.heap[w.heap.size]? = some (.cells (bw b) 73 (0, 0)) from by rw [hW]; exact (Kept.alloc _ _).heap ((Kept.alloc _ _).heap (heap_alloc_new w _) (fun f => f)) (fun f => f))
  have H1 := hideD (show W.heap[w.heap.size + 1]? = some (.cells (bw c) 73 (0, 0)) from by rw [hW]; have := heap_alloc_new (w.alloc (.cells (bw b) 73)) (.cells (bw c) 73); rw [World.size_alloc] at this; exact (Kept.alloc _ _).heap this (fun f => f))
  have H2 := hideD (show W.heap[w.heap.size + 1 + 1]? = some (.cells (bw (fun _ => 0)) 73 (0, 0)) from by rw [hW]; have := heap_alloc_new ((w.alloc (.cells (bw b) 73)).alloc (.cells (bw c) 73)) (Obj.cells (bw (fun _ => 0)) 73); rw [World.size_alloc, World.size_alloc] at this; exact this)
  have K0 := hideD (show Kept (fun _ => False) w W from by rw [hW]; exact ((Kept.alloc _ _).trans (Kept.alloc _ _) (fun _ f => f.elim)).trans (Kept.alloc _ _) (fun _ f => f.elim))
  clear hW
  go_loopw [6] (fun i wr => ∃ (k : Nat) (d : Nat → Nat), k ≤ 4 ∧ i = .int .i64 k ∧ Hid (wr.heap[w.heap.size]? = some (.cells (bw d) 73 (0, 0))) ∧ Hid (∀ j, d j = if j < k then andB b c j else b j) ∧ Hid (wr.heap[w.heap.size + 1]? = some (.cells (bw c) 73 (0, 0))) ∧ Hid (wr.heap[w.heap.size + 1 + 1]? = some (.cells (bw (fun _ => 0)) 73 (0, 0))) ∧ Hid (Kept (fun _ => False) w wr)) (fun i _ => 4 - (intOf i).toNat)
  case atStart => exact ⟨0, b, by omega, rfl, H0, hideD (fun j => by simp), H1, H2, K0⟩
  case round =>
    obtain ⟨k, d, hk, rfl, HA, HB, HC, HE, HD⟩ := hrel
    by_cases hlt : k < 4
    · obtain ⟨c1, c2, C3⟩ := bw_put HA.out k hlt
      obtain ⟨c4, _, _⟩ := bw_put HC.out k hlt
      have CC := hideD C3
      have hdk : d k = b k := by rw [HB.out k, if_neg (by omega)]
      have e := and_u64 (b k) (c k) (hb k) (hc k)
      have hAk := hideD (show b k &&& c k = andB b c k from rfl)
      rw [hdk] at c1
      obtain ⟨x, hx⟩ : ∃ x, x = b k := ⟨_, rfl⟩
      obtain ⟨y, hy⟩ : ∃ y, y = c k := ⟨_, rfl⟩
      obtain ⟨z, hz⟩ : ∃ z, z = b k &&& c k := ⟨_, rfl⟩
      rw [← hz, ← hx, ← hy] at e
      rw [← hz] at hAk
      rw [← hx] at c1
      rw [← hy] at c4
      clear C3 hx hy hz hdk
      go_wp2
      go_region
      go_wp2
      go_round
      case rel =>
        refine ⟨k + 1, upd d k z, by omega, by go_num, CC.out _, hideD fun j => ?_, ?_, ?_, ?_⟩
        · unfold upd
          split
          · rename_i h; rw [h, if_pos (by omega)]; exact hAk.out
          · rename_i h
            rw [HB.out j]
            by_cases h2 : j < k
            · rw [if_pos h2, if_pos (by omega)]
            · rw [if_neg h2, if_neg (by omega)]
        · exact hideD ((Kept.drew _).heap ((Kept.setCell wr ⟨w.heap.size, k, none⟩ _).heap HC.out (by simp)) (fun f => f))
        · exact hideD ((Kept.drew _).heap ((Kept.setCell wr ⟨w.heap.size, k, none⟩ _).heap HE.out (by simp only; omega)) (fun f => f))
        · exact hideD ((HD.out.trans (Kept.setCell _ _ _) (fun i hi => .inr (Nat.le_of_eq (Eq.symm hi)))).trans (Kept.drew _) (fun _ f => f.elim))
      case measure => simp [intOf]; omega
    · obtain rfl : k = 4 := by omega
      have eb : bw d = bw (andB b c) := bw_congr fun j hj => by rw [HB.out j, if_pos hj]
      rw [eb] at HA
      obtain ⟨l0, l1, l2, l3⟩ := bw_cells _ HA.out
      obtain ⟨s0, f0, s1, f1, s2, f2, s3, f3, S4, SK⟩ := bw_store (andB b c) HE.out
      have HS4 := hideD S4
      have HSK := hideD SK
      clear S4 SK eb hlt hk
      go_wp2
      refine bodyPost_ret (results_cell_row rfl _ _ (w.heap.size + 1 + 1) _ _ _ _ rfl HS4.out Tryd.underlying73 rfl size_block) rfl ?_
      exact ⟨rfl, HD.out.trans HSK.out (fun i hi => .inr (by have : i = w.heap.size + 1 + 1 := hi; omega))⟩
set_option maxRecDepth 20000 in
set_option maxHeartbeats 1000000 in
theorem or_any (b c : Nat → Nat) (hb : BOk b) (hc : BOk c) (w : World) :
    Calls Tryd.prog 75 #[.agg (bw b), .agg (bw c)] w fun e w' => e = .returned (.agg (bw (orB b c))) ∧ Kept (fun _ => False) w w' := by
  go_enter Tryd.func75, Tryd.ntmps75
  go_wp2
  obtain ⟨W, hW⟩ : ∃ W, W = ((w.alloc (.cells (bw b) 73)).alloc (.cells (bw c) 73)).alloc (.cells #[.int .u64 0, .int .u64 0, .int .u64 0, .int .u64 0] 73) := ⟨_, rfl⟩
  rw [← hW]
  have H0 := hideD (show W.heap[w.heap.size]? = some (.cells (bw b) 73 (0, 0)) from by rw [hW]; exact (Kept.alloc _ _).heap ((Kept.alloc _ _).heap (heap_alloc_new w _) (fun f => f)) (fun f => f))
  have H1 := hideD (show W.heap[w.heap.size + 1]? = some (.cells (bw c) 73 (0, 0)) from by rw [hW]; have := heap_alloc_new (w.alloc (.cells (bw b) 73)) (.cells (bw c) 73); rw [World.size_alloc] at this; exact (Kept.alloc _ _).heap this (fun f => f))
  have H2 := hideD (show W.heap[w.heap.size + 1 + 1]? = some (.cells (bw (fun _ => 0)) 73 (0, 0)) from by rw [hW]; have := heap_alloc_new ((w.alloc (.cells (bw b) 73)).alloc (.cells (bw c) 73)) (Obj.cells (bw (fun _ => 0)) 73); rw [World.size_alloc, World.size_alloc] at this; exact this)
  have K0 := hideD (show Kept (fun _ => False) w W from by rw [hW]; exact ((Kept.alloc _ _).trans (Kept.alloc _ _) (fun _ f => f.elim)).trans (Kept.alloc _ _) (fun _ f => f.elim))
  clear hW
  go_loopw [6] (fun i wr => ∃ (k : Nat) (d : Nat → Nat), k ≤ 4 ∧ i = .int .i64 k ∧ Hid (wr.heap[w.heap.size]? = some (.cells (bw d) 73 (0, 0))) ∧ Hid (∀ j, d j = if j < k then orB b c j else b j) ∧ Hid (wr.heap[w.heap.size + 1]? = some (.cells (bw c) 73 (0, 0))) ∧ Hid (wr.heap[w.heap.size + 1 + 1]? = some (.cells (bw (fun _ => 0)) 73 (0, 0))) ∧ Hid (Kept (fun _ => False) w wr)) (fun i _ => 4 - (intOf i).toNat)
  case atStart => exact ⟨0, b, by omega, rfl, H0, hideD (fun j => by simp), H1, H2, K0⟩
  case round =>
    obtain ⟨k, d, hk, rfl, HA, HB, HC, HE, HD⟩ := hrel
    by_cases hlt : k < 4
    · obtain ⟨c1, c2, C3⟩ := bw_put HA.out k hlt
      obtain ⟨c4, _, _⟩ := bw_put HC.out k hlt
      have CC := hideD C3
      have hdk : d k = b k := by rw [HB.out k, if_neg (by omega)]
      have e := or_u64 (b k) (c k) (hb k) (hc k)
      have hAk := hideD (show b k ||| c k = orB b c k from rfl)
      rw [hdk] at c1
      obtain ⟨x, hx⟩ : ∃ x, x = b k := ⟨_, rfl⟩
      obtain ⟨y, hy⟩ : ∃ y, y = c k := ⟨_, rfl⟩
      obtain ⟨z, hz⟩ : ∃ z, z = b k ||| c k := ⟨_, rfl⟩
      rw [← hz, ← hx, ← hy] at e
      rw [← hz] at hAk
      rw [← hx] at c1
      rw [← hy] at c4
      clear C3 hx hy hz hdk
      go_wp2
      go_region
      go_wp2
      go_round
      case rel =>
        refine ⟨k + 1, upd d k z, by omega, by go_num, CC.out _, hideD fun j => ?_, ?_, ?_, ?_⟩
        · unfold upd
          split
          · rename_i h; rw [h, if_pos (by omega)]; exact hAk.out
          · rename_i h
            rw [HB.out j]
            by_cases h2 : j < k
            · rw [if_pos h2, if_pos (by omega)]
            · rw [if_neg h2, if_neg (by omega)]
        · exact hideD ((Kept.drew _).heap ((Kept.setCell wr ⟨w.heap.size, k, none⟩ _).heap HC.out (by simp)) (fun f => f))
        · exact hideD ((Kept.drew _).heap ((Kept.setCell wr ⟨w.heap.size, k, none⟩ _).heap HE.out (by simp only; omega)) (fun f => f))
        · exact hideD ((HD.out.trans (Kept.setCell _ _ _) (fun i hi => .inr (Nat.le_of_eq (Eq.symm hi)))).trans (Kept.drew _) (fun _ f => f.elim))
      case measure => simp [intOf]; omega
    · obtain rfl : k = 4 := by omega
      have eb : bw d = bw (orB b c) := bw_congr fun j hj => by rw [HB.out j, if_pos hj]
      rw [eb] at HA
      obtain ⟨l0, l1, l2, l3⟩ := bw_cells _ HA.out
      obtain ⟨s0, f0, s1, f1, s2, f2, s3, f3, S4, SK⟩ := bw_store (orB b c) HE.out
      have HS4 := hideD S4
      have HSK := hideD SK
      clear S4 SK eb hlt hk
      go_wp2
      refine bodyPost_ret (results_cell_row rfl _ _ (w.heap.size + 1 + 1) _ _ _ _ rfl HS4.out Tryd.underlying73 rfl size_block) rfl ?_
      exact ⟨rfl, HD.out.trans HSK.out (fun i hi => .inr (by have : i = w.heap.size + 1 + 1 := hi; omega))⟩
set_option maxRecDepth 20000 in
set_option maxHeartbeats 1000000 in
theorem minus_any (b c : Nat → Nat) (hb : BOk b) (hc : BOk c) (w : World) :
    Calls Tryd.prog 56 #[.agg (bw b), .agg (bw c)] w fun e w' => e = .returned (.agg (bw (minusB b c))) ∧ Kept (fun _ => False) w w' := by
  go_enter Tryd.func56, Tryd.ntmps56
  go_wp2
  obtain ⟨W, hW⟩ : ∃ W, W = ((w.alloc (.cells (bw b) 73)).alloc (.cells (bw c) 73)).alloc (.cells #[.int .u64 0, .int .u64 0, .int .u64 0, .int .u64 0] 73) := ⟨_, rfl⟩
  rw [← hW]
  have H0 := hideD (show W.heap[w.heap.size]? = some (.cells (bw b) 73 (0, 0)) from by rw [hW]; exact (Kept.alloc _ _).heap ((Kept.alloc _ _).heap (heap_alloc_new w _) (fun f => f)) (fun f => f))
  have H1 := hideD (show W.heap[w.heap.size + 1]? = some (.cells (bw c) 73 (0, 0)) from by rw [hW]; have := heap_alloc_new (w.alloc (.cells (bw b) 73)) (.cells (bw c) 73); rw [World.size_alloc] at this; exact (Kept.alloc _ _).heap this (fun f => f))
  have H2 := hideD (show W.heap[w.heap.size + 1 + 1]? = some (.cells (bw (fun _ => 0)) 73 (0, 0)) from by rw [hW]; have := heap_alloc_new ((w.alloc (.cells (bw b) 73)).alloc (.cells (bw c) 73)) (Obj.cells (bw (fun _ => 0)) 73); rw [World.size_alloc, World.size_alloc] at this; exact this)
  have K0 := hideD (show Kept (fun _ => False) w W from by rw [hW]; exact ((Kept.alloc _ _).trans (Kept.alloc _ _) (fun _ f => f.elim)).trans (Kept.alloc _ _) (fun _ f => f.elim))
  clear hW
  go_loopw [6] (fun i wr => ∃ (k : Nat) (d : Nat → Nat), k ≤ 4 ∧ i = .int .i64 k ∧ Hid (wr.heap[w.heap.size]? = some (.cells (bw d) 73 (0, 0))) ∧ Hid (∀ j, d j = if j < k then minusB b c j else b j) ∧ Hid (wr.heap[w.heap.size + 1]? = some (.cells (bw c) 73 (0, 0))) ∧ Hid (wr.heap[w.heap.size + 1 + 1]? = some (.cells (bw (fun _ => 0)) 73 (0, 0))) ∧ Hid (Kept (fun _ => False) w wr)) (fun i _ => 4 - (intOf i).toNat)
  case atStart => exact ⟨0, b, by omega, rfl, H0, hideD (fun j => by simp), H1, H2, K0⟩
  case round =>
    obtain ⟨k, d, hk, rfl, HA, HB, HC, HE, HD⟩ := hrel
    by_cases hlt : k < 4
    · obtain ⟨c1, c2, C3⟩ := bw_put HA.out k hlt
      obtain ⟨c4, _, _⟩ := bw_put HC.out k hlt
      have CC := hideD C3
      have hdk : d k = b k := by rw [HB.out k, if_neg (by omega)]
      have e := andnot_u64 (b k) (c k) (hb k) (hc k)
      have hAk := hideD (show b k ^^^ (b k &&& c k) = minusB b c k from rfl)
      rw [hdk] at c1
      obtain ⟨x, hx⟩ : ∃ x, x = b k := ⟨_, rfl⟩
      obtain ⟨y, hy⟩ : ∃ y, y = c k := ⟨_, rfl⟩
      obtain ⟨z, hz⟩ : ∃ z, z = b k ^^^ (b k &&& c k) := ⟨_, rfl⟩
      rw [← hz, ← hx, ← hy] at e
      rw [← hz] at hAk
      rw [← hx] at c1
      rw [← hy] at c4
      clear C3 hx hy hz hdk
      go_wp2
      go_region
      go_wp2
      go_round
      case rel =>
        refine ⟨k + 1, upd d k z, by omega, by go_num, CC.out _, hideD fun j => ?_, ?_, ?_, ?_⟩
        · unfold upd
          split
          · rename_i h; rw [h, if_pos (by omega)]; exact hAk.out
          · rename_i h
            rw [HB.out j]
            by_cases h2 : j < k
            · rw [if_pos h2, if_pos (by omega)]
            · rw [if_neg h2, if_neg (by omega)]
        · exact hideD ((Kept.drew _).heap ((Kept.setCell wr ⟨w.heap.size, k, none⟩ _).heap HC.out (by simp)) (fun f => f))
        · exact hideD ((Kept.drew _).heap ((Kept.setCell wr ⟨w.heap.size, k, none⟩ _).heap HE.out (by simp only; omega)) (fun f => f))
        · exact hideD ((HD.out.trans (Kept.setCell _ _ _) (fun i hi => .inr (Nat.le_of_eq (Eq.symm hi)))).trans (Kept.drew _) (fun _ f => f.elim))
      case measure => simp [intOf]; omega
    · obtain rfl : k = 4 := by omega
      have eb : bw d = bw (minusB b c) := bw_congr fun j hj => by rw [HB.out j, if_pos hj]
      rw [eb] at HA
      obtain ⟨l0, l1, l2, l3⟩ := bw_cells _ HA.out
      obtain ⟨s0, f0, s1, f1, s2, f2, s3, f3, S4, SK⟩ := bw_store (minusB b c) HE.out
      have HS4 := hideD S4
      have HSK := hideD SK
      clear S4 SK eb hlt hk
      go_wp2
      refine bodyPost_ret (results_cell_row rfl _ _ (w.heap.size + 1 + 1) _ _ _ _ rfl HS4.out Tryd.underlying73 rfl size_block) rfl ?_
      exact ⟨rfl, HD.out.trans HSK.out (fun i hi => .inr (by have : i = w.heap.size + 1 + 1 := hi; omega))⟩
end Go.Proofs.YtcbhgpdookappaaDoor.Ds
