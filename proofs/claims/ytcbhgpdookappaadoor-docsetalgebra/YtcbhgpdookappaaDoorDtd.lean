import Derived.Test.YtcbhgpdookappaaDoorDtc
import Derived.BigRegion
import Derived.Laws.Rows
namespace Go.Proofs.YtcbhgpdookappaaDoor.Ds
open Go.ChangeShapes Go.WideShapes Go.ChangeAt Go.RowKit

theorem set_blockD {W : World} {b k : Nat} {cs : Array Value} {t : TypeId} {fr : Nat × Nat} {u : Value} (h : W.heap[b]? = some (.cells cs t fr)) : (W.setCell ⟨b, k, none⟩ u).heap[b]? = some (.cells (cs.setIfInBounds k u) t fr) := by
  have hlt : b < W.heap.size := (Array.getElem?_eq_some_iff.1 h).1
  have h' : W.heap[b] = .cells cs t fr := by simpa [Array.getElem?_eq_getElem hlt] using h
  show (W.heap.modify b _)[b]? = _
  rw [Array.getElem?_eq_getElem (by simpa using hlt), Array.getElem_modify_self, h']
  rfl
/-- A word of a block written anew. -/
def upd (b : Nat → Nat) (k x : Nat) : Nat → Nat := fun j => if j = k then x else b j
theorem bw_upd (b : Nat → Nat) (k x : Nat) (hk : k < 4) : (bw b).setIfInBounds k (.int .u64 (x : Nat)) = bw (upd b k x) := by
  match k, hk with
  | 0, _ => rfl
  | 1, _ => rfl
  | 2, _ => rfl
  | 3, _ => rfl
theorem bw_congr {b c : Nat → Nat} (h : ∀ k, k < 4 → b k = c k) : bw b = bw c := by
  unfold bw
  rw [h 0 (by decide), h 1 (by decide), h 2 (by decide), h 3 (by decide)]
def lw (n k : Nat) : Nat := 2 ^ (min (n - 64 * k) 64) - 1
theorem pow_le64 {m : Nat} (h : m ≤ 64) : 2 ^ m ≤ 18446744073709551616 := Nat.le_trans (Nat.pow_le_pow_right (by decide) h) (by decide)
theorem lw_lt (n : Nat) : BOk (lw n) := fun k => by
  have h1 := pow_le64 (Nat.min_le_right (n - 64 * k) 64)
  have h2 : 0 < 2 ^ (min (n - 64 * k) 64) := Nat.two_pow_pos _
  unfold lw; omega
/-- What a store of a word makes of a block's cells. -/
theorem bw_put {W : World} {g : Nat} {t : TypeId} {b : Nat → Nat} (h : W.heap[g]? = some (.cells (bw b) t (0, 0))) (k : Nat) (hk : k < 4) :
    W.cell? ⟨g, k, none⟩ = some (.int .u64 (b k : Nat)) ∧ W.frozen? ⟨g, k, none⟩ = false ∧ ∀ x : Nat, (W.setCell ⟨g, k, none⟩ (.int .u64 (x : Nat))).heap[g]? = some (.cells (bw (upd b k x)) t (0, 0)) := by
  refine ⟨(cell_of_row _ _ _ _ _ _ h).trans (bw_at b k hk), by simp [World.frozen?, h], fun x => ?_⟩
  rw [set_blockD h, bw_upd b k x hk]
theorem size_block : (Tryd.prog.info? 73).map (·.size) = some 4 := by kernel_rfl
theorem lw_val (n k : Nat) : IntKind.u64.wrap (IntKind.u64.wrap (2 ^ (if (64 : Int) < (if (n : Int) - (k : Int) * 64 < 0 then 0 else (n : Int) - (k : Int) * 64) then 64 else (if (n : Int) - (k : Int) * 64 < 0 then 0 else (n : Int) - (k : Int) * 64)).toNat) - 1) = ((lw n k : Nat) : Int) := by
  have e : (if (64 : Int) < (if (n : Int) - (k : Int) * 64 < 0 then 0 else (n : Int) - (k : Int) * 64) then 64 else (if (n : Int) - (k : Int) * 64 < 0 then 0 else (n : Int) - (k : Int) * 64)).toNat = min (n - 64 * k) 64 := by
    rw [Nat.min_def]
    split <;> split <;> split <;> omega
  rw [e]
  have h1 := pow_le64 (Nat.min_le_right (n - 64 * k) 64)
  have h2 : 0 < 2 ^ (min (n - 64 * k) 64) := Nat.two_pow_pos _
  unfold lw
  have h3 : (2 : Int) ^ (min (n - 64 * k) 64) = ((2 ^ (min (n - 64 * k) 64) : Nat) : Int) := by push_cast; rfl
  rw [h3]
  obtain ⟨p, hp⟩ : ∃ p, p = 2 ^ (min (n - 64 * k) 64) := ⟨_, rfl⟩
  rw [← hp] at h1 h2 ⊢
  rw [IntKind.wrap_u64, IntKind.wrap_u64]
  omega
/-- A whole block stored into another's cells. -/
theorem bw_store {W : World} {g : Nat} {t : TypeId} {b : Nat → Nat} (c : Nat → Nat) (h : W.heap[g]? = some (.cells (bw b) t (0, 0))) :
    W.cell? ⟨g, 0, none⟩ = some (.int .u64 (b 0 : Nat)) ∧ W.frozen? ⟨g, 0, none⟩ = false ∧
    (W.setCell ⟨g, 0, none⟩ (.int .u64 (c 0 : Nat))).cell? ⟨g, 1, none⟩ = some (.int .u64 (b 1 : Nat)) ∧ (W.setCell ⟨g, 0, none⟩ (.int .u64 (c 0 : Nat))).frozen? ⟨g, 1, none⟩ = false ∧
    ((W.setCell ⟨g, 0, none⟩ (.int .u64 (c 0 : Nat))).setCell ⟨g, 1, none⟩ (.int .u64 (c 1 : Nat))).cell? ⟨g, 2, none⟩ = some (.int .u64 (b 2 : Nat)) ∧ ((W.setCell ⟨g, 0, none⟩ (.int .u64 (c 0 : Nat))).setCell ⟨g, 1, none⟩ (.int .u64 (c 1 : Nat))).frozen? ⟨g, 2, none⟩ = false ∧
    (((W.setCell ⟨g, 0, none⟩ (.int .u64 (c 0 : Nat))).setCell ⟨g, 1, none⟩ (.int .u64 (c 1 : Nat))).setCell ⟨g, 2, none⟩ (.int .u64 (c 2 : Nat))).cell? ⟨g, 3, none⟩ = some (.int .u64 (b 3 : Nat)) ∧ (((W.setCell ⟨g, 0, none⟩ (.int .u64 (c 0 : Nat))).setCell ⟨g, 1, none⟩ (.int .u64 (c 1 : Nat))).setCell ⟨g, 2, none⟩ (.int .u64 (c 2 : Nat))).frozen? ⟨g, 3, none⟩ = false ∧
    ((((W.setCell ⟨g, 0, none⟩ (.int .u64 (c 0 : Nat))).setCell ⟨g, 1, none⟩ (.int .u64 (c 1 : Nat))).setCell ⟨g, 2, none⟩ (.int .u64 (c 2 : Nat))).setCell ⟨g, 3, none⟩ (.int .u64 (c 3 : Nat))).heap[g]? = some (.cells (bw c) t (0, 0)) ∧
    Kept (fun k => k = g) W ((((W.setCell ⟨g, 0, none⟩ (.int .u64 (c 0 : Nat))).setCell ⟨g, 1, none⟩ (.int .u64 (c 1 : Nat))).setCell ⟨g, 2, none⟩ (.int .u64 (c 2 : Nat))).setCell ⟨g, 3, none⟩ (.int .u64 (c 3 : Nat))) := by
  have h1 := set_blockD (k := 0) (u := .int .u64 (c 0 : Nat)) h
  have h2 := set_blockD (k := 1) (u := .int .u64 (c 1 : Nat)) h1
  have h3 := set_blockD (k := 2) (u := .int .u64 (c 2 : Nat)) h2
  have h4 := set_blockD (k := 3) (u := .int .u64 (c 3 : Nat)) h3
  refine ⟨by simp [World.cell?, h, bw], by simp [World.frozen?, h], by simp [World.cell?, h1, bw], by simp [World.frozen?, h1], by simp [World.cell?, h2, bw], by simp [World.frozen?, h2], by simp [World.cell?, h3, bw], by simp [World.frozen?, h3], h4, ?_⟩
  exact (((Kept.setCell _ ⟨g, 0, none⟩ _).trans (Kept.setCell _ ⟨g, 1, none⟩ _) (fun i e => .inl e)).trans (Kept.setCell _ ⟨g, 2, none⟩ _) (fun i e => .inl e)).trans (Kept.setCell _ ⟨g, 3, none⟩ _) (fun i e => .inl e)
set_option maxRecDepth 20000 in
set_option maxHeartbeats 1000000 in
theorem lowest_any (n : Nat) (hn : n ≤ 1048576) (w : World) :
    Calls Tryd.prog 54 #[.int .i64 n] w fun e w' => e = .returned (.agg (bw (lw n))) ∧ Kept (fun _ => False) w w' := by
  obtain ⟨Z, hZ⟩ : ∃ Z, Z = Obj.cells #[.int .u64 0, .int .u64 0, .int .u64 0, .int .u64 0] 73 := ⟨_, rfl⟩
  go_enter Tryd.func54, Tryd.ntmps54
  go_wp2
  rw [← hZ]
  have H0 := hideD (show ((w.alloc Z).alloc Z).heap[w.heap.size]? = some (.cells (bw (fun _ => 0)) 73 (0, 0)) from by rw [hZ]; exact (Kept.alloc _ _).heap (heap_alloc_new w _) (fun f => f))
  have H1 := hideD (show ((w.alloc Z).alloc Z).heap[w.heap.size + 1]? = some (.cells (bw (fun _ => 0)) 73 (0, 0)) from by rw [hZ]; have := heap_alloc_new (w.alloc (Obj.cells #[.int .u64 0, .int .u64 0, .int .u64 0, .int .u64 0] 73)) (Obj.cells #[.int .u64 0, .int .u64 0, .int .u64 0, .int .u64 0] 73); rw [World.size_alloc] at this; exact this)
  have K0 := hideD (show Kept (fun _ => False) w ((w.alloc Z).alloc Z) from (Kept.alloc _ _).trans (Kept.alloc _ _) (fun _ f => f.elim))
  obtain ⟨W, hW⟩ : ∃ W, W = (w.alloc Z).alloc Z := ⟨_, rfl⟩
  rw [← hW] at H0 H1 K0 ⊢
  clear hW hZ
  go_loopw [6] (fun i wr => ∃ (k : Nat) (b : Nat → Nat), k ≤ 4 ∧ i = .int .i64 k ∧ Hid (wr.heap[w.heap.size + 1]? = some (.cells (bw b) 73 (0, 0))) ∧ Hid (∀ j, j < k → b j = lw n j) ∧ Hid (wr.heap[w.heap.size]? = some (.cells (bw (fun _ => 0)) 73 (0, 0))) ∧ Hid (Kept (fun _ => False) w wr)) (fun i _ => 4 - (intOf i).toNat)
  case atStart => exact ⟨0, fun _ => 0, by omega, rfl, H1, hideD (fun j hj => by omega), H0, K0⟩
  case round =>
    obtain ⟨k, b, hk, rfl, HA, HB, HC, HD⟩ := hrel
    by_cases hlt : k < 4
    · obtain ⟨c1, c2, C3⟩ := bw_put HA.out k hlt
      have e := lw_val n k
      have CC := hideD C3
      clear C3
      go_wp2
      go_round
      case rel =>
        refine ⟨k + 1, upd b k (lw n k), by omega, by go_num, CC.out _, hideD fun j hj => ?_, ?_, ?_⟩
        · unfold upd
          split
          · rename_i h; rw [h]
          · exact HB.out j (by omega)
        · exact hideD ((Kept.setCell wr ⟨w.heap.size + 1, k, none⟩ _).heap HC.out (by simp))
        · exact hideD (HD.out.trans (Kept.setCell _ _ _) (fun i hi => .inr (by simp only at hi; omega)))
      case measure => simp [intOf]; omega
    · obtain rfl : k = 4 := by omega
      have eb : bw b = bw (lw n) := bw_congr fun j hj => HB.out j hj
      rw [eb] at HA
      obtain ⟨l0, l1, l2, l3⟩ := bw_cells _ HA.out
      obtain ⟨s0, f0, s1, f1, s2, f2, s3, f3, S4, SK⟩ := bw_store (lw n) HC.out
      have HS4 := hideD S4
      have HSK := hideD SK
      clear S4 SK eb hlt hk
      go_wp2
      refine bodyPost_ret (results_cell_row rfl _ _ w.heap.size _ _ _ _ rfl HS4.out Tryd.underlying73 rfl size_block) rfl ?_
      exact ⟨rfl, HD.out.trans HSK.out (fun i hi => .inr (Nat.le_of_eq (Eq.symm hi)))⟩
end Go.Proofs.YtcbhgpdookappaaDoor.Ds
