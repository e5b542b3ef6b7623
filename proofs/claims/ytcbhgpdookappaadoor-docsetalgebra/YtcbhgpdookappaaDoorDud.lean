import Derived.Test.YtcbhgpdookappaaDoorDuc
import Derived.Deep.MidRow
namespace Go.Proofs.YtcbhgpdookappaaDoor.Ds
open Go.ChangeShapes Go.WideShapes Go.ChangeAt Go.RowKit

/-- Block j of a set written anew. -/
def setB (vs : Nat → Nat) (j : Nat) (c : Nat → Nat) : Nat → Nat := fun i => if i / 4 = j then c (i % 4) else vs i
theorem RowAt.congr {W : World} {rb nb : Nat} {ws vs : Nat → Nat} (h : RowAt W rb nb ws) (e : ∀ i, i < 4 * nb → ws i = vs i) : RowAt W rb nb vs := by
  obtain ⟨C, h1, h2⟩ := h
  exact ⟨C, h1, fun k hk => by rw [← e k hk]; exact h2 k hk⟩
theorem RowAt.storeB {W : World} {rb nb : Nat} {vs : Nat → Nat} (h : RowAt W rb nb vs) {j : Nat} (hj : j < nb) (c : Nat → Nat) : RowAt (W.setCells rb (j * 4) (bw c).toList) rb nb (setB vs j c) := by
  have h0 := h.put (k := j * 4) (by omega) (c 0)
  have h1 := h0.put (k := j * 4 + 1) (by omega) (c 1)
  have h2 := h1.put (k := j * 4 + 1 + 1) (by omega) (c 2)
  have h3 := h2.put (k := j * 4 + 1 + 1 + 1) (by omega) (c 3)
  refine (show RowAt (W.setCells rb (j * 4) (bw c).toList) rb nb _ from h3).congr (fun i hi => ?_)
  unfold upd setB
  by_cases e : i / 4 = j
  · rw [if_pos e]
    have : i % 4 = 0 ∨ i % 4 = 1 ∨ i % 4 = 2 ∨ i % 4 = 3 := by omega
    rcases this with r | r | r | r
    · rw [if_neg (by omega), if_neg (by omega), if_neg (by omega), if_pos (by omega), r]
    · rw [if_neg (by omega), if_neg (by omega), if_pos (by omega), r]
    · rw [if_neg (by omega), if_pos (by omega), r]
    · rw [if_pos (by omega), r]
  · rw [if_neg e, if_neg (by omega), if_neg (by omega), if_neg (by omega), if_neg (by omega)]
theorem kept_storeB (W : World) (rb o : Nat) (c : Nat → Nat) : Kept (fun i => i = rb) W (W.setCells rb o (bw c).toList) := by
  have q : ∀ (A : World) (k : Nat) (v : Value), Kept (fun i => i = rb) A (A.setCell ⟨rb, k, none⟩ v) := fun A k v => (Kept.setCell A ⟨rb, k, none⟩ v).mono (fun i e => .inl e)
  exact (((q W _ _).trans (q _ _ _) (fun _ f => .inl f)).trans (q _ _ _) (fun _ f => .inl f)).trans (q _ _ _) (fun _ f => .inl f)
theorem RowAt.there {W : World} {rb nb : Nat} {vs : Nat → Nat} (h : RowAt W rb nb vs) {j : Nat} (hj : j < nb) : W.there rb (j * 4) 4 := fun i hi =>
  ⟨by rw [h.cell (k := j * 4 + i) (by omega)]; rfl, h.free _⟩
theorem load_bw {W : World} {g : Nat} {t : TypeId} {b : Nat → Nat} (h : W.heap[g]? = some (.cells (bw b) t (0, 0))) : (Instr.loadAt 73 (.pointer (some ⟨g, 0, none⟩))).run Tryd.prog W = .ok (.agg (bw b)) W := by
  obtain ⟨r0, r1, r2, r3⟩ := bw_cells b h
  refine run_loadAt_mid W g 0 73 [.int .u64 (b 0 : Nat), .int .u64 (b 1 : Nat), .int .u64 (b 2 : Nat), .int .u64 (b 3 : Nat)] _ (fun j v hv => ?_) Tryd.underlying73 rfl size_block
  rw [Nat.zero_add]
  match j, hv with
  | 0, hv => cases hv; exact r0
  | 1, hv => cases hv; exact r1
  | 2, hv => cases hv; exact r2
  | 3, hv => cases hv; exact r3
theorem bw_all (b : Nat → Nat) : (bw b).all (·.oneCell') = true := by simp [bw, Value.oneCell']
/-- The first k blocks of A, the others of B. -/
def mix (A B : Nat → Nat) (k : Nat) : Nat → Nat := fun i => if i < 4 * k then A i else B i
theorem mix_step (A B : Nat → Nat) (k : Nat) (c : Nat → Nat) (h : ∀ r, r < 4 → A (4 * k + r) = c r) (i : Nat) : setB (mix A B k) k c i = mix A B (k + 1) i := by
  unfold setB mix
  by_cases e : i / 4 = k
  · rw [if_pos e, if_pos (by omega), ← h (i % 4) (by omega)]
    congr 1; omega
  · rw [if_neg e]
    by_cases hl : i < 4 * k
    · rw [if_pos hl, if_pos (by omega)]
    · rw [if_neg hl, if_neg (by omega)]
theorem mix_blk (A B : Nat → Nat) (k : Nat) (r : Nat) (hr : r < 4) : blk (mix A B k) k r = blk B k r := by
  unfold blk mix
  rw [if_neg (by omega)]
theorem mix_zero (A B : Nat → Nat) : mix A B 0 = B := by funext i; simp [mix]
/-- The words of the places that are no members. -/
def notW (n : Nat) (ws : Nat → Nat) : Nat → Nat := fun i => minusB (lw (wdt n (i / 4))) (blk ws (i / 4)) (i % 4)
theorem notW_ok (n : Nat) (ws : Nat → Nat) : BOk (notW n ws) := fun _ => minusB_ok (lw_lt _) _
theorem mem_notW (n : Nat) (ws : Nat → Nat) (i : Nat) : mem (notW n ws) i = (decide (i < n) && !mem ws i) := by
  have e : mem (notW n ws) i = mem (minusB (lw (wdt n (i / 256))) (blk ws (i / 256))) (i % 256) := by
    unfold mem notW
    rw [show i / 64 / 4 = i / 256 by omega, show i / 64 % 4 = i % 256 / 64 by omega, show i % 256 % 64 = i % 64 by omega]
  rw [e, mem_minus, mem_lw, mem_blk, show 256 * (i / 256) + i % 256 = i by omega]
  congr 1
  rw [decide_eq_decide]
  unfold wdt
  omega
theorem notW_tight (n : Nat) (ws : Nat → Nat) : ∀ i, mem (notW n ws) i = true → i < n := by
  intro i h
  rw [mem_notW] at h
  simp only [Bool.and_eq_true, decide_eq_true_eq] at h
  exact h.1
/-- What a join of blocks makes of two sets. -/
def joinW (jw : (Nat → Nat) → (Nat → Nat) → Nat → Nat) (ws us : Nat → Nat) : Nat → Nat := fun i => jw (blk ws (i / 4)) (blk us (i / 4)) (i % 4)
theorem mem_joinW (jw : (Nat → Nat) → (Nat → Nat) → Nat → Nat) (ws us : Nat → Nat) (i : Nat) : mem (joinW jw ws us) i = mem (jw (blk ws (i / 256)) (blk us (i / 256))) (i % 256) := by
  unfold mem joinW
  rw [show i / 64 / 4 = i / 256 by omega, show i / 64 % 4 = i % 256 / 64 by omega, show i % 256 % 64 = i % 64 by omega]
theorem mem_joinA (ws us : Nat → Nat) (i : Nat) : mem (joinW andB ws us) i = (mem ws i && mem us i) := by
  rw [mem_joinW, mem_and, mem_blk, mem_blk, show 256 * (i / 256) + i % 256 = i by omega]
theorem mem_joinO (ws us : Nat → Nat) (i : Nat) : mem (joinW orB ws us) i = (mem ws i || mem us i) := by
  rw [mem_joinW, mem_or, mem_blk, mem_blk, show 256 * (i / 256) + i % 256 = i by omega]
theorem mem_joinM (ws us : Nat → Nat) (i : Nat) : mem (joinW minusB ws us) i = (mem ws i && !mem us i) := by
  rw [mem_joinW, mem_minus, mem_blk, mem_blk, show 256 * (i / 256) + i % 256 = i by omega]
/-- Sets of one size with the same members have the same words. -/
theorem eqW_mem {ws vs : Nat → Nat} (h1 : BOk ws) (h2 : BOk vs) (h : ∀ i, mem ws i = mem vs i) (n : Nat) : eqW ws vs n = true := by
  rw [eqW_iff]
  intro k _
  refine Nat.eq_of_testBit_eq fun j => ?_
  by_cases hj : j < 64
  · have := h (64 * k + j)
    unfold mem at this
    rw [show (64 * k + j) / 64 = k by omega, show (64 * k + j) % 64 = j by omega] at this
    exact this
  · rw [Nat.testBit_lt_two_pow (Nat.lt_of_lt_of_le (h1 k) (Nat.pow_le_pow_right (n := 2) (by decide) (show 64 ≤ j by omega))), Nat.testBit_lt_two_pow (Nat.lt_of_lt_of_le (h2 k) (Nat.pow_le_pow_right (n := 2) (by decide) (show 64 ≤ j by omega)))]
end Go.Proofs.YtcbhgpdookappaaDoor.Ds
