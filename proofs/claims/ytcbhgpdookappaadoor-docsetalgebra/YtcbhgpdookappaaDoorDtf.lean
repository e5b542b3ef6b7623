import Derived.Test.YtcbhgpdookappaaDoorDte
import Derived.BigRegion
namespace Go.Proofs.YtcbhgpdookappaaDoor.Ds
open Go.ChangeShapes Go.WideShapes Go.ChangeAt Go.RowKit

theorem shl_val (i : Nat) (hi : i < 64) : IntKind.u64.wrap (2 ^ i) = ((2 ^ i : Nat) : Int) := by
  have h1 := pow_le64 (show i + 1 ≤ 64 by omega)
  rw [Nat.pow_succ] at h1
  have h3 : (2 : Int) ^ i = ((2 ^ i : Nat) : Int) := by push_cast; rfl
  rw [h3, IntKind.wrap_u64]
  omega
theorem two_lt (i : Nat) (hi : i < 64) : 2 ^ i < 18446744073709551616 := by
  have h1 := pow_le64 (show i + 1 ≤ 64 by omega)
  rw [Nat.pow_succ] at h1
  omega
set_option maxRecDepth 20000 in
set_option maxHeartbeats 1000000 in
theorem badd_any (rb o i x : Nat) (hi : i < 256) (hx : x < 18446744073709551616) (w : World) (hc : w.cell? ⟨rb, o + i / 64, none⟩ = some (.int .u64 (x : Nat))) (hf : w.frozen? ⟨rb, o + i / 64, none⟩ = false) :
    Calls Tryd.prog 49 #[.pointer (some ⟨rb, o, none⟩), .int .i64 i] w fun e w' => (∃ v, e = .returned v) ∧ w' = (w.setCell ⟨rb, o + i / 64, none⟩ (.int .u64 ((x ||| 2 ^ (i % 64) : Nat) : Int))).drew := by
  have h1 : 0 ≤ (i : Int) / 64 ∧ (i : Int) / 64 < 4 := by omega
  have e1 := shl_val (i % 64) (by omega)
  have e2 := or_u64 x (2 ^ (i % 64)) hx (two_lt _ (by omega))
  obtain ⟨p, hp⟩ : ∃ p, p = 2 ^ (i % 64) := ⟨_, rfl⟩
  rw [← hp] at e1 e2 ⊢
  clear hp
  go_enter Tryd.func49, Tryd.ntmps49
  go_wp2
  go_region
  go_end0
  exact ⟨⟨_, rfl⟩, rfl⟩
set_option maxRecDepth 20000 in
set_option maxHeartbeats 1000000 in
theorem bremove_any (rb o i x : Nat) (hi : i < 256) (hx : x < 18446744073709551616) (w : World) (hc : w.cell? ⟨rb, o + i / 64, none⟩ = some (.int .u64 (x : Nat))) (hf : w.frozen? ⟨rb, o + i / 64, none⟩ = false) :
    Calls Tryd.prog 48 #[.pointer (some ⟨rb, o, none⟩), .int .i64 i] w fun e w' => (∃ v, e = .returned v) ∧ w' = (w.setCell ⟨rb, o + i / 64, none⟩ (.int .u64 ((x ^^^ (x &&& 2 ^ (i % 64)) : Nat) : Int))).drew := by
  have h1 : 0 ≤ (i : Int) / 64 ∧ (i : Int) / 64 < 4 := by omega
  have e1 := shl_val (i % 64) (by omega)
  have e2 := andnot_u64 x (2 ^ (i % 64)) hx (two_lt _ (by omega))
  obtain ⟨p, hp⟩ : ∃ p, p = 2 ^ (i % 64) := ⟨_, rfl⟩
  rw [← hp] at e1 e2 ⊢
  clear hp
  go_enter Tryd.func48, Tryd.ntmps48
  go_wp2
  go_region
  go_end0
  exact ⟨⟨_, rfl⟩, rfl⟩

/-- The members that words tell; how many blocks a set has. -/
def mem (ws : Nat → Nat) (i : Nat) : Bool := (ws (i / 64)).testBit (i % 64)
def nbOf (n : Nat) : Nat := (n + 255) / 256
def RowAt (W : World) (rb nb : Nat) (ws : Nat → Nat) : Prop := ∃ C, W.heap[rb]? = some (.cells C 73 (0, 0)) ∧ ∀ k, k < 4 * nb → C[k]? = some (.int .u64 (ws k : Nat))
theorem RowAt.kept {F : Nat → Prop} {W W' : World} {rb nb : Nat} {ws : Nat → Nat} (h : RowAt W rb nb ws) (k : Kept F W W') (hF : ¬ F rb) : RowAt W' rb nb ws := by
  obtain ⟨C, h1, h2⟩ := h
  exact ⟨C, k.heap h1 hF, h2⟩
theorem RowAt.lt {W : World} {rb nb : Nat} {ws : Nat → Nat} (h : RowAt W rb nb ws) : rb < W.heap.size := by
  obtain ⟨C, h1, h2⟩ := h
  exact lt_of_block h1
theorem RowAt.cell {W : World} {rb nb : Nat} {ws : Nat → Nat} (h : RowAt W rb nb ws) {k : Nat} (hk : k < 4 * nb) : W.cell? ⟨rb, k, none⟩ = some (.int .u64 (ws k : Nat)) := by
  obtain ⟨C, h1, h2⟩ := h
  exact (cell_of_row _ _ _ _ _ _ h1).trans (h2 k hk)
theorem RowAt.free {W : World} {rb nb : Nat} {ws : Nat → Nat} (h : RowAt W rb nb ws) (k : Nat) : W.frozen? ⟨rb, k, none⟩ = false := by
  obtain ⟨C, h1, h2⟩ := h
  simp [World.frozen?, h1]
theorem RowAt.put {W : World} {rb nb : Nat} {ws : Nat → Nat} (h : RowAt W rb nb ws) {k : Nat} (hk : k < 4 * nb) (x : Nat) : RowAt (W.setCell ⟨rb, k, none⟩ (.int .u64 (x : Nat))) rb nb (upd ws k x) := by
  obtain ⟨C, h1, h2⟩ := h
  refine ⟨_, set_blockD h1, fun j hj => ?_⟩
  rw [Array.getElem?_setIfInBounds]
  unfold upd
  by_cases e : j = k
  · subst e
    have := (Array.getElem?_eq_some_iff.1 (h2 j hj)).1
    simp [this]
  · rw [if_neg (fun x => e x.symm), if_neg e]
    exact h2 j hj
/-- A set at block p, its row at rb. -/
structure SetAt (W : World) (p rb n cap : Nat) (ws : Nat → Nat) : Prop where
  box : W.heap[p]? = some (.cells #[.int .i64 n, .slice (some ⟨rb, 0, none⟩) (nbOf n) cap] 71 (0, 0))
  row : RowAt W rb (nbOf n) ws
  ok : BOk ws
  small : n ≤ 1048576
  cap : nbOf n ≤ cap
  tight : ∀ i, mem ws i = true → i < n
theorem SetAt.kept {F : Nat → Prop} {W W' : World} {p rb n cap : Nat} {ws : Nat → Nat} (h : SetAt W p rb n cap ws) (k : Kept F W W') (h1 : ¬ F p) (h2 : ¬ F rb) : SetAt W' p rb n cap ws :=
  ⟨k.heap h.box h1, h.row.kept k h2, h.ok, h.small, h.cap, h.tight⟩
theorem SetAt.same {W W' : World} {p rb n cap : Nat} {ws : Nat → Nat} (h : SetAt W p rb n cap ws) (k : Kept (fun _ => False) W W') : SetAt W' p rb n cap ws := h.kept k (fun f => f) (fun f => f)
theorem SetAt.ne {W : World} {p rb n cap : Nat} {ws : Nat → Nat} (h : SetAt W p rb n cap ws) : p ≠ rb := by
  intro e
  obtain ⟨C, h1, _⟩ := h.row
  rw [← e, h.box] at h1
  simp at h1
theorem word_lt {n i : Nat} (h : i < n) : i / 64 < 4 * nbOf n := by unfold nbOf; omega
def putW (ws : Nat → Nat) (i : Nat) : Nat → Nat := upd ws (i / 64) (ws (i / 64) ||| 2 ^ (i % 64))
def offW (ws : Nat → Nat) (i : Nat) : Nat → Nat := upd ws (i / 64) (ws (i / 64) ^^^ (ws (i / 64) &&& 2 ^ (i % 64)))
theorem mem_putW (ws : Nat → Nat) (i j : Nat) : mem (putW ws i) j = (mem ws j || decide (j = i)) := by
  unfold mem putW upd
  by_cases h : j / 64 = i / 64
  · rw [if_pos h, Nat.testBit_or, h, Nat.testBit_two_pow]
    by_cases h2 : j = i
    · subst h2; simp
    · have : ¬ i % 64 = j % 64 := by omega
      simp [h2, this]
  · rw [if_neg h]
    have : ¬ j = i := by intro e; subst e; exact h rfl
    simp [this]
theorem mem_offW (ws : Nat → Nat) (i j : Nat) : mem (offW ws i) j = (mem ws j && !decide (j = i)) := by
  unfold mem offW upd
  by_cases h : j / 64 = i / 64
  · rw [if_pos h, Nat.testBit_xor, Nat.testBit_and, h, Nat.testBit_two_pow]
    by_cases h2 : j = i
    · subst h2; simp
    · have : ¬ i % 64 = j % 64 := by omega
      simp [h2, this]
  · rw [if_neg h]
    have : ¬ j = i := by intro e; subst e; exact h rfl
    simp [this]
theorem putW_ok {ws : Nat → Nat} (h : BOk ws) (i : Nat) : BOk (putW ws i) := fun k => by
  unfold putW upd
  split
  · exact Nat.or_lt_two_pow (n := 64) (h _) (two_lt _ (by omega))
  · exact h k
theorem offW_ok {ws : Nat → Nat} (h : BOk ws) (i : Nat) : BOk (offW ws i) := fun k => by
  unfold offW upd
  split
  · exact Nat.xor_lt_two_pow (n := 64) (h _) (Nat.lt_of_le_of_lt Nat.and_le_left (h _))
  · exact h k
/-- Block number j of words. -/
def blk (ws : Nat → Nat) (j : Nat) : Nat → Nat := fun i => ws (j * 4 + i)
theorem blk_ok {ws : Nat → Nat} (h : BOk ws) (j : Nat) : BOk (blk ws j) := fun _ => h _
theorem RowAt.blk {W : World} {rb nb : Nat} {ws : Nat → Nat} (h : RowAt W rb nb ws) {j : Nat} (hj : j < nb) :
    W.cell? ⟨rb, j * 4, none⟩ = some (.int .u64 (blk ws j 0 : Nat)) ∧ W.cell? ⟨rb, j * 4 + 1, none⟩ = some (.int .u64 (blk ws j 1 : Nat)) ∧ W.cell? ⟨rb, j * 4 + 2, none⟩ = some (.int .u64 (blk ws j 2 : Nat)) ∧ W.cell? ⟨rb, j * 4 + 3, none⟩ = some (.int .u64 (blk ws j 3 : Nat)) :=
  ⟨h.cell (k := j * 4) (by omega), h.cell (k := j * 4 + 1) (by omega), h.cell (k := j * 4 + 2) (by omega), h.cell (k := j * 4 + 3) (by omega)⟩
/-- Is i a member? -/
def inS (n : Nat) (ws : Nat → Nat) (i : Int) : Bool := decide (0 ≤ i ∧ i < n) && mem ws i.toNat
set_option maxRecDepth 20000 in
set_option maxHeartbeats 1000000 in
theorem inside_any (p rb n cap : Nat) (ws : Nat → Nat) (i : Int) (w : World) (h : SetAt w p rb n cap ws) :
    Calls Tryd.prog 46 #[.pointer (some ⟨p, 0, none⟩), .int .i64 i] w fun e w' => e = .returned (.bool (decide (0 ≤ i ∧ i < n))) ∧ w' = w := by
  have c0 : w.cell? ⟨p, 0, none⟩ = some (.int .i64 n) := (cell_of_row _ _ _ _ _ _ h.box).trans rfl
  clear h
  by_cases h1 : 0 ≤ i
  · go_enter Tryd.func46, Tryd.ntmps46
    go_wp2
    go_ret
    refine ⟨?_, rfl⟩
    simp [h1]
  · have hd : decide (0 ≤ i ∧ i < n) = false := by simp; omega
    rw [hd]
    clear hd
    go_enter Tryd.func46, Tryd.ntmps46
    go_wp2
    go_ret
    exact ⟨rfl, rfl⟩
set_option maxRecDepth 20000 in
set_option maxHeartbeats 1000000 in
theorem has_any (p rb n cap : Nat) (ws : Nat → Nat) (i : Int) (w : World) (h : SetAt w p rb n cap ws) :
    Calls Tryd.prog 14 #[.pointer (some ⟨p, 0, none⟩), .int .i64 i] w fun e w' => e = .returned (.bool (inS n ws i)) ∧ Kept (fun _ => False) w w' := by
  have IN := hideD (inside_any p rb n cap ws i w h)
  by_cases hi : 0 ≤ i ∧ i < n
  · obtain ⟨k, rfl⟩ : ∃ k : Nat, i = k := ⟨i.toNat, by omega⟩
    have hk : k < n := by omega
    have c1 : w.cell? ⟨p, 1, none⟩ = some (.slice (some ⟨rb, 0, none⟩) (nbOf n) cap) := (cell_of_row _ _ _ _ _ _ h.box).trans rfl
    have hn := h.small
    have hj : k / 256 < nbOf n := by unfold nbOf; omega
    obtain ⟨d0, d1, d2, d3⟩ := h.row.blk hj
    have hj2 : 0 ≤ (k : Int) / 256 ∧ (k : Int) / 256 < (nbOf n : Nat) := by omega
    have BH := hideD (bhas_any (blk ws (k / 256)) (k % 256) (by omega) (blk_ok h.ok _) w)
    have hv : (blk ws (k / 256) (k % 256 / 64)).testBit (k % 64) = inS n ws (k : Int) := by
      unfold inS mem blk
      rw [show k / 256 * 4 + k % 256 / 64 = k / 64 by omega]
      simp [hk]
    have HV := hideD hv
    obtain ⟨N, hN⟩ : ∃ N, N = nbOf n := ⟨_, rfl⟩
    rw [← hN] at c1 hj2 hj
    have hdec : decide (0 ≤ (k : Int) ∧ (k : Int) < n) = true := by simp [hk]
    rw [hdec] at IN
    clear hN h hv hdec hi
    go_enter Tryd.func14, Tryd.ntmps14
    go_wp2_with (first | (go_at_call 46; refine IN.out.mono ?_; rintro e W' ⟨rfl, rfl⟩) | (go_at_call 47; refine BH.out.mono ?_; rintro e W2 ⟨rfl, K2⟩))
    go_ret
    exact ⟨by rw [← HV.out]; rfl, K2⟩
  · have hdec : decide (0 ≤ i ∧ i < n) = false := by simp; omega
    have hv : inS n ws i = false := by unfold inS; rw [hdec]; rfl
    rw [hdec] at IN
    rw [hv]
    clear hv hdec hi h
    go_enter Tryd.func14, Tryd.ntmps14
    go_wp2_with (first | (go_at_call 46; refine IN.out.mono ?_; rintro e W' ⟨rfl, rfl⟩))
    go_ret
    exact ⟨rfl, Kept.refl _ _⟩
end Go.Proofs.YtcbhgpdookappaaDoor.Ds
