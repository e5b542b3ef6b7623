import Derived.Test.YtcbhgpdookappaaDoorDtw
import Derived.Test.YtcbhgpdookappaaDoorDtt
import Derived.Test.YtcbhgpdookappaaDoorEqs
import Derived.DeepKeys
import Derived.BigQuiet
import Derived.ChangeKeysEq
namespace Go.Proofs.YtcbhgpdookappaaDoor.Ds
open Go.ChangeShapes Go.WideShapes Go.ChangeAt Go.RowKit

set_option maxRecDepth 20000 in
set_option maxHeartbeats 2000000 in
/-- Clone: a set of its own. -/
theorem cloneS_any (p rb n cap : Nat) (ws : Nat → Nat) (w : World) (h : SetAt w p rb n cap ws) :
    Calls Tryd.prog 12 #[.pointer (some ⟨p, 0, none⟩)] w fun e w' => ∃ q cb c, e = .returned (.pointer (some ⟨q, 0, none⟩)) ∧ w.heap.size ≤ q ∧ w.heap.size ≤ cb ∧ cb < q ∧ SetAt w' q cb n c ws ∧ Kept (fun _ => False) w w' := by
  have c0 : w.cell? ⟨p, 0, none⟩ = some (.int .i64 n) := (cell_of_row _ _ _ _ _ _ h.box).trans rfl
  have c1 : w.cell? ⟨p, 1, none⟩ = some (.slice (some ⟨rb, 0, none⟩) (nbOf n) cap) := (cell_of_row _ _ _ _ _ _ h.box).trans rfl
  have hnb : nbOf n ≤ 4096 := by have := h.small; unfold nbOf; omega
  have CB := hideD (fun W (k : Kept (fun _ => False) w W) => cloneB_any rb (nbOf n) cap ws hnb W (h.row.kept k (fun f => f)))
  have HS := hideD h
  have d0 := (Kept.drew w).cell c0 (fun f => f)
  have d1 := (Kept.drew w).cell c1 (fun f => f)
  clear h hnb
  obtain ⟨nb, hn⟩ : ∃ nb, nb = nbOf n := ⟨_, rfl⟩
  rw [← hn] at c1 d1 CB
  have HN := hideD hn
  clear hn
  have NX := hideD (fun (W1 : World) (k : Kept (fun _ => False) w.drew W1) => And.intro (k.cell d0 (fun f => f)) (k.cell d1 (fun f => f)))
  go_enter Tryd.func12, Tryd.ntmps12
  go_wp2
  go_region_with (go_at_call 45; refine (CB.out w.drew (Kept.drew w)).mono ?_; rintro e W1 ⟨g, c, rfl, hg, hc, R1, K1⟩; obtain ⟨x0, x1⟩ := NX.out W1 K1; have HR := hideD R1; have HK := hideD ((Kept.drew w).trans K1 (fun _ f => f.elim)); clear R1 K1)
  all_goals
    go_wp2
    go_ret
    have kA := Kept.alloc W1 (.cells #[.int .i64 n, .slice (some ⟨g, 0, none⟩) nb c] 71)
    rw [HN.out] at HR hc kA ⊢
    exact ⟨W1.heap.size, g, c, rfl, HK.out.size, hg, HR.out.lt, ⟨heap_alloc_new W1 _, HR.out.kept kA (fun f => f), HS.out.ok, HS.out.small, hc, HS.out.tight⟩, HK.out.trans kA (fun _ f => f.elim)⟩
def eqW (ws vs : Nat → Nat) (n : Nat) : Bool := (List.range n).all (fun k => ws k == vs k)
theorem eqW_iff {ws vs : Nat → Nat} {n : Nat} : eqW ws vs n = true ↔ ∀ k, k < n → ws k = vs k := by simp [eqW]
theorem eqW_zero (ws vs : Nat → Nat) : eqW ws vs 0 = true := by simp [eqW]
def eq4 (b c : Nat → Nat) : Bool := b 0 == c 0 && (b 1 == c 1 && (b 2 == c 2 && b 3 == c 3))
theorem eqW_four (ws vs : Nat → Nat) (k : Nat) (h : eqW ws vs (4 * k) = true) : eqW ws vs (4 * (k + 1)) = eq4 (blk ws k) (blk vs k) := by
  rw [Bool.eq_iff_iff, eqW_iff]
  rw [eqW_iff] at h
  have e4 : k * 4 = 4 * k := Nat.mul_comm _ _
  simp only [eq4, blk, Bool.and_eq_true, beq_iff_eq, e4]
  constructor
  · intro H
    exact ⟨H _ (by omega), H _ (by omega), H _ (by omega), H _ (by omega)⟩
  · rintro ⟨h0, h1, h2, h3⟩ i hi
    by_cases hl : i < 4 * k
    · exact h i hl
    · have : i = 4 * k + 0 ∨ i = 4 * k + 1 ∨ i = 4 * k + 2 ∨ i = 4 * k + 3 := by omega
      rcases this with rfl | rfl | rfl | rfl
      · exact h0
      · exact h1
      · exact h2
      · exact h3
theorem eqW_mono {ws vs : Nat → Nat} {a b : Nat} (hab : a ≤ b) (h : eqW ws vs a = false) : eqW ws vs b = false := by
  cases hb : eqW ws vs b with
  | false => rfl
  | true =>
    rw [eqW_iff] at hb
    rw [eqW_iff.2 (fun k hk => hb k (by omega))] at h
    cases h
theorem cells_u64 : Tryd.prog.cellsOf 61 = 1 := by kernel_rfl
theorem plain_u64 : Tryd.prog.plainKey 61 = true := by kernel_rfl
theorem eqI_step (W : World) (b c : Nat → Nat) (k : Nat) (hk : k < 4) (d : Nat) (is : List Nat) : (Op.eqItems (d + 1) 61 1 (bw b) (bw c) (k :: is)).run Tryd.prog W = if b k = c k then (Op.eqItems (d + 1) 61 1 (bw b) (bw c) is).run Tryd.prog W else .ok false W := by
  have p1 : (part 61 (bw b) k).run Tryd.prog W = .ok (.int .u64 (b k : Nat)) W := run_part_plain W plain_u64 (bw_at b k hk)
  have p2 : (part 61 (bw c) k).run Tryd.prog W = .ok (.int .u64 (c k : Nat)) W := run_part_plain W plain_u64 (bw_at c k hk)
  have q : (Op.equalIn (d + 1) 61 (.int .u64 (b k : Nat)) (.int .u64 (c k : Nat))).run Tryd.prog W = .ok (((b k : Nat) : Int) == ((c k : Nat) : Int)) W := run_equalIn_int W d 61 .u64 .u64 _ _ Tryd.underlying61
  simp only [Op.eqItems, Sem.run_bind, Nat.mul_one, p1, p2, Result.andThen_ok, q]
  by_cases h : b k = c k
  · simp [h]
  · have h2 : (((b k : Nat) : Int) == ((c k : Nat) : Int)) = false := by rw [beq_eq_false_iff_ne]; omega
    simp [h, h2]
theorem neq_block (W : World) (b c : Nat → Nat) : (binOp .neq 73 (.agg (bw b)) (.agg (bw c))).run Tryd.prog W = .ok (.bool (!(eq4 b c))) W := by
  have hi : ∃ i, Tryd.prog.info? 61 = some i := Option.isSome_iff_exists.1 (by kernel_rfl)
  obtain ⟨i, hi⟩ := hi
  have e : (Op.equalIn (9998 + 1 + 1) 73 (.agg (bw b)) (.agg (bw c))).run Tryd.prog W = .ok (eq4 b c) W := by
    rw [run_equalIn_array W (9998 + 1) (bw b) (bw c) Tryd.underlying73 hi, cells_u64, show List.range 4 = [0, 1, 2, 3] from rfl, eqI_step W b c 0 (by decide), eqI_step W b c 1 (by decide), eqI_step W b c 2 (by decide), eqI_step W b c 3 (by decide)]
    unfold eq4
    by_cases h0 : b 0 = c 0
    · by_cases h1 : b 1 = c 1
      · by_cases h2 : b 2 = c 2
        · by_cases h3 : b 3 = c 3
          · simp [h0, h1, h2, h3, Op.eqItems]
          · simp [h0, h1, h2, h3]
        · simp [h0, h1, h2]
      · simp [h0, h1]
    · simp [h0]
  rw [run_neq_struct, show (10000 : Nat) = 9998 + 1 + 1 from rfl, e]
  rfl
set_option maxRecDepth 20000 in
set_option maxHeartbeats 2000000 in
theorem eqBlocks_any (r1 r2 nb c d : Nat) (ws vs : Nat → Nat) (hnb : nb ≤ 4096) (w : World) (h1 : RowAt w r1 nb ws) (h2 : RowAt w r2 nb vs) :
    Calls Tryd.prog 50 #[.slice (some ⟨r1, 0, none⟩) nb c, .slice (some ⟨r2, 0, none⟩) nb d] w fun e w' => e = .returned (.bool (eqW ws vs (4 * nb))) ∧ ∃ m, w' = w.drewN m := by
  obtain ⟨R, hR⟩ : ∃ R, R = eqW ws vs (4 * nb) := ⟨_, rfl⟩
  rw [← hR]
  have HR := hideD hR
  have H1 := hideD h1
  have H2 := hideD h2
  clear hR h1 h2
  go_enter Tryd.func50, Tryd.ntmps50
  go_wp2
  go_loopw [13] (fun i wr => ∃ k m : Nat, k ≤ nb ∧ i = .int .i64 k ∧ Hid (eqW ws vs (4 * k) = true) ∧ wr = w.drewN m) (fun i _ => nb - (intOf i).toNat)
  case atStart => exact ⟨0, 0, by omega, rfl, hideD (eqW_zero _ _), rfl⟩
  case round =>
    obtain ⟨k, m, hk, rfl, HE, rfl⟩ := hrel
    by_cases hlt : k < nb
    · obtain ⟨a0, a1, a2, a3⟩ := H1.out.blk hlt
      obtain ⟨b0, b1, b2, b3⟩ := H2.out.blk hlt
      have HF := hideD (eqW_four ws vs k HE.out)
      have EN := hideD (fun W => neq_block W (blk ws k) (blk vs k))
      simp only [bw] at EN
      have EN2 := EN.out
      obtain ⟨T, hT⟩ : ∃ T, T = eq4 (blk ws k) (blk vs k) := ⟨_, rfl⟩
      rw [← hT] at HF EN2
      have HT := hideD hT
      clear hT EN
      go_upto_region 6 with fail
      go_region
      all_goals
        cases T with
        | true =>
          go_wp2
          go_round
          case rel => exact ⟨k + 1, m + 1, by omega, by go_num, HF, rfl⟩
          case measure => simp [intOf]; omega
        | false =>
          have hf := eqW_mono (show 4 * (k + 1) ≤ 4 * nb by omega) HF.out
          rw [← HR.out] at hf
          have HFF := hideD hf
          clear hf
          go_wp2
          go_ret
          exact ⟨by rw [HFF.out]; rfl, m + 1, rfl⟩
    · obtain rfl : k = nb := by omega
      have hf := HE.out
      rw [← HR.out] at hf
      have HFF := hideD hf
      clear hf
      go_wp2
      go_ret
      exact ⟨by rw [HFF.out]; rfl, m, rfl⟩
set_option maxRecDepth 20000 in
set_option maxHeartbeats 2000000 in
theorem equalSet_any (p rb q vb n c d : Nat) (ws vs : Nat → Nat) (w : World) (h1 : SetAt w p rb n c ws) (h2 : SetAt w q vb n d vs) :
    Calls Tryd.prog 17 #[.pointer (some ⟨p, 0, none⟩), .pointer (some ⟨q, 0, none⟩)] w fun e w' => e = .returned (.bool (eqW ws vs (4 * nbOf n))) ∧ ∃ m, w' = w.drewN m := by
  have a0 : w.cell? ⟨p, 0, none⟩ = some (.int .i64 n) := (cell_of_row _ _ _ _ _ _ h1.box).trans rfl
  have a1 : w.cell? ⟨p, 1, none⟩ = some (.slice (some ⟨rb, 0, none⟩) (nbOf n) c) := (cell_of_row _ _ _ _ _ _ h1.box).trans rfl
  have b0 : w.cell? ⟨q, 0, none⟩ = some (.int .i64 n) := (cell_of_row _ _ _ _ _ _ h2.box).trans rfl
  have b1 : w.cell? ⟨q, 1, none⟩ = some (.slice (some ⟨vb, 0, none⟩) (nbOf n) d) := (cell_of_row _ _ _ _ _ _ h2.box).trans rfl
  have hnb : nbOf n ≤ 4096 := by have := h1.small; unfold nbOf; omega
  have EB := hideD (fun m => eqBlocks_any rb vb (nbOf n) c d ws vs hnb (w.drewN m) h1.row h2.row)
  clear h1 h2 hnb
  obtain ⟨nb, hn⟩ : ∃ nb, nb = nbOf n := ⟨_, rfl⟩
  obtain ⟨R, hR⟩ : ∃ R, R = eqW ws vs (4 * nbOf n) := ⟨_, rfl⟩
  rw [← hR] at EB ⊢
  rw [← hn] at a1 b1 EB
  clear hn hR
  go_enter Tryd.func17, Tryd.ntmps17
  go_wp2
  go_quiet ((go_at_call 50; refine (EB.out _).mono ?_; rintro e w' ⟨rfl, m, rfl⟩; exact ⟨rfl, _, World.drewN_drewN _ _ _⟩))
  go_wp2
  go_ret
  exact ⟨rfl, _, rfl⟩
end Go.Proofs.YtcbhgpdookappaaDoor.Ds
