import Derived.Test.YtikdokfkfioeeabDoorNamesA
import Derived.Deep.QuietTactic
import Derived.BigQuiet
namespace Go.Proofs.YtikdokfkfioeeabDoor
open Go.ChangeShapes Go.WideShapes Go.ChangeAt Go.RowKit
set_option maxRecDepth 20000 in
set_option maxHeartbeats 1000000 in
theorem names_walk (A : Nat → Addr) (w : World) (hS : ∀ k, k < 24 → Sent w 111 k (errText k) (A k)) :
    Calls Tryd.prog 6 #[] w fun e w' => e = .returned (.bool true) ∧ Below w.heap.size w w' := by
  have c0 := (hS 0 (by omega)).var
  have c1 := (hS 1 (by omega)).var
  have c2 := (hS 2 (by omega)).var
  have c3 := (hS 3 (by omega)).var
  have c4 := (hS 4 (by omega)).var
  have c5 := (hS 5 (by omega)).var
  have c6 := (hS 6 (by omega)).var
  have c7 := (hS 7 (by omega)).var
  have c8 := (hS 8 (by omega)).var
  have c9 := (hS 9 (by omega)).var
  have c10 := (hS 10 (by omega)).var
  have c11 := (hS 11 (by omega)).var
  have c12 := (hS 12 (by omega)).var
  have c13 := (hS 13 (by omega)).var
  have c14 := (hS 14 (by omega)).var
  have c15 := (hS 15 (by omega)).var
  have c16 := (hS 16 (by omega)).var
  have c17 := (hS 17 (by omega)).var
  have c18 := (hS 18 (by omega)).var
  have c19 := (hS 19 (by omega)).var
  have c20 := (hS 20 (by omega)).var
  have c21 := (hS 21 (by omega)).var
  have c22 := (hS 22 (by omega)).var
  have c23 := (hS 23 (by omega)).var
  have HS : Hid (∀ k, k < 24 → Sent w 111 k (errText k) (A k)) := hS
  clear hS
  go_enter Tryd.func6, Tryd.ntmps6
  go_wp2
  generalize hW1 : (w.alloc _).alloc _ = W1
  have hbel : Below w.heap.size w W1 := by rw [← hW1]; exact ((Below.refl _ _).alloc (Nat.le_refl _) _).alloc (by simp) _
  have hR : NRel A w W1 := by
    refine ⟨?_, ?_, fun k hk => ?_, fun k hk => ?_, ?_, hbel, by rw [← hW1]; simp⟩
    · rw [← hW1]; exact cells_list A w _
    · rw [← hW1]; exact cells_text w _
    · exact (hbel.cell (World.block_lt_of_cell? w _ (HS.out k hk).cell)).trans (HS.out k hk).cell
    · obtain ⟨c, t, h⟩ := (HS.out k hk).blk
      exact ⟨c, t, (hbel.block _ (World.block_lt_of_cell? w _ (HS.out k hk).cell)).trans h⟩
    · exact (hbel.cell (World.block_lt_of_cell? w _ c3)).trans c3
  clear hW1 c0 c1 c2 c3 c4 c5 c6 c7 c8 c9 c10 c11 c12 c13 c14 c15 c16 c17 c18 c19 c20 c21 c22 c23 hbel HS
  go_loopw [35] (fun i wr => ∃ k : Nat, k ≤ 24 ∧ i = .int .i64 k ∧ NRel A w wr) (fun i _ => 24 - (intOf i).toNat)
  case atStart => exact ⟨0, by omega, rfl, hR⟩
  case round =>
    obtain ⟨k, hk, rfl, hr⟩ := hrel
    clear hR
    by_cases hlt : k < 24
    · have l1 := hr.hL k hlt
      have l2 := hr.hT k hlt
      have l3 := hr.hE k hlt
      obtain ⟨tl, tx, e1, e2, htl, hcat⟩ := text_parts k hlt
      rw [← e1] at l2
      rw [← e2] at l3
      clear e1 e2
      have HR : Hid (NRel A w wr) := hr
      have hme := method_err
      clear hr
      go_wp2_with fail
      go_quiet ((exact Calls.quiet_of_same (err_any _ _ _ l3)))
      clear l1 l2 l3 htl hcat hme
      have hr2 := HR.out.drewN nq
      clear HR
      generalize wr.drewN nq = W2 at hr2 ⊢
      go_wp2
      go_loop [5] (fun j => ∃ m : Nat, m ≤ k ∧ j = .int .i64 m) (fun j => k - (intOf j).toNat)
      case atStart => exact ⟨0, by omega, rfl⟩
      case round =>
        obtain ⟨m, hm, rfl⟩ := hrel
        by_cases hmk : m < k
        · have l1 := hr2.hL m (by omega)
          have hne := err_neq W2 (hr2.ne hmk hlt) (hr2.hB m (by omega)) (hr2.hB k hlt)
          have H2 : Hid (NRel A w W2) := hr2
          clear hr2
          go_wp2
          go_round
          case rel => exact ⟨m + 1, by omega, by go_num⟩
          case measure => simp [intOf]; omega
        · have H2 : Hid (NRel A w W2) := hr2
          clear hr2
          go_wp2
          go_roundw
          case rel => exact ⟨k + 1, by omega, by go_num, H2.out⟩
          case measure => simp [intOf]; omega
    · have hG := hr.hG
      have hE3 := hr.hE 3 (by omega)
      have hsz := hr.sz
      have HR : Hid (NRel A w wr) := hr
      obtain rfl : k = 24 := by omega
      clear hr hlt
      have hme := method_err
      go_wp2_with (fail)
      have b3 : w.heap.size ≤ wr.heap.size := by omega
      generalize hW3 : wr.alloc _ = W3
      have f1 : W3.cell? ⟨w.heap.size + 2, 1, none⟩ = some (.iface 111 (.pointer (some (A 3)))) := by
        rw [← hW3, World.cell?_alloc_at (hn := by omega)]; rfl
      have f2 : W3.cell? (A 3) = some (.string { data := #[99, 111, 110, 99, 111, 114, 100, 58, 32, 111, 114, 100, 101, 114] }) := by
        rw [← hW3]; exact cell?_alloc_old _ hE3
      have f3 : W3.cell? ⟨3, 0, none⟩ = some (.iface 111 (.pointer (some (A 3)))) := by
        rw [← hW3]; exact cell?_alloc_old _ hG
      have f4 : Hid (Below w.heap.size w W3) := by rw [← hW3]; exact HR.out.bel.alloc b3 _
      have f5 := err_eq (A 3)
      clear hW3 hG hE3 hsz HR hme b3
      go_quiet ((first | exact Calls.quiet_of_same (perr_any _ _ _ _ f1 f2) | exact Calls.quiet_of_same (punw_any _ _ _ f1)))
      go_wp2
      go_ret
      exact ⟨rfl, below_drewN f4.out _⟩
end Go.Proofs.YtikdokfkfioeeabDoor
