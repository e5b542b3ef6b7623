import Derived.Test.YtakjaablankipaaDoorLyj
import Derived.LaidEql
namespace Go.Proofs.YtakjaablankipaaDoor
open Go.ChangeShapes Go.WideShapes Go.ChangeAt Go.RowKit

theorem errEqL (W : World) (a : Addr) : (binOp .eql 25 (.iface 67 (.pointer (some a))) (.iface 67 (.pointer (some a)))).run Tryd.prog W = .ok (.bool true) W := by
  obtain ⟨i, hi, hci⟩ := Option.map_eq_some_iff.1 (show (Tryd.prog.info? 67).map (·.comparable) = some true by kernel_rfl)
  obtain ⟨j, hj, _⟩ := Option.map_eq_some_iff.1 (show (Tryd.prog.info? 84).map (·.comparable) = some true by kernel_rfl)
  exact run_eql_iface_ptr_same W a Tryd.underlying25 Tryd.underlying67 hi hci hj
theorem errNeL (W : World) (a : Addr) : (binOp .neq 25 (.iface 67 (.pointer (some a))) (.iface 67 (.pointer (some a)))).run Tryd.prog W = .ok (.bool false) W := by
  obtain ⟨i, hi, hci⟩ := Option.map_eq_some_iff.1 (show (Tryd.prog.info? 67).map (·.comparable) = some true by kernel_rfl)
  obtain ⟨j, hj, _⟩ := Option.map_eq_some_iff.1 (show (Tryd.prog.info? 84).map (·.comparable) = some true by kernel_rfl)
  simp only [binOp]
  simp [Op.equal, Op.maxDepth, run_equalIn_iface_ptr_same W 9998 a Tryd.underlying25 Tryd.underlying67 hi hci hj]
theorem u8_neL (c d : UInt8) : ((c.toNat : Int) != (d.toNat : Int)) = !(c == d) := by
  show (!((c.toNat : Int) == (d.toNat : Int))) = !(c == d)
  by_cases h : c = d
  · subst h; simp
  · rw [u8_intL c d h, beq_eq_false_iff_ne.2 h]
/-- Scan of the two texts that every law asks. -/
theorem scan_live (w : World) (ad : Addr) (hC : ClsAt w) (hS : SynAt w ad) : Calls Tryd.prog 6 #[.string ⟨#[97, 32, 45, 98]⟩] w fun x w' => (∃ g c, x = .returned (.tuple #[.slice (some ⟨g, 0, none⟩) 4 c, .int .i64 0, .nilIface]) ∧ w'.cell? ⟨g, 0, none⟩ = some (.int .i64 1) ∧ w'.cell? ⟨g, 5, none⟩ = some (.int .i64 16) ∧ w'.cell? ⟨g, 11, none⟩ = some (.string ⟨#[98]⟩) ∧ w'.cell? ⟨g, 15, none⟩ = some (.int .i64 0)) ∧ Kept (fun _ => False) w w' := by
  refine (lscan_any [97, 32, 45, 98] w ad hC hS (by decide)).mono ?_
  intro x w' h
  unfold lxPost at h
  rw [ex_live] at h
  rcases h with ⟨_, a, c, m, rfl, hT⟩ | ⟨f, hf, _⟩
  · have hm : m = 4 := hT.len
    subst hm
    obtain ⟨g, rfl, _, hc⟩ := hT.cell (by decide)
    exact ⟨⟨g, c, rfl, (hc 0 (by decide)).1, (hc 1 (by decide)).1, (hc 2 (by decide)).2.1, (hc 3 (by decide)).1⟩, hT.gro.kept⟩
  · cases hf
theorem scan_dead (w : World) (ad : Addr) (hC : ClsAt w) (hS : SynAt w ad) : Calls Tryd.prog 6 #[.string ⟨#[97, 32, 94]⟩] w fun x w' => x = .returned (.tuple #[.slice none 0 0, .int .i64 2, .iface 67 (.pointer (some ad))]) ∧ Kept (fun _ => False) w w' := by
  refine (lscan_any [97, 32, 94] w ad hC hS (by decide)).mono ?_
  intro x w' h
  unfold lxPost at h
  rw [ex_dead] at h
  rcases h with ⟨hf, _⟩ | ⟨f, hf, rfl, hk⟩
  · cases hf
  · cases hf
    exact ⟨rfl, hk⟩
set_option maxRecDepth 20000 in
set_option maxHeartbeats 4000000 in
theorem lives13_any (w : World) (ad : Addr) (hC : ClsAt w) (hS : SynAt w ad) :
    Calls Tryd.prog 5 #[] w fun e w' => e = .returned (.bool true) ∧ Kept (fun _ => False) w w' := by
  have C1 := hideL (scan_live w ad hC hS)
  have C2 := hideL (fun W (k : Kept (fun _ => False) w W) => scan_dead W ad (hC.later k) (hS.later k))
  have HS := hideL hS
  clear hC hS
  go_enter Tryd.func5, Tryd.ntmps5
  go_wp2_with (first
    | (go_at_call 6; refine C1.out.mono ?_; clear C1; rintro x W1 ⟨⟨g, c, rfl, a0, a1, a2, a3⟩, k1⟩; have A0 := hideL a0; have A1 := hideL a1; have A2 := hideL a2; have A3 := hideL a3; have K1 := hideL k1; clear a0 a1 a2 a3 k1)
    | (go_at_call 6; refine (C2.out _ K1.out).mono ?_; clear C2; rintro x W2 ⟨rfl, k2⟩; have b0 := k2.cell A0.out (fun f => f); have b1 := k2.cell A1.out (fun f => f); have b2 := k2.cell A2.out (fun f => f); have b3 := k2.cell A3.out (fun f => f); have K2 := hideL (K1.out.trans k2 (fun _ f => f.elim)); have b4 := (HS.out.later K2.out).var; unfold synV at b4; have eq4 := errEqL W2 ad; clear A0 A1 A2 A3 K1 k2))
  go_ret
  exact ⟨rfl, K2.out⟩
end Go.Proofs.YtakjaablankipaaDoor
