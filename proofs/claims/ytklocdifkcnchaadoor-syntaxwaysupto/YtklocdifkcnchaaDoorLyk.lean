import Derived.Test.YtklocdifkcnchaaDoorLyj
import Derived.LaidEql
namespace Go.Proofs.YtklocdifkcnchaaDoor
open Go.ChangeShapes Go.WideShapes Go.ChangeAt Go.RowKit

theorem errEqL (W : World) (a : Addr) : (binOp .eql 25 (.iface 89 (.pointer (some a))) (.iface 89 (.pointer (some a)))).run Tryd.prog W = .ok (.bool true) W := by
  obtain ⟨i, hi, hci⟩ := Option.map_eq_some_iff.1 (show (Tryd.prog.info? 89).map (·.comparable) = some true by kernel_rfl)
  obtain ⟨j, hj, _⟩ := Option.map_eq_some_iff.1 (show (Tryd.prog.info? 104).map (·.comparable) = some true by kernel_rfl)
  exact run_eql_iface_ptr_same W a Tryd.underlying25 Tryd.underlying89 hi hci hj
theorem errNeL (W : World) (a : Addr) : (binOp .neq 25 (.iface 89 (.pointer (some a))) (.iface 89 (.pointer (some a)))).run Tryd.prog W = .ok (.bool false) W := by
  obtain ⟨i, hi, hci⟩ := Option.map_eq_some_iff.1 (show (Tryd.prog.info? 89).map (·.comparable) = some true by kernel_rfl)
  obtain ⟨j, hj, _⟩ := Option.map_eq_some_iff.1 (show (Tryd.prog.info? 104).map (·.comparable) = some true by kernel_rfl)
  simp only [binOp]
  simp [Op.equal, Op.maxDepth, run_equalIn_iface_ptr_same W 9998 a Tryd.underlying25 Tryd.underlying89 hi hci hj]
theorem u8_neL (c d : UInt8) : ((c.toNat : Int) != (d.toNat : Int)) = !(c == d) := by
  show (!((c.toNat : Int) == (d.toNat : Int))) = !(c == d)
  by_cases h : c = d
  · subst h; simp
  · rw [u8_intL c d h, beq_eq_false_iff_ne.2 h]
/-- Scan of the two texts that every law asks. -/
theorem scan_live (w : World) (ad : Addr) (hC : ClsAt w) (hS : SynAt w ad) : Calls Tryd.prog 5 #[.string ⟨#[97, 32, 45, 98]⟩] w fun x w' => (∃ g c, x = .returned (.tuple #[.slice (some ⟨g, 0, none⟩) 4 c, .int .i64 0, .nilIface]) ∧ w'.cell? ⟨g, 0, none⟩ = some (.int .i64 1) ∧ w'.cell? ⟨g, 5, none⟩ = some (.int .i64 16) ∧ w'.cell? ⟨g, 11, none⟩ = some (.string ⟨#[98]⟩) ∧ w'.cell? ⟨g, 15, none⟩ = some (.int .i64 0)) ∧ Kept (fun _ => False) w w' := by
  refine (lscan_any [97, 32, 45, 98] w ad hC hS (by decide)).mono ?_
  intro x w' h
  unfold lxPost at h
  rw [ex_live] at h
  rcases h with ⟨_, a, c, m, rfl, hT⟩ | ⟨f, hf, _⟩
  · have hm : m = 4 := hT.len
    subst hm
    obtain ⟨g, rfl, _, hc⟩ := hT.cell (by decide)
    exact ⟨⟨g, c, rfl, (hc 0 (by decide)).1, (hc 1 (by decide)).1, (hc 2 (by decide)).2.1, (hc 3 (by decide)).1⟩, hT.gro.kept⟩
  · cases hf
theorem scan_dead (w : World) (ad : Addr) (hC : ClsAt w) (hS : SynAt w ad) : Calls Tryd.prog 5 #[.string ⟨#[97, 32, 94]⟩] w fun x w' => x = .returned (.tuple #[.slice none 0 0, .int .i64 2, .iface 89 (.pointer (some ad))]) ∧ Kept (fun _ => False) w w' := by
  refine (lscan_any [97, 32, 94] w ad hC hS (by decide)).mono ?_
  intro x w' h
  unfold lxPost at h
  rw [ex_dead] at h
  rcases h with ⟨hf, _⟩ | ⟨f, hf, rfl, hk⟩
  · cases hf
  · cases hf
    exact ⟨rfl, hk⟩
end Go.Proofs.YtklocdifkcnchaaDoor
