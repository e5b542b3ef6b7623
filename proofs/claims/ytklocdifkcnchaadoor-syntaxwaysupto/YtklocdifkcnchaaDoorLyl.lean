import Derived.Test.YtklocdifkcnchaaDoorLyk
namespace Go.Proofs.YtklocdifkcnchaaDoor
open Go.ChangeShapes Go.WideShapes Go.ChangeAt Go.RowKit

theorem scan_none (l : List UInt8) (w : World) (ad : Addr) (hC : ClsAt w) (hS : SynAt w ad) (hl : l.length ≤ 400000000000) (h : (scanF l).2 = none) :
    Calls Tryd.prog 5 #[.string (bq l)] w fun x w' => (∃ a c m, x = .returned (.tuple #[.slice a m c, .int .i64 0, .nilIface]) ∧ Tks w w' a c m (scanF l).1) ∧ Kept (fun _ => False) w w' := by
  refine (lscan_any l w ad hC hS hl).mono ?_
  rintro x w' (⟨_, a, c, m, rfl, hT⟩ | ⟨f, hf, _⟩)
  · exact ⟨⟨a, c, m, rfl, hT⟩, hT.gro.kept⟩
  · rw [h] at hf; cases hf
theorem scan_some (l : List UInt8) (w : World) (ad : Addr) (hC : ClsAt w) (hS : SynAt w ad) (hl : l.length ≤ 400000000000) (f : Nat) (h : (scanF l).2 = some f) :
    Calls Tryd.prog 5 #[.string (bq l)] w fun x w' => x = .returned (.tuple #[.slice none 0 0, .int .i64 (f : Int), .iface 89 (.pointer (some ad))]) ∧ Kept (fun _ => False) w w' := by
  refine (lscan_any l w ad hC hS hl).mono ?_
  rintro x w' (⟨hf, _⟩ | ⟨f', hf, rfl, hk⟩)
  · rw [h] at hf; cases hf
  · rw [h] at hf
    cases hf
    exact ⟨rfl, hk⟩
end Go.Proofs.YtklocdifkcnchaaDoor
