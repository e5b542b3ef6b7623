import Derived.Test.YtedohkcoeebajaaDoorPoi
namespace Go.Proofs.YtedohkcoeebajaaDoor
open Go.ChangeShapes Go.WideShapes Go.ChangeAt Go.RowKit

theorem flts_step {L : List Pg} {j : Nat} (h : j < L.length) (z : Int) : flts z (pol (L.drop j)) = if flt z ⟨L[j].d, L[j].ps⟩ = 0 then flts L[j].d (pol (L.drop (j + 1))) else flt z ⟨L[j].d, L[j].ps⟩ := by
  rw [List.drop_eq_getElem_cons h]
  rfl
/-- What Encode answers. -/
def enPost (L : List Pg) (a3 a7 : Addr) (w : World) (e : Ending) (w' : World) : Prop :=
  Kept (fun _ => False) w w' ∧ ((flts (-1) (pol L) = 0 ∧ ∃ g, w.heap.size ≤ g ∧ e = .returned (.tuple #[.slice (some ⟨g, 0, none⟩) (img (pol L)).length (img (pol L)).length, .nilIface]) ∧ w'.ownsRow w.heap.size 5 1 (.slice (some ⟨g, 0, none⟩) (img (pol L)).length (img (pol L)).length) (img (pol L)).length (bs (img (pol L))))
    ∨ (flts (-1) (pol L) = 3 ∧ e = .returned (.tuple #[.slice none 0 0, errV a3])) ∨ (flts (-1) (pol L) = 7 ∧ e = .returned (.tuple #[.slice none 0 0, errV a7])))
end Go.Proofs.YtedohkcoeebajaaDoor
