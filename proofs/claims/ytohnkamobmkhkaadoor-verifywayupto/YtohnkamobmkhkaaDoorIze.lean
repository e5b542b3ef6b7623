import Derived.Test.YtohnkamobmkhkaaDoorIzd
namespace Go.Proofs.YtohnkamobmkhkaaDoor
open Go.ChangeShapes Go.WideShapes Go.ChangeAt Go.RowKit

theorem own_lowerI {w : World} {b b' e z n : Nat} {v : Value} {xs : List Value} (h : w.ownsRow b e z v n xs) (hb : b' ≤ b) : w.ownsRow b' e z v n xs := by
  refine ⟨h.1, ?_⟩
  rcases h.2 with hn | ⟨g, cap, cur, e1, hg, rest⟩
  · exact .inl hn
  · exact .inr ⟨g, cap, cur, e1, Nat.le_trans hb hg, rest⟩
/-- What Encode answers. -/
def encP (w : World) (l : List In) (ac : Addr) (e : Ending) (w' : World) : Prop :=
  ((∀ x ∈ l, okI x = true) → ∃ g, w.heap.size ≤ g ∧ e = .returned (.tuple #[.slice (some ⟨g, 0, none⟩) (ibL l).length (ibL l).length, .nilIface]) ∧ w'.ownsRow w.heap.size 5 1 (.slice (some ⟨g, 0, none⟩) (ibL l).length (ibL l).length) (ibL l).length (bs (ibL l))) ∧
  ((¬ ∀ x ∈ l, okI x = true) → e = .returned (.tuple #[.slice none 0 0, errV ac])) ∧ Kept (fun _ => False) w w'
end Go.Proofs.YtohnkamobmkhkaaDoor
