import Derived.Test.YtnkmjhcddegkhaaDoorScx
namespace Go.Proofs.YtnkmjhcddegkhaaDoor
open Go.ChangeShapes Go.WideShapes Go.ChangeAt Go.RowKit

/-- A value. -/
structure Vl where
  n : ByteArray
  t : ByteArray
structure Vl.Ok (x : Vl) : Prop where
  n : x.n.size ≤ maxLen
  t : x.t.size ≤ 140737488355328
def VsAt (w : World) (a : Option Addr) (l : List Vl) : Prop :=
  l ≠ [] → ∃ b off, a = some ⟨b, off, none⟩ ∧ ∀ k (h : k < l.length), w.cell? ⟨b, off + k * 2, none⟩ = some (.string (l[k]).n) ∧ w.cell? ⟨b, off + k * 2 + 1, none⟩ = some (.string (l[k]).t)
theorem VsAt.kept {w w' : World} {a : Option Addr} {l : List Vl} (h : VsAt w a l) (k : Kept (fun _ => False) w w') : VsAt w' a l := by
  intro hne
  obtain ⟨b, off, e, hc⟩ := h hne
  exact ⟨b, off, e, fun j hj => ⟨k.cell (hc j hj).1 (fun f => f), k.cell (hc j hj).2 (fun f => f)⟩⟩
end Go.Proofs.YtnkmjhcddegkhaaDoor
