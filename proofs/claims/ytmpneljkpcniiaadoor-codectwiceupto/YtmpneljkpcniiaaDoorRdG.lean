import Derived.Test.YtmpneljkpcniiaaDoorRdF
namespace Go.Proofs.YtmpneljkpcniiaaDoor
open Go.ChangeShapes Go.WideShapes Go.ChangeAt Go.RowKit

/-- The run of bytes from a place on. -/
theorem BytesAt.cut {w : World} {b off : Nat} {l : List Int} {p n : Nat} (h : ∀ k, k < l.length → w.cell? ⟨b, off + k, none⟩ = some (.int .u8 (l[k]?.getD 0))) (hn : p + n ≤ l.length) : BytesAt w (some ⟨b, off + p, none⟩) ((l.drop p).take n) := by
  intro _
  refine ⟨b, off + p, rfl, fun k hk => ?_⟩
  rw [List.length_take, List.length_drop] at hk
  rw [List.getElem?_take, if_pos (by omega), List.getElem?_drop, Nat.add_assoc]
  exact h (p + k) (by omega)

end Go.Proofs.YtmpneljkpcniiaaDoor
