import Derived.Test.YtedohkcoeebajaaDoorPoh
namespace Go.Proofs.YtedohkcoeebajaaDoor
open Go.ChangeShapes Go.WideShapes Go.ChangeAt Go.RowKit Go.Shelf
attribute [local go_sem] Oper.semAt_some

structure StpP (p : Prop) : Prop where
  go : p
structure Bxs2 (p4 b2 b3 : Nat) (W : World) : Prop where
  s : W.cell? ⟨p4, 0, none⟩ = some (.pointer (some ⟨b2, 0, none⟩))
  k : W.cell? ⟨p4 + 1, 0, none⟩ = some (.pointer (some ⟨b3, 0, none⟩))
/-- What the regions of a round read. -/
structure Bxs (p4 p6 b2 b3 : Nat) (z : Int) (W : World) : Prop where
  s : W.cell? ⟨p4, 0, none⟩ = some (.pointer (some ⟨b2, 0, none⟩))
  k : W.cell? ⟨p4 + 1, 0, none⟩ = some (.pointer (some ⟨b3, 0, none⟩))
  b : W.cell? ⟨p6, 0, none⟩ = some (.int .i64 z)
theorem own_lowerP {w : World} {b b' e z n : Nat} {v : Value} {xs : List Value} (h : w.ownsRow b e z v n xs) (hb : b' ≤ b) : w.ownsRow b' e z v n xs := by
  refine ⟨h.1, ?_⟩
  rcases h.2 with hn | ⟨g, cap, cur, e1, hg, rest⟩
  · exact .inl hn
  · exact .inr ⟨g, cap, cur, e1, Nat.le_trans hb hg, rest⟩
end Go.Proofs.YtedohkcoeebajaaDoor
