import Derived.Test.YtmfdoohnladohaaRfi
namespace Go.Proofs.Ytmfdoohnladohaa
open Go.ChangeShapes Go.WideShapes Go.ChangeAt Go.RowKit

theorem rule_blk {W : World} {g : Nat} {x y : ByteArray} (h : W.heap[g]? = some (.cells #[.string x, .string y] 37 (0, 0))) : W.cell? ⟨g, 0, none⟩ = some (.string x) ∧ W.cell? ⟨g, 1, none⟩ = some (.string y) ∧ W.frozen? ⟨g, 0, none⟩ = false ∧ W.frozen? ⟨g, 1, none⟩ = false :=
  ⟨cell_of_row _ _ 0 _ _ _ h, cell_of_row _ _ 1 _ _ _ h, by simp [World.frozen?, h], by simp [World.frozen?, h]⟩
theorem rule_put {W : World} {g : Nat} {x y a b : ByteArray} (h : W.heap[g]? = some (.cells #[.string x, .string y] 37 (0, 0))) : ((W.setCell ⟨g, 0, none⟩ (.string a)).setCell ⟨g, 1, none⟩ (.string b)).heap[g]? = some (.cells #[.string a, .string b] 37 (0, 0)) := by
  have b1 := heap_setCell_same W g 0 _ _ (.string a) h
  exact heap_setCell_same _ g 1 _ _ (.string b) b1
theorem rule_kept {w W : World} {g : Nat} {a b : ByteArray} (k : Kept (fun _ => False) w W) (hg : w.heap.size ≤ g) : Kept (fun _ => False) w ((W.setCell ⟨g, 0, none⟩ (.string a)).setCell ⟨g, 1, none⟩ (.string b)) :=
  (k.trans (Kept.setCell _ _ _) (fun i e => .inr (by simp only at e; omega))).trans (Kept.setCell _ _ _) (fun i e => .inr (by simp only at e; omega))
def tail1 (l : List UInt8) : List UInt8 := l.take (l.length - 1)
/-- The last part of the document's first: step 1c, by what the text V is then. -/
theorem st1c_F (l : List UInt8) : bq (st1c l) = if sfx l [121] && hasV (cutE l [121]) then bq (cutE l [121]) ++ ⟨#[105]⟩ else bq l := by
  unfold st1c
  split
  · exact (bq_append _ [105]).symm
  · rfl
end Go.Proofs.Ytmfdoohnladohaa
