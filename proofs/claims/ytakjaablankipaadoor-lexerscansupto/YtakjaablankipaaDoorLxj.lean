import Derived.Test.YtakjaablankipaaDoorLxi
namespace Go.Proofs.YtakjaablankipaaDoor
open Go.ChangeShapes Go.WideShapes Go.ChangeAt Go.RowKit

/-- The world with a sign laid new. -/
def nsg (w : World) (q p z : Int) (b : Bool) : World := w.alloc (.cells #[.int .u8 q, .bool b, .int .i64 p, .int .i64 z] 47)
theorem nsg_blk {w W : World} {q p z : Int} {b : Bool} (k : KT 5 (nsg w q p z b) W) : W.cell? ⟨w.heap.size, 0, none⟩ = some (.int .u8 q) ∧ W.cell? ⟨w.heap.size, 1, none⟩ = some (.bool b) := by
  have h := k.heap (heap_alloc_new w (.cells #[.int .u8 q, .bool b, .int .i64 p, .int .i64 z] 47)) (by decide)
  exact ⟨cell_of_row _ _ 0 _ _ _ h, cell_of_row _ _ 1 _ _ _ h⟩
end Go.Proofs.YtakjaablankipaaDoor
