import Derived.Test.YteeimpjjmdpbgaaDoorDbg
import Derived.Test.YteeimpjjmdpbgaaDoorShl
namespace Go.Proofs.YteeimpjjmdpbgaaDoor
open Go.ChangeShapes Go.WideShapes Go.ChangeAt Go.RowKit

theorem clone_ok : ClnOk := by
  intro s w hs
  have HC := hideQ (Tryd.stringslite_Clone s w hs)
  go_enter Tryd.func61, Tryd.ntmps61
  go_wp2_with (go_at_call 67; refine HC.out.mono ?_; rintro e W ⟨rfl, hb⟩)
  go_ret
  exact ⟨rfl, Kept.of_below hb⟩
end Go.Proofs.YteeimpjjmdpbgaaDoor
