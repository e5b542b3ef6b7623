import Derived.Test.YtcanbhbhdgogoaaDoorDbg
import Derived.Test.YtcanbhbhdgogoaaDoorShl
namespace Go.Proofs.YtcanbhbhdgogoaaDoor
open Go.ChangeShapes Go.WideShapes Go.ChangeAt Go.RowKit

theorem clone_ok : ClnOk := by
  intro s w hs
  have HC := hideQ (Tryd.stringslite_Clone s w hs)
  go_enter Tryd.func69, Tryd.ntmps69
  go_wp2_with (go_at_call 74; refine HC.out.mono ?_; rintro e W ⟨rfl, hb⟩)
  go_ret
  exact ⟨rfl, Kept.of_below hb⟩
end Go.Proofs.YtcanbhbhdgogoaaDoor
