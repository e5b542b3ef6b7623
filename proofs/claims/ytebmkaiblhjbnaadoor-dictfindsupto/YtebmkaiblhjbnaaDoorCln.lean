import Derived.Test.YtebmkaiblhjbnaaDoorDbg
import Derived.Test.YtebmkaiblhjbnaaDoorShl
namespace Go.Proofs.YtebmkaiblhjbnaaDoor
open Go.ChangeShapes Go.WideShapes Go.ChangeAt Go.RowKit

theorem clone_ok : ClnOk := by
  intro s w hs
  have HC := hideQ (Tryd.stringslite_Clone s w hs)
  go_enter Tryd.func73, Tryd.ntmps73
  go_wp2_with (go_at_call 79; refine HC.out.mono ?_; rintro e W ⟨rfl, hb⟩)
  go_ret
  exact ⟨rfl, Kept.of_below hb⟩
end Go.Proofs.YtebmkaiblhjbnaaDoor
