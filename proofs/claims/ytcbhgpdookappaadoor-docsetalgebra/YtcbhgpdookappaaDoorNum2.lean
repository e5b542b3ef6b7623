import Derived.Test.YtcbhgpdookappaaDoorBase
import Derived.Test.YtcbhgpdookappaaDoorNums
namespace Go.Proofs.YtcbhgpdookappaaDoor
open Go.ChangeShapes Go.WideShapes Go.ChangeAt Go.RowKit
set_option maxHeartbeats 4000000 in
set_option maxRecDepth 100000 in
theorem len64_any (v : Int) (w : World) (h0 : 0 ≤ v) (h1 : v ≤ 18446744073709551615) :
    Calls Tryd.prog 63 #[.int .u64 v] w fun e w' => e = .returned (.int .i64 (bitLen v.toNat)) ∧ w' = w := by
  go_enter Tryd.func63, Tryd.ntmps63
  go_wp2
  all_goals (go_ret; refine ⟨congrArg Ending.returned (congrArg (Value.int IntKind.i64) ?_), rfl⟩)
  all_goals rw [len8tab_get]
  all_goals first
    | exact len_close 56 v _ (by omega) (by omega) (by omega) (by omega)
    | exact len_close 48 v _ (by omega) (by omega) (by omega) (by omega)
    | exact len_close 40 v _ (by omega) (by omega) (by omega) (by omega)
    | exact len_close 32 v _ (by omega) (by omega) (by omega) (by omega)
    | exact len_close 24 v _ (by omega) (by omega) (by omega) (by omega)
    | exact len_close 16 v _ (by omega) (by omega) (by omega) (by omega)
    | exact len_close 8 v _ (by omega) (by omega) (by omega) (by omega)
    | (rw [len_close0 v (by omega), len_close0 v (by omega)])
end Go.Proofs.YtcbhgpdookappaaDoor
