import Derived.Test.YtbhoplmbiomogaaDoorBld
import Derived.Test.YtbhoplmbiomogaaDoorTxn
import Derived.Test.YtbhoplmbiomogaaDoorRdb2
namespace Go.Proofs.YtbhoplmbiomogaaDoor
open Go.ChangeShapes Go.WideShapes Go.ChangeAt Go.RowKit

set_option maxRecDepth 20000 in
set_option maxHeartbeats 4000000 in
theorem fieldByte_any (n : ByteArray) (k : Int) (fo st se : Bool) (w : World) (hk : k = 1 ∨ k = 2 ∨ k = 3) :
    Calls Tryd.prog 20 #[.agg #[.string n, .int .i64 k, .bool fo, .bool st, .bool se]] w fun e w' => e = .returned (.int .u8 ((k.toNat + bt fo 4 + bt st 8 + bt se 16 : Nat) : Int)) ∧ Kept (fun _ => False) w w' := by
  rcases hk with rfl | rfl | rfl <;> cases fo <;> cases st <;> cases se
  all_goals
    go_enter Tryd.func20, Tryd.ntmps20
    go_wp2
    go_ret
    exact ⟨rfl, Kept.alloc _ _⟩
end Go.Proofs.YtbhoplmbiomogaaDoor
