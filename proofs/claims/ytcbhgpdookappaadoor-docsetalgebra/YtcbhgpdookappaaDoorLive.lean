import Derived.Test.YtcbhgpdookappaaDoorRdC
namespace Go.Proofs.YtcbhgpdookappaaDoor
open Go.ChangeShapes Go.WideShapes Go.ChangeAt Go.RowKit

theorem uvb300 : uvb 300 = [172, 2] := by rw [uvb_big (by decide), uvb_small (by decide)]; rfl
theorem rdu300 : rdu 0 0 (([172, 2, 7] : List Int).drop 0) = .ok (300, 2) := by rfl

end Go.Proofs.YtcbhgpdookappaaDoor
