import Derived.Test.YtmddcjjmlfpffaaAul
namespace Go.Proofs.Ytmddcjjmlfpffaa
open Go.ChangeShapes Go.WideShapes Go.ChangeAt Go.RowKit

theorem bad_o {k : Int} {l : List UInt8} {n : Int} (h3 : k ≠ 3) (h4 : k ≠ 4) : bad k l n = 0 := by unfold bad; rw [if_neg (fun h => h3 h.1), if_neg (fun h => h4 h.1)]
end Go.Proofs.Ytmddcjjmlfpffaa
