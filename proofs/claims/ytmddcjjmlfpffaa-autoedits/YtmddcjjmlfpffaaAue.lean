import Derived.Test.YtmddcjjmlfpffaaAud
import Derived.Test.YtmddcjjmlfpffaaShl
namespace Go.Proofs.Ytmddcjjmlfpffaa
open Go.ChangeShapes Go.WideShapes Go.ChangeAt Go.RowKit

/-- Does the pattern match? Is the text alive? -/
def accW (E : List Int) (l : List UInt8) : Bool := decide (runW E l ≠ []) && decide ((runW E l).getLast? = some E.length)
def alvW (E : List Int) (l : List UInt8) : Bool := decide (0 < (runW E l).length)
end Go.Proofs.Ytmddcjjmlfpffaa
