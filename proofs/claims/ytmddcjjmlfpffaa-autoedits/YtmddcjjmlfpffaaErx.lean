import Derived.Test.YtmddcjjmlfpffaaErrs
namespace Go.Proofs.Ytmddcjjmlfpffaa
open Go.ChangeShapes Go.WideShapes Go.ChangeAt Go.RowKit

end Go.Proofs.Ytmddcjjmlfpffaa
