import Derived.Test.YtpopfgablgnalaaNum2
namespace Go.Proofs.Ytpopfgablgnalaa
open Go.ChangeShapes Go.WideShapes Go.ChangeAt Go.RowKit

end Go.Proofs.Ytpopfgablgnalaa
