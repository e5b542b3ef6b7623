import Derived.Test.YtpopfgablgnalaaBase
import Derived.Test.YtpopfgablgnalaaNums
namespace Go.Proofs.Ytpopfgablgnalaa
open Go.ChangeShapes Go.WideShapes Go.ChangeAt Go.RowKit
end Go.Proofs.Ytpopfgablgnalaa
