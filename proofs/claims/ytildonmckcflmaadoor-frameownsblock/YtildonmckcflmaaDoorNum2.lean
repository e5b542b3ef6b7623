import Derived.Test.YtildonmckcflmaaDoorBase
import Derived.Test.YtildonmckcflmaaDoorNums
namespace Go.Proofs.YtildonmckcflmaaDoor
open Go.ChangeShapes Go.WideShapes Go.ChangeAt Go.RowKit
end Go.Proofs.YtildonmckcflmaaDoor
