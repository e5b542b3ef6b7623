import Derived.Test.YthbfmgbielmaeaaDoorBase
import Derived.Test.YthbfmgbielmaeaaDoorNums
namespace Go.Proofs.YthbfmgbielmaeaaDoor
open Go.ChangeShapes Go.WideShapes Go.ChangeAt Go.RowKit
end Go.Proofs.YthbfmgbielmaeaaDoor
