import Derived.Test.YtehjbceknnopoaaDoorBase
import Derived.Test.YtehjbceknnopoaaDoorNums
namespace Go.Proofs.YtehjbceknnopoaaDoor
open Go.ChangeShapes Go.WideShapes Go.ChangeAt Go.RowKit
end Go.Proofs.YtehjbceknnopoaaDoor
