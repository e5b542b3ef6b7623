import Derived.Test.YtiebmmpnmklpnaaDoorBase
import Derived.Test.YtiebmmpnmklpnaaDoorNums
namespace Go.Proofs.YtiebmmpnmklpnaaDoor
open Go.ChangeShapes Go.WideShapes Go.ChangeAt Go.RowKit
end Go.Proofs.YtiebmmpnmklpnaaDoor
