import Derived.Test.YtiebmmpnmklpnaaDoorNum2
namespace Go.Proofs.YtiebmmpnmklpnaaDoor
open Go.ChangeShapes Go.WideShapes Go.ChangeAt Go.RowKit

end Go.Proofs.YtiebmmpnmklpnaaDoor
