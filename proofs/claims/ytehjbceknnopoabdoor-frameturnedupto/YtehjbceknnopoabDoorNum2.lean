import Derived.Test.YtehjbceknnopoabDoorBase
import Derived.Test.YtehjbceknnopoabDoorNums
namespace Go.Proofs.YtehjbceknnopoabDoor
open Go.ChangeShapes Go.WideShapes Go.ChangeAt Go.RowKit
end Go.Proofs.YtehjbceknnopoabDoor
