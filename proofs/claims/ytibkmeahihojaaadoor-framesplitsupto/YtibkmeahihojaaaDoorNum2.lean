import Derived.Test.YtibkmeahihojaaaDoorBase
import Derived.Test.YtibkmeahihojaaaDoorNums
namespace Go.Proofs.YtibkmeahihojaaaDoor
open Go.ChangeShapes Go.WideShapes Go.ChangeAt Go.RowKit
end Go.Proofs.YtibkmeahihojaaaDoor
