import Derived.Test.YtohnkamobmkhkaaDoorBase
import Derived.Test.YtohnkamobmkhkaaDoorNums
namespace Go.Proofs.YtohnkamobmkhkaaDoor
open Go.ChangeShapes Go.WideShapes Go.ChangeAt Go.RowKit
end Go.Proofs.YtohnkamobmkhkaaDoor
