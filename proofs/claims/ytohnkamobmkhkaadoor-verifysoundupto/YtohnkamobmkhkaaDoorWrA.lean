import Derived.Test.YtohnkamobmkhkaaDoorNum2
namespace Go.Proofs.YtohnkamobmkhkaaDoor
open Go.ChangeShapes Go.WideShapes Go.ChangeAt Go.RowKit

end Go.Proofs.YtohnkamobmkhkaaDoor
