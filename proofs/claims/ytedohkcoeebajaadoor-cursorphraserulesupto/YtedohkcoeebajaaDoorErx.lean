import Derived.Test.YtedohkcoeebajaaDoorErrs
namespace Go.Proofs.YtedohkcoeebajaaDoor
open Go.ChangeShapes Go.WideShapes Go.ChangeAt Go.RowKit

end Go.Proofs.YtedohkcoeebajaaDoor
