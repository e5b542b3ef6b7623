import Derived.Test.YtcnnnkdbbiflfaaDoorRdG
namespace Go.Proofs.YtcnnnkdbbiflfaaDoor
open Go.ChangeShapes Go.WideShapes Go.ChangeAt Go.RowKit

end Go.Proofs.YtcnnnkdbbiflfaaDoor
