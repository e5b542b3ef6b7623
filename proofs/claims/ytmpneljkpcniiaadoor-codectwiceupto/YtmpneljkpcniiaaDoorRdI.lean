import Derived.Test.YtmpneljkpcniiaaDoorRdH
namespace Go.Proofs.YtmpneljkpcniiaaDoor
open Go.ChangeShapes Go.WideShapes Go.ChangeAt Go.RowKit

end Go.Proofs.YtmpneljkpcniiaaDoor
