import Derived.Test.YtjcoajgndehccaaDoorRdG
namespace Go.Proofs.YtjcoajgndehccaaDoor
open Go.ChangeShapes Go.WideShapes Go.ChangeAt Go.RowKit

end Go.Proofs.YtjcoajgndehccaaDoor
