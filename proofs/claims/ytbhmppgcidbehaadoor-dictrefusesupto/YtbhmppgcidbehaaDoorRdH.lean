import Derived.Test.YtbhmppgcidbehaaDoorRdG
namespace Go.Proofs.YtbhmppgcidbehaaDoor
open Go.ChangeShapes Go.WideShapes Go.ChangeAt Go.RowKit

end Go.Proofs.YtbhmppgcidbehaaDoor
