import Derived.Test.YtebmkaiblhjbnaaDoorRdG
namespace Go.Proofs.YtebmkaiblhjbnaaDoor
open Go.ChangeShapes Go.WideShapes Go.ChangeAt Go.RowKit

end Go.Proofs.YtebmkaiblhjbnaaDoor
