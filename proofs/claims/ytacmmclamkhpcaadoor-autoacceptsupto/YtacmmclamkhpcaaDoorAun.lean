import Derived.Test.YtacmmclamkhpcaaDoorAum
namespace Go.Proofs.YtacmmclamkhpcaaDoor
open Go.ChangeShapes Go.WideShapes Go.ChangeAt Go.RowKit

end Go.Proofs.YtacmmclamkhpcaaDoor
