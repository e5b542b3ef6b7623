import Derived.Test.YtcanbhbhdgogoaaDoorBase
import Derived.Test.YtcanbhbhdgogoaaDoorNums
namespace Go.Proofs.YtcanbhbhdgogoaaDoor
open Go.ChangeShapes Go.WideShapes Go.ChangeAt Go.RowKit
end Go.Proofs.YtcanbhbhdgogoaaDoor
