import Derived.Test.YtoglgicmnhklbaaDoorBase
import Derived.Test.YtoglgicmnhklbaaDoorNums
namespace Go.Proofs.YtoglgicmnhklbaaDoor
open Go.ChangeShapes Go.WideShapes Go.ChangeAt Go.RowKit
end Go.Proofs.YtoglgicmnhklbaaDoor
