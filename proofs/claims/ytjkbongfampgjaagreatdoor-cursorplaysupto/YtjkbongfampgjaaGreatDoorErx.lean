import Derived.Test.YtjkbongfampgjaaGreatDoorErrs
namespace Go.Proofs.YtjkbongfampgjaaGreatDoor
open Go.ChangeShapes Go.WideShapes Go.ChangeAt Go.RowKit

end Go.Proofs.YtjkbongfampgjaaGreatDoor
