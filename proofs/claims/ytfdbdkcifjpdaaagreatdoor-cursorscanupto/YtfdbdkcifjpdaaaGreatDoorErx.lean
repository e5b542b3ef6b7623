import Derived.Test.YtfdbdkcifjpdaaaGreatDoorErrs
namespace Go.Proofs.YtfdbdkcifjpdaaaGreatDoor
open Go.ChangeShapes Go.WideShapes Go.ChangeAt Go.RowKit

end Go.Proofs.YtfdbdkcifjpdaaaGreatDoor
