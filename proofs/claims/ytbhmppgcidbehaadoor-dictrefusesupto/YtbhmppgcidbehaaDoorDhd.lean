import Derived.Test.YtbhmppgcidbehaaDoorDbf
import Derived.Test.YtbhmppgcidbehaaDoorShl
import Derived.Test.YtbhmppgcidbehaaDoorAnyz
import Derived.BigQuiet
namespace Go.Proofs.YtbhmppgcidbehaaDoor
open Go.ChangeShapes Go.WideShapes Go.ChangeAt Go.RowKit

/-- Does k begin with x? -/
def hdp (k x : ByteArray) : Bool := Lib.hasPrefix k.data.toList x.data.toList
/-- The range of the keys that begin with x. -/
def Hdd (E : List En) (x : ByteArray) (r t : Nat) : Prop := Skd E x r ∧ r ≤ t ∧ t ≤ E.length ∧ (t = r ∨ hdp (kat E (t - 1)) x = true) ∧ (t = E.length ∨ hdp (kat E t) x = false)
end Go.Proofs.YtbhmppgcidbehaaDoor
