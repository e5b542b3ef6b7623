import Derived.Test.YtdklkpbadopkaaaDoorRows
import Derived.WalkKit
import Derived.OrdersHeld
namespace Go.Proofs.YtdklkpbadopkaaaDoor
open Go.RowKit
/-- Whatever the world. -/
def AnyZ (_ : World) : Prop := True
theorem anyZ (W : World) : AnyZ W := trivial
theorem takeZ {P : Program} {ops : Array Oper} {Q : Exit → Act → World → Prop} {md : Region.Mode} {S : World → Prop} {i d : Nat} {oi : Oper} {v : Value} {fuel : Nat} {listed : Array Bool} {a : Act} {w : World} (hi : ops[i]? = some oi) (hd : oi.dst = some d)
    (hs : Region.noSelect ops = true) (hf : Region.free md ops listed i = true) (hr : (Region.ready md ops listed).contains i = true)
    (hQ : ∀ c a w, Q (.panic c) (a.put (some d) v) w → Q (.panic c) a w) (hy : YieldsIf P ops S oi v a) (hS : S w)
    (h : wpAnyH P md ops Q S fuel (listed.setIfInBounds i true) (a.put (some d) v) w) : wpAnyH P md ops Q S (fuel + 1) listed a w := by
  rw [← hd] at hQ h
  exact wpAnyH_take hi hs hf hr hQ hy hS h
end Go.Proofs.YtdklkpbadopkaaaDoor
