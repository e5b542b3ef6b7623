import Derived.Test.YtjcoajgndehccaaDoorMrg2
namespace Go.Proofs.YtjcoajgndehccaaDoor
open Go.ChangeShapes Go.WideShapes Go.ChangeAt Go.RowKit

theorem Rd.drewN {w : World} {br : Nat} {v : Value} {l : List Int} {p : Nat} (h : Rd w br v l p) (n : Nat) : Rd (w.drewN n) br v l p := h.kept (Kept.drewN w n) (fun f => f) (fun _ _ f => f)
theorem RKept {br : Nat} {w : World} (n : Nat) (q : Value) : Kept (fun i => i = br) w ((w.drewN n).setCell ⟨br, 1, none⟩ q) :=
  ((Kept.drewN w n).mono (fun _ f => f.elim)).trans (Kept.setCell _ _ _) (fun _ hi => .inl hi)

/-- Which error a uvarint's refusal is. -/
def errOf (a0 a1 : Addr) (e : Nat) : Value := if e = 0 then errV a0 else errV a1
theorem zag0 : zag 0 = 0 := by decide
end Go.Proofs.YtjcoajgndehccaaDoor
