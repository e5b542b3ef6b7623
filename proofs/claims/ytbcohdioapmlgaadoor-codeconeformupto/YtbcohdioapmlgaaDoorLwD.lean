import Derived.Test.YtbcohdioapmlgaaDoorLwC
namespace Go.Proofs.YtbcohdioapmlgaaDoor
open Go.ChangeShapes Go.WideShapes Go.ChangeAt Go.RowKit

theorem Rd.alloc {w : World} {br : Nat} {v : Value} {l : List Int} {p : Nat} (h : Rd w br v l p) (o : Obj) : Rd (w.alloc o) br v l p := h.kept (Kept.alloc w o) (fun f => f) (fun _ _ f => f)
/-- The reader stands behind what it has read. -/
def RGot (br : Nat) (v : Value) (l : List Int) (q : Nat) (w : World) (e : Ending) (w' : World) : Prop :=
  e = .returned (.bool true) ∧ Rd w' br v l q ∧ Kept (fun i => i = br) w w'
theorem RGot.of {br : Nat} {v : Value} {l : List Int} {p q : Nat} {w w' : World} {o : Obj} (_h : Rd w br v l p) (hr : Rd w' br v l q) (hk : Kept (fun i => i = br) (w.alloc o) w') {b : Bool} (hb : b = true) : RGot br v l q w (.returned (.bool b)) w' :=
  ⟨by rw [hb], hr, ((Kept.alloc w o).mono (fun _ f => f.elim)).trans hk (fun _ e => .inl e)⟩
theorem box_kept {br : Nat} {v : Value} {l : List Int} {p : Nat} {w w2 : World} {o : Obj} (h : Rd w br v l p) (hk : Kept (fun i => i = br) (w.alloc o) w2) : w2.heap[w.heap.size]? = some o := by
  refine hk.heap (heap_alloc_new w _) ?_
  have := lt_of_block h.blk
  show ¬ w.heap.size = br
  omega
theorem drop_at {l b r : List Int} {p : Nat} (hp : p ≤ l.length) (h : l.drop p = b ++ r) : p + b.length ≤ l.length := by
  have := congrArg List.length h
  rw [List.length_drop, List.length_append] at this
  omega

end Go.Proofs.YtbcohdioapmlgaaDoor
