import Derived.Test.YtmddcjjmlfpffaaAui
import Derived.Deep.RegionWith
import Derived.BigRegion
namespace Go.Proofs.Ytmddcjjmlfpffaa
open Go.ChangeShapes Go.WideShapes Go.ChangeAt Go.RowKit

structure Stp2 (p : Prop) : Prop where
  out : p
theorem Stp2.go {p : Prop} (h : Stp2 p) : p := h.out
def StP (w w' : World) (e : Ending) : Prop := (∃ a n c, e = .returned (.slice a n c)) ∧ Kept (fun _ => False) w w'
theorem set_blockA {W : World} {b k : Nat} {cs : Array Value} {t : TypeId} {fr : Nat × Nat} {u : Value} (h : W.heap[b]? = some (.cells cs t fr)) : (W.setCell ⟨b, k, none⟩ u).heap[b]? = some (.cells (cs.setIfInBounds k u) t fr) := by
  have hlt : b < W.heap.size := (Array.getElem?_eq_some_iff.1 h).1
  have h' : W.heap[b] = .cells cs t fr := by simpa [Array.getElem?_eq_getElem hlt] using h
  show (W.heap.modify b _)[b]? = _
  rw [Array.getElem?_eq_getElem (by simpa using hlt), Array.getElem_modify_self, h']
  rfl

def RtB (w w' : World) (e : Ending) : Prop := (∃ b, e = .returned (.bool b)) ∧ Kept (fun _ => False) w w'
end Go.Proofs.Ytmddcjjmlfpffaa
