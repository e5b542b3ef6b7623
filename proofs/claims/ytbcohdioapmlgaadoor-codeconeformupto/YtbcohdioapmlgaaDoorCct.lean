import Derived.Test.YtbcohdioapmlgaaDoorLwH
namespace Go.Proofs.YtbcohdioapmlgaaDoor
open Go.ChangeShapes Go.WideShapes Go.ChangeAt Go.RowKit

/-- Lists of bytes: where each lies, its room and its bytes. -/
abbrev Part := Option Addr × Nat × List Int
def Part.val (p : Part) : Value := .slice p.1 p.2.2.length p.2.1
def flat (P : List Part) : List Int := (P.map (fun p => p.2.2)).flatten
def PartsAt (w : World) (a : Option Addr) (P : List Part) : Prop :=
  P ≠ [] → ∃ b off, a = some ⟨b, off, none⟩ ∧ ∀ k (h : k < P.length), w.cell? ⟨b, off + k, none⟩ = some (P[k]).val
theorem flat_take {P : List Part} {k : Nat} (h : k < P.length) : flat (P.take (k + 1)) = flat (P.take k) ++ (P[k]).2.2 := by
  rw [flat, List.take_add_one, List.getElem?_eq_getElem h, List.map_append, List.flatten_append, flat]
  simp only [Option.toList_some, List.map_cons, List.map_nil, List.flatten_cons, List.flatten_nil, List.append_nil]
theorem flat_take_le {P : List Part} {k : Nat} : (flat (P.take k)).length ≤ (flat P).length := by
  have e : flat P = flat (P.take k) ++ flat (P.drop k) := by
    rw [flat, flat, flat, ← List.flatten_append, ← List.map_append, List.take_append_drop]
  rw [e, List.length_append]
  omega
theorem flat_next_le {P : List Part} {k : Nat} (h : k < P.length) : (flat (P.take k)).length + (P[k]).2.2.length ≤ (flat P).length := by
  have := flat_take_le (P := P) (k := k + 1)
  rwa [flat_take h, List.length_append] at this
theorem kept_below {w w' : World} (h : Kept (fun _ => False) w w') : Below w.heap.size w w' := h.below (Nat.le_refl _) (fun _ _ f => f)

end Go.Proofs.YtbcohdioapmlgaaDoor
