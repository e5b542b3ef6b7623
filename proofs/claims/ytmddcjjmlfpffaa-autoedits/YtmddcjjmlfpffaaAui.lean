import Derived.Test.YtmddcjjmlfpffaaAuh
namespace Go.Proofs.Ytmddcjjmlfpffaa
open Go.ChangeShapes Go.WideShapes Go.ChangeAt Go.RowKit

theorem BF.quietA {w w1 : World} {b : Nat} (h : Kept (BF w b) w w1) : Kept (fun j => b ≤ j) w w1 := h.mono (fun j hj => .inl (by rcases hj with e | ⟨e, _⟩ <;> omega))
/-- A text as the pattern that matches it alone. -/
def sp1 (c : UInt8) : List UInt8 := if c = 42 ∨ c = 63 ∨ c = 92 then [92, c] else [c]
def lit (l : List UInt8) : List UInt8 := l.flatMap sp1
theorem lit_cons (c : UInt8) (r : List UInt8) : lit (c :: r) = sp1 c ++ lit r := by unfold lit; simp
theorem lit_nil : lit [] = [] := rfl
theorem sp1_yes {c : UInt8} (h : c = 42 ∨ c = 63 ∨ c = 92) : sp1 c = [92] ++ [c] := by unfold sp1; rw [if_pos h]; rfl
theorem sp1_no {c : UInt8} (h : ¬ (c = 42 ∨ c = 63 ∨ c = 92)) : sp1 c = [c] := by unfold sp1; rw [if_neg h]
end Go.Proofs.Ytmddcjjmlfpffaa
