import Derived.Test.YtbcohdioapmlgaaDoorLwB
namespace Go.Proofs.YtbcohdioapmlgaaDoor
open Go.ChangeShapes Go.WideShapes Go.ChangeAt Go.RowKit

theorem may9_form {l : List Int} (h : mayB 9 l = true) : bitLen (orl l) ≠ 0 ∨ l.length ≤ 65536 := by
  by_cases hb : l.length ≤ 65536
  · exact .inr hb
  · refine .inl fun e => may9_zero h ⟨?_, by omega⟩
    have : orl l < 2 ^ 0 := (bitLen_le_iff _ _).1 (by omega)
    omega
end Go.Proofs.YtbcohdioapmlgaaDoor
