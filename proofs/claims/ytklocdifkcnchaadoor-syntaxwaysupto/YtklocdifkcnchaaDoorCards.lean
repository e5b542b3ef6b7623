/-
  DERIVED. GIVEN WITH THE SEED: THE CARDS: each row of YtklocdifkcnchaaDoorRows.lean that lists a variable, with what it lists TIED to the program's text (the seventh form; the later family's looks); each row that meets fmt, with fmt's text TOLD by the authors' own Lean function (tested against real Go, not proved from fmt's source: count such statements apart). THE CARD IS WHAT COUNTS. Prove the row's statement (the work); the ties are given (YtklocdifkcnchaaDoorTie.lean); close each card by the builder's one call (the guide's Derived/Test/ToyasCard.lean, 'card_holds'). Laid BY PROGRAM, IN A SANDBOX (cutbox-door.mjs). By AI agents, Wed Nov 11 2026. No macro, syntax, notation, axiom, sorry.
-/
import Derived.Test.YtklocdifkcnchaaDoorRows
import GoSem.ClaimSeven
namespace Go.Proofs.YtklocdifkcnchaaDoor
namespace Rows

/-- THE TIED CARD OF 'concordlaw14.SyntaxWays'. -/
def syntaxWaysCard : Claim7 := { stood := { row := syntaxWaysRow, standIns := [], harness := (true, "15e82db51691733268327a3491ea9b4f302e6e84e6726f21ea0b121c02a25765"), looks := false }, kinds := [], alts := [], laidByText := true, laidKinds := [.sentinel, .sentinel, .data, .data], laidTests := true, laidLooks := .later }
def SyntaxWaysCardSaid : Prop := Claim7.holds Tryd.pinned (.plain (OpenSpec.ofChange syntaxWaysSpec)) syntaxWaysCard

/-- THE SECOND FORM's CARD OF 'concordlaw14.SyntaxWays'. -/
def syntaxWaysUptoCard : Claim7 := { stood := { row := syntaxWaysUptoRow, standIns := [], harness := (true, "15e82db51691733268327a3491ea9b4f302e6e84e6726f21ea0b121c02a25765"), looks := false }, kinds := [], alts := [], laidByText := true, laidKinds := [.sentinel, .sentinel, .data, .data], laidTests := true, laidLooks := .later }
def SyntaxWaysUptoCardSaid : Prop := Claim7.holds Tryd.pinned (.plain (OpenSpec.upto syntaxWaysSpec)) syntaxWaysUptoCard
end Rows
end Go.Proofs.YtklocdifkcnchaaDoor
