/-
  DERIVED. GIVEN WITH THE SEED: THE CARDS: each row of YtfdbdkcifjpdaaaGreatDoorRows.lean that lists a variable, with what it lists TIED to the program's text (the seventh form; the later family's looks); each row that meets fmt, with fmt's text TOLD by the authors' own Lean function (tested against real Go, not proved from fmt's source: count such statements apart). THE CARD IS WHAT COUNTS. Prove the row's statement (the work); the ties are given (YtfdbdkcifjpdaaaGreatDoorTie.lean); close each card by the builder's one call (the guide's Derived/Test/ToyasCard.lean, 'card_holds'). Laid BY PROGRAM, IN A SANDBOX (cutbox-door.mjs). By AI agents, Wed Nov 11 2026. No macro, syntax, notation, axiom, sorry.
-/
import Derived.Test.YtfdbdkcifjpdaaaGreatDoorRows
import GoSem.ClaimSeven
namespace Go.Proofs.YtfdbdkcifjpdaaaGreatDoor
namespace Rows

/-- THE TIED CARD OF 'concordlaw09.CursorScan'. -/
def cursorScanCard : Claim7 := { stood := { row := cursorScanRow, standIns := [], harness := (true, "f310e540c4ebdc346618dbf9e55a305a62304a5adc791d76d8786e90526d3111"), looks := false }, kinds := [], alts := [], laidByText := true, laidKinds := [.sentinel, .sentinel, .sentinel, .sentinel, .sentinel, .sentinel, .sentinel], laidTests := true, laidLooks := .later }
def CursorScanCardSaid : Prop := Claim7.holds Tryz.pinned (.plain (OpenSpec.ofChange cursorScanSpec)) cursorScanCard

/-- THE SECOND FORM's CARD OF 'concordlaw09.CursorScan'. -/
def cursorScanUptoCard : Claim7 := { stood := { row := cursorScanUptoRow, standIns := [], harness := (true, "f310e540c4ebdc346618dbf9e55a305a62304a5adc791d76d8786e90526d3111"), looks := false }, kinds := [], alts := [], laidByText := true, laidKinds := [.sentinel, .sentinel, .sentinel, .sentinel, .sentinel, .sentinel, .sentinel], laidTests := true, laidLooks := .later }
def CursorScanUptoCardSaid : Prop := Claim7.holds Tryz.pinned (.plain (OpenSpec.upto cursorScanSpec)) cursorScanUptoCard
end Rows
end Go.Proofs.YtfdbdkcifjpdaaaGreatDoor
