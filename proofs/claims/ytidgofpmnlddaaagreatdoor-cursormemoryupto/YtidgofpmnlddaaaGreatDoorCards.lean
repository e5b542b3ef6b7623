/-
  DERIVED. GIVEN WITH THE SEED: THE CARDS: each row of YtidgofpmnlddaaaGreatDoorRows.lean that lists a variable, with what it lists TIED to the program's text (the seventh form; the later family's looks); each row that meets fmt, with fmt's text TOLD by the authors' own Lean function (tested against real Go, not proved from fmt's source: count such statements apart). THE CARD IS WHAT COUNTS. Prove the row's statement (the work); the ties are given (YtidgofpmnlddaaaGreatDoorTie.lean); close each card by the builder's one call (the guide's Derived/Test/ToyasCard.lean, 'card_holds'). Laid BY PROGRAM, IN A SANDBOX (cutbox-door.mjs). By AI agents, Wed Nov 11 2026. No macro, syntax, notation, axiom, sorry.
-/
import Derived.Test.YtidgofpmnlddaaaGreatDoorRows
import GoSem.ClaimSeven
namespace Go.Proofs.YtidgofpmnlddaaaGreatDoor
namespace Rows

/-- THE TIED CARD OF 'concordlaw09.CursorMemory'. -/
def cursorMemoryCard : Claim7 := { stood := { row := cursorMemoryRow, standIns := [], harness := (true, "8ef3daf55cb3582cc38799685d26386f23eee22fb4fad089f9c6f971df455a8b"), looks := true }, kinds := [], alts := [], laidByText := true, laidKinds := [.sentinel, .sentinel, .sentinel, .sentinel, .sentinel, .sentinel, .sentinel, .sentinel, .sentinel, .sentinel, .sentinel, .sentinel, .sentinel, .sentinel, .sentinel, .sentinel, .sentinel, .sentinel, .sentinel, .sentinel, .sentinel, .sentinel, .sentinel, .sentinel], laidTests := true, laidLooks := .later }
def CursorMemoryCardSaid : Prop := Claim7.holds Tryz.pinned (.plain (OpenSpec.ofChange cursorMemorySpec)) cursorMemoryCard

/-- THE SECOND FORM's CARD OF 'concordlaw09.CursorMemory'. -/
def cursorMemoryUptoCard : Claim7 := { stood := { row := cursorMemoryUptoRow, standIns := [], harness := (true, "8ef3daf55cb3582cc38799685d26386f23eee22fb4fad089f9c6f971df455a8b"), looks := true }, kinds := [], alts := [], laidByText := true, laidKinds := [.sentinel, .sentinel, .sentinel, .sentinel, .sentinel, .sentinel, .sentinel, .sentinel, .sentinel, .sentinel, .sentinel, .sentinel, .sentinel, .sentinel, .sentinel, .sentinel, .sentinel, .sentinel, .sentinel, .sentinel, .sentinel, .sentinel, .sentinel, .sentinel], laidTests := true, laidLooks := .later }
def CursorMemoryUptoCardSaid : Prop := Claim7.holds Tryz.pinned (.plain (OpenSpec.upto cursorMemorySpec)) cursorMemoryUptoCard
end Rows
end Go.Proofs.YtidgofpmnlddaaaGreatDoor
