/-
  DERIVED. GIVEN WITH THE SEED: THE CARDS: each row of YtbdhmibiggpomaaDoorRows.lean that lists a variable, with what it lists TIED to the program's text (the seventh form; the later family's looks); each row that meets fmt, with fmt's text TOLD by the authors' own Lean function (tested against real Go, not proved from fmt's source: count such statements apart). THE CARD IS WHAT COUNTS. Prove the row's statement (the work); the ties are given (YtbdhmibiggpomaaDoorTie.lean); close each card by the builder's one call (the guide's Derived/Test/ToyasCard.lean, 'card_holds'). Laid BY PROGRAM, IN A SANDBOX (cutbox-door.mjs). By AI agents, Wed Nov 11 2026. No macro, syntax, notation, axiom, sorry.
-/
import Derived.Test.YtbdhmibiggpomaaDoorRows
import GoSem.ClaimSeven
namespace Go.Proofs.YtbdhmibiggpomaaDoor
namespace Rows

/-- THE TIED CARD OF 'concordlaw08.PostsDecodes'. -/
def postsDecodesCard : Claim7 := { stood := { row := postsDecodesRow, standIns := [], harness := (true, "a7824bf9b50b8c71b8e72b7e631be1659559682858387f6744a4dd5cbc21a1c8"), looks := true }, kinds := [], alts := [], laidByText := true, laidKinds := [.sentinel, .sentinel, .sentinel, .sentinel, .sentinel, .sentinel, .sentinel, .sentinel, .sentinel, .sentinel, .sentinel, .sentinel, .sentinel, .sentinel, .sentinel, .sentinel, .sentinel, .sentinel, .sentinel, .sentinel, .sentinel, .sentinel, .sentinel, .sentinel], laidTests := true, laidLooks := .later }
def PostsDecodesCardSaid : Prop := Claim7.holds Tryd.pinned (.plain (OpenSpec.ofChange postsDecodesSpec)) postsDecodesCard

/-- THE TIED CARD OF 'concordlaw09.CursorOpens'. -/
def cursorOpensCard : Claim7 := { stood := { row := cursorOpensRow, standIns := [], harness := (true, "a7824bf9b50b8c71b8e72b7e631be1659559682858387f6744a4dd5cbc21a1c8"), looks := true }, kinds := [], alts := [], laidByText := true, laidKinds := [.sentinel, .sentinel, .sentinel, .sentinel, .sentinel, .sentinel, .sentinel, .sentinel, .sentinel, .sentinel, .sentinel, .sentinel, .sentinel, .sentinel, .sentinel, .sentinel, .sentinel, .sentinel, .sentinel, .sentinel, .sentinel, .sentinel, .sentinel, .sentinel], laidTests := true, laidLooks := .later }
def CursorOpensCardSaid : Prop := Claim7.holds Tryd.pinned (.plain (OpenSpec.ofChange cursorOpensSpec)) cursorOpensCard

/-- THE SECOND FORM's CARD OF 'concordlaw08.PostsDecodes'. -/
def postsDecodesUptoCard : Claim7 := { stood := { row := postsDecodesUptoRow, standIns := [], harness := (true, "a7824bf9b50b8c71b8e72b7e631be1659559682858387f6744a4dd5cbc21a1c8"), looks := true }, kinds := [], alts := [], laidByText := true, laidKinds := [.sentinel, .sentinel, .sentinel, .sentinel, .sentinel, .sentinel, .sentinel, .sentinel, .sentinel, .sentinel, .sentinel, .sentinel, .sentinel, .sentinel, .sentinel, .sentinel, .sentinel, .sentinel, .sentinel, .sentinel, .sentinel, .sentinel, .sentinel, .sentinel], laidTests := true, laidLooks := .later }
def PostsDecodesUptoCardSaid : Prop := Claim7.holds Tryd.pinned (.plain (OpenSpec.upto postsDecodesSpec)) postsDecodesUptoCard

/-- THE SECOND FORM's CARD OF 'concordlaw09.CursorOpens'. -/
def cursorOpensUptoCard : Claim7 := { stood := { row := cursorOpensUptoRow, standIns := [], harness := (true, "a7824bf9b50b8c71b8e72b7e631be1659559682858387f6744a4dd5cbc21a1c8"), looks := true }, kinds := [], alts := [], laidByText := true, laidKinds := [.sentinel, .sentinel, .sentinel, .sentinel, .sentinel, .sentinel, .sentinel, .sentinel, .sentinel, .sentinel, .sentinel, .sentinel, .sentinel, .sentinel, .sentinel, .sentinel, .sentinel, .sentinel, .sentinel, .sentinel, .sentinel, .sentinel, .sentinel, .sentinel], laidTests := true, laidLooks := .later }
def CursorOpensUptoCardSaid : Prop := Claim7.holds Tryd.pinned (.plain (OpenSpec.upto cursorOpensSpec)) cursorOpensUptoCard
end Rows
end Go.Proofs.YtbdhmibiggpomaaDoor
