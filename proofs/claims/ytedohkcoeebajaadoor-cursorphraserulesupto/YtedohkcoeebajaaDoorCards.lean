/-
  DERIVED. GIVEN WITH THE SEED: THE CARDS: each row of YtedohkcoeebajaaDoorRows.lean that lists a variable, with what it lists TIED to the program's text (the seventh form; the later family's looks); each row that meets fmt, with fmt's text TOLD by the authors' own Lean function (tested against real Go, not proved from fmt's source: count such statements apart). THE CARD IS WHAT COUNTS. Prove the row's statement (the work); the ties are given (YtedohkcoeebajaaDoorTie.lean); close each card by the builder's one call (the guide's Derived/Test/ToyasCard.lean, 'card_holds'). Laid BY PROGRAM, IN A SANDBOX (cutbox-door.mjs). By AI agents, Wed Nov 11 2026. No macro, syntax, notation, axiom, sorry.
-/
import Derived.Test.YtedohkcoeebajaaDoorRows
import GoSem.ClaimSeven
namespace Go.Proofs.YtedohkcoeebajaaDoor
namespace Rows

/-- THE TIED CARD OF 'concordlaw09.CursorPhrase'. -/
def cursorPhraseCard : Claim7 := { stood := { row := cursorPhraseRow, standIns := [], harness := (true, "4a31e8a6ecdc530123e649669c10d666c32499c6219ca8fd5e9b40389d2ae7e4"), looks := false }, kinds := [], alts := [], laidByText := true, laidKinds := [.sentinel, .sentinel, .sentinel, .sentinel, .sentinel, .sentinel], laidTests := true, laidLooks := .later }
def CursorPhraseCardSaid : Prop := Claim7.holds Tryd.pinned (.plain (OpenSpec.ofChange cursorPhraseSpec)) cursorPhraseCard

/-- THE TIED CARD OF 'concordlaw09.CursorPhraseRules'. -/
def cursorPhraseRulesCard : Claim7 := { stood := { row := cursorPhraseRulesRow, standIns := [], harness := (true, "4a31e8a6ecdc530123e649669c10d666c32499c6219ca8fd5e9b40389d2ae7e4"), looks := false }, kinds := [], alts := [], laidByText := true, laidKinds := [.sentinel, .sentinel, .sentinel, .sentinel, .sentinel, .sentinel], laidTests := true, laidLooks := .later }
def CursorPhraseRulesCardSaid : Prop := Claim7.holds Tryd.pinned (.plain (OpenSpec.ofChange cursorPhraseRulesSpec)) cursorPhraseRulesCard

/-- THE SECOND FORM's CARD OF 'concordlaw09.CursorPhrase'. -/
def cursorPhraseUptoCard : Claim7 := { stood := { row := cursorPhraseUptoRow, standIns := [], harness := (true, "4a31e8a6ecdc530123e649669c10d666c32499c6219ca8fd5e9b40389d2ae7e4"), looks := false }, kinds := [], alts := [], laidByText := true, laidKinds := [.sentinel, .sentinel, .sentinel, .sentinel, .sentinel, .sentinel], laidTests := true, laidLooks := .later }
def CursorPhraseUptoCardSaid : Prop := Claim7.holds Tryd.pinned (.plain (OpenSpec.upto cursorPhraseSpec)) cursorPhraseUptoCard

/-- THE SECOND FORM's CARD OF 'concordlaw09.CursorPhraseRules'. -/
def cursorPhraseRulesUptoCard : Claim7 := { stood := { row := cursorPhraseRulesUptoRow, standIns := [], harness := (true, "4a31e8a6ecdc530123e649669c10d666c32499c6219ca8fd5e9b40389d2ae7e4"), looks := false }, kinds := [], alts := [], laidByText := true, laidKinds := [.sentinel, .sentinel, .sentinel, .sentinel, .sentinel, .sentinel], laidTests := true, laidLooks := .later }
def CursorPhraseRulesUptoCardSaid : Prop := Claim7.holds Tryd.pinned (.plain (OpenSpec.upto cursorPhraseRulesSpec)) cursorPhraseRulesUptoCard
end Rows
end Go.Proofs.YtedohkcoeebajaaDoor
