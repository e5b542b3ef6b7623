/-
  DERIVED. GIVEN WITH THE SEED: THE CARDS: each row of YtbhmppgcidbehaaDoorRows.lean that lists a variable, with what it lists TIED to the program's text (the seventh form; the later family's looks); each row that meets fmt, with fmt's text TOLD by the authors' own Lean function (tested against real Go, not proved from fmt's source: count such statements apart). THE CARD IS WHAT COUNTS. Prove the row's statement (the work); the ties are given (YtbhmppgcidbehaaDoorTie.lean); close each card by the builder's one call (the guide's Derived/Test/ToyasCard.lean, 'card_holds'). Laid BY PROGRAM, IN A SANDBOX (cutbox-door.mjs). By AI agents, Wed Nov 11 2026. No macro, syntax, notation, axiom, sorry.
-/
import Derived.Test.YtbhmppgcidbehaaDoorRows
import GoSem.ClaimSeven
namespace Go.Proofs.YtbhmppgcidbehaaDoor
namespace Rows

/-- THE TIED CARD OF 'concordlaw06.DictRefuses'. -/
def dictRefusesCard : Claim7 := { stood := { row := dictRefusesRow, standIns := [], harness := (true, "dec98681495aaf8b8505f592d9c42b39113476b9f232aaab75536aab8e4d96d8"), looks := true }, kinds := [], alts := [], laidByText := true, laidKinds := [.sentinel, .sentinel, .sentinel, .sentinel, .sentinel, .sentinel, .sentinel, .sentinel, .sentinel, .sentinel, .sentinel, .sentinel, .sentinel, .sentinel, .sentinel, .sentinel, .sentinel, .sentinel, .sentinel, .sentinel, .sentinel, .sentinel, .sentinel, .sentinel], laidTests := true, laidLooks := .later }
def DictRefusesCardSaid : Prop := Claim7.holds Tryd.pinned (.plain (OpenSpec.ofChange dictRefusesSpec)) dictRefusesCard

/-- THE SECOND FORM's CARD OF 'concordlaw06.DictRefuses'. -/
def dictRefusesUptoCard : Claim7 := { stood := { row := dictRefusesUptoRow, standIns := [], harness := (true, "dec98681495aaf8b8505f592d9c42b39113476b9f232aaab75536aab8e4d96d8"), looks := true }, kinds := [], alts := [], laidByText := true, laidKinds := [.sentinel, .sentinel, .sentinel, .sentinel, .sentinel, .sentinel, .sentinel, .sentinel, .sentinel, .sentinel, .sentinel, .sentinel, .sentinel, .sentinel, .sentinel, .sentinel, .sentinel, .sentinel, .sentinel, .sentinel, .sentinel, .sentinel, .sentinel, .sentinel], laidTests := true, laidLooks := .later }
def DictRefusesUptoCardSaid : Prop := Claim7.holds Tryd.pinned (.plain (OpenSpec.upto dictRefusesSpec)) dictRefusesUptoCard
end Rows
end Go.Proofs.YtbhmppgcidbehaaDoor
