/-
  DERIVED. GIVEN WITH THE SEED: THE CARDS: each row of YtccchbadapdagaaDoorRows.lean that lists a variable, with what it lists TIED to the program's text (the seventh form; the later family's looks); each row that meets fmt, with fmt's text TOLD by the authors' own Lean function (tested against real Go, not proved from fmt's source: count such statements apart). THE CARD IS WHAT COUNTS. Prove the row's statement (the work); the ties are given (YtccchbadapdagaaDoorTie.lean); close each card by the builder's one call (the guide's Derived/Test/ToyasCard.lean, 'card_holds'). Laid BY PROGRAM, IN A SANDBOX (cutbox-door.mjs). By AI agents, Wed Nov 11 2026. No macro, syntax, notation, axiom, sorry.
-/
import Derived.Test.YtccchbadapdagaaDoorRows
import GoSem.ClaimSeven
namespace Go.Proofs.YtccchbadapdagaaDoor
namespace Rows

/-- THE TIED CARD OF 'concordlaw05.TokensStops'. -/
def tokensStopsCard : Claim7 := { stood := { row := tokensStopsRow, standIns := [], harness := (true, "9081211113cae2b6bc78277c916e418d5a88e7bf37e59063cb7e96be496dd788"), looks := false }, kinds := [], alts := [], laidByText := true, laidKinds := [.data], laidTests := true, laidLooks := .later }
def TokensStopsCardSaid : Prop := Claim7.holds Tryd.pinned (.plain (OpenSpec.ofChange tokensStopsSpec)) tokensStopsCard

/-- THE SECOND FORM's CARD OF 'concordlaw05.TokensStops'. -/
def tokensStopsUptoCard : Claim7 := { stood := { row := tokensStopsUptoRow, standIns := [], harness := (true, "9081211113cae2b6bc78277c916e418d5a88e7bf37e59063cb7e96be496dd788"), looks := false }, kinds := [], alts := [], laidByText := true, laidKinds := [.data], laidTests := true, laidLooks := .later }
def TokensStopsUptoCardSaid : Prop := Claim7.holds Tryd.pinned (.plain (OpenSpec.upto tokensStopsSpec)) tokensStopsUptoCard
end Rows
end Go.Proofs.YtccchbadapdagaaDoor
