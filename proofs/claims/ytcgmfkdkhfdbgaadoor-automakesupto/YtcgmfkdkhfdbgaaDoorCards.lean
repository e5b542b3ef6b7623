/-
  DERIVED. GIVEN WITH THE SEED: THE CARDS: each row of YtcgmfkdkhfdbgaaDoorRows.lean that lists a variable, with what it lists TIED to the program's text (the seventh form; the later family's looks); each row that meets fmt, with fmt's text TOLD by the authors' own Lean function (tested against real Go, not proved from fmt's source: count such statements apart). THE CARD IS WHAT COUNTS. Prove the row's statement (the work); the ties are given (YtcgmfkdkhfdbgaaDoorTie.lean); close each card by the builder's one call (the guide's Derived/Test/ToyasCard.lean, 'card_holds'). Laid BY PROGRAM, IN A SANDBOX (cutbox-door.mjs). By AI agents, Wed Nov 11 2026. No macro, syntax, notation, axiom, sorry.
-/
import Derived.Test.YtcgmfkdkhfdbgaaDoorRows
import GoSem.ClaimSeven
namespace Go.Proofs.YtcgmfkdkhfdbgaaDoor
namespace Rows

/-- THE TIED CARD OF 'concordlaw07.AutoMakes'. -/
def autoMakesCard : Claim7 := { stood := { row := autoMakesRow, standIns := [], harness := (true, "352e169c9592d220e56407d6dc4437c05c2021a99e212720ab58247adf72675f"), looks := true }, kinds := [], alts := [], laidByText := true, laidKinds := [.sentinel, .sentinel, .sentinel, .sentinel, .sentinel, .sentinel, .sentinel, .sentinel, .sentinel, .sentinel, .sentinel, .sentinel, .sentinel, .sentinel, .sentinel, .sentinel, .sentinel, .sentinel, .sentinel, .sentinel, .sentinel, .sentinel, .sentinel, .sentinel], laidTests := true, laidLooks := .later }
def AutoMakesCardSaid : Prop := Claim7.holds Tryd.pinned (.plain (OpenSpec.ofChange autoMakesSpec)) autoMakesCard

/-- THE TIED CARD OF 'concordlaw07.AutoDead'. -/
def autoDeadCard : Claim7 := { stood := { row := autoDeadRow, standIns := [], harness := (true, "352e169c9592d220e56407d6dc4437c05c2021a99e212720ab58247adf72675f"), looks := true }, kinds := [], alts := [], laidByText := true, laidKinds := [.sentinel, .sentinel, .sentinel, .sentinel, .sentinel, .sentinel, .sentinel, .sentinel, .sentinel, .sentinel, .sentinel, .sentinel, .sentinel, .sentinel, .sentinel, .sentinel, .sentinel, .sentinel, .sentinel, .sentinel, .sentinel, .sentinel, .sentinel, .sentinel], laidTests := true, laidLooks := .later }
def AutoDeadCardSaid : Prop := Claim7.holds Tryd.pinned (.plain (OpenSpec.ofChange autoDeadSpec)) autoDeadCard

/-- THE TIED CARD OF 'concordlaw07.AutoReaches'. -/
def autoReachesCard : Claim7 := { stood := { row := autoReachesRow, standIns := [], harness := (true, "352e169c9592d220e56407d6dc4437c05c2021a99e212720ab58247adf72675f"), looks := true }, kinds := [], alts := [], laidByText := true, laidKinds := [.sentinel, .sentinel], laidTests := true, laidLooks := .later }
def AutoReachesCardSaid : Prop := Claim7.holds Tryd.pinned (.plain (OpenSpec.ofChange autoReachesSpec)) autoReachesCard

/-- THE TIED CARD OF 'concordlaw07.AutoPieces'. -/
def autoPiecesCard : Claim7 := { stood := { row := autoPiecesRow, standIns := [], harness := (true, "352e169c9592d220e56407d6dc4437c05c2021a99e212720ab58247adf72675f"), looks := true }, kinds := [], alts := [], laidByText := true, laidKinds := [.sentinel], laidTests := true, laidLooks := .later }
def AutoPiecesCardSaid : Prop := Claim7.holds Tryd.pinned (.plain (OpenSpec.ofChange autoPiecesSpec)) autoPiecesCard

/-- THE SECOND FORM's CARD OF 'concordlaw07.AutoMakes'. -/
def autoMakesUptoCard : Claim7 := { stood := { row := autoMakesUptoRow, standIns := [], harness := (true, "352e169c9592d220e56407d6dc4437c05c2021a99e212720ab58247adf72675f"), looks := true }, kinds := [], alts := [], laidByText := true, laidKinds := [.sentinel, .sentinel, .sentinel, .sentinel, .sentinel, .sentinel, .sentinel, .sentinel, .sentinel, .sentinel, .sentinel, .sentinel, .sentinel, .sentinel, .sentinel, .sentinel, .sentinel, .sentinel, .sentinel, .sentinel, .sentinel, .sentinel, .sentinel, .sentinel], laidTests := true, laidLooks := .later }
def AutoMakesUptoCardSaid : Prop := Claim7.holds Tryd.pinned (.plain (OpenSpec.upto autoMakesSpec)) autoMakesUptoCard

/-- THE SECOND FORM's CARD OF 'concordlaw07.AutoDead'. -/
def autoDeadUptoCard : Claim7 := { stood := { row := autoDeadUptoRow, standIns := [], harness := (true, "352e169c9592d220e56407d6dc4437c05c2021a99e212720ab58247adf72675f"), looks := true }, kinds := [], alts := [], laidByText := true, laidKinds := [.sentinel, .sentinel, .sentinel, .sentinel, .sentinel, .sentinel, .sentinel, .sentinel, .sentinel, .sentinel, .sentinel, .sentinel, .sentinel, .sentinel, .sentinel, .sentinel, .sentinel, .sentinel, .sentinel, .sentinel, .sentinel, .sentinel, .sentinel, .sentinel], laidTests := true, laidLooks := .later }
def AutoDeadUptoCardSaid : Prop := Claim7.holds Tryd.pinned (.plain (OpenSpec.upto autoDeadSpec)) autoDeadUptoCard

/-- THE SECOND FORM's CARD OF 'concordlaw07.AutoReaches'. -/
def autoReachesUptoCard : Claim7 := { stood := { row := autoReachesUptoRow, standIns := [], harness := (true, "352e169c9592d220e56407d6dc4437c05c2021a99e212720ab58247adf72675f"), looks := true }, kinds := [], alts := [], laidByText := true, laidKinds := [.sentinel, .sentinel], laidTests := true, laidLooks := .later }
def AutoReachesUptoCardSaid : Prop := Claim7.holds Tryd.pinned (.plain (OpenSpec.upto autoReachesSpec)) autoReachesUptoCard

/-- THE SECOND FORM's CARD OF 'concordlaw07.AutoPieces'. -/
def autoPiecesUptoCard : Claim7 := { stood := { row := autoPiecesUptoRow, standIns := [], harness := (true, "352e169c9592d220e56407d6dc4437c05c2021a99e212720ab58247adf72675f"), looks := true }, kinds := [], alts := [], laidByText := true, laidKinds := [.sentinel], laidTests := true, laidLooks := .later }
def AutoPiecesUptoCardSaid : Prop := Claim7.holds Tryd.pinned (.plain (OpenSpec.upto autoPiecesSpec)) autoPiecesUptoCard
end Rows
end Go.Proofs.YtcgmfkdkhfdbgaaDoor
