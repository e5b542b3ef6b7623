/-
  DERIVED. GIVEN WITH THE SEED: THE CARDS: each row of YtacmmclamkhpcaaDoorRows.lean that lists a variable, with what it lists TIED to the program's text (the seventh form; the later family's looks); each row that meets fmt, with fmt's text TOLD by the authors' own Lean function (tested against real Go, not proved from fmt's source: count such statements apart). THE CARD IS WHAT COUNTS. Prove the row's statement (the work); the ties are given (YtacmmclamkhpcaaDoorTie.lean); close each card by the builder's one call (the guide's Derived/Test/ToyasCard.lean, 'card_holds'). Laid BY PROGRAM, IN A SANDBOX (cutbox-door.mjs). By AI agents, Wed Nov 11 2026. No macro, syntax, notation, axiom, sorry.
-/
import Derived.Test.YtacmmclamkhpcaaDoorRows
import GoSem.ClaimSeven
namespace Go.Proofs.YtacmmclamkhpcaaDoor
namespace Rows

/-- THE TIED CARD OF 'concordlaw07.AutoAccepts'. -/
def autoAcceptsCard : Claim7 := { stood := { row := autoAcceptsRow, standIns := [], harness := (true, "747a95af2fc5b24d98fc4dbfbff17f8358880c5912ca03f964362ac1047157a2"), looks := true }, kinds := [], alts := [], laidByText := true, laidKinds := [.sentinel, .sentinel, .sentinel, .sentinel, .sentinel, .sentinel, .sentinel, .sentinel, .sentinel, .sentinel, .sentinel, .sentinel, .sentinel, .sentinel, .sentinel, .sentinel, .sentinel, .sentinel, .sentinel, .sentinel, .sentinel, .sentinel, .sentinel, .sentinel], laidTests := true, laidLooks := .later }
def AutoAcceptsCardSaid : Prop := Claim7.holds Tryd.pinned (.plain (OpenSpec.ofChange autoAcceptsSpec)) autoAcceptsCard

/-- THE TIED CARD OF 'concordlaw07.AutoDead'. -/
def autoDeadCard : Claim7 := { stood := { row := autoDeadRow, standIns := [], harness := (true, "747a95af2fc5b24d98fc4dbfbff17f8358880c5912ca03f964362ac1047157a2"), looks := true }, kinds := [], alts := [], laidByText := true, laidKinds := [.sentinel, .sentinel, .sentinel, .sentinel, .sentinel, .sentinel, .sentinel, .sentinel, .sentinel, .sentinel, .sentinel, .sentinel, .sentinel, .sentinel, .sentinel, .sentinel, .sentinel, .sentinel, .sentinel, .sentinel, .sentinel, .sentinel, .sentinel, .sentinel], laidTests := true, laidLooks := .later }
def AutoDeadCardSaid : Prop := Claim7.holds Tryd.pinned (.plain (OpenSpec.ofChange autoDeadSpec)) autoDeadCard

/-- THE TIED CARD OF 'concordlaw07.AutoReaches'. -/
def autoReachesCard : Claim7 := { stood := { row := autoReachesRow, standIns := [], harness := (true, "747a95af2fc5b24d98fc4dbfbff17f8358880c5912ca03f964362ac1047157a2"), looks := true }, kinds := [], alts := [], laidByText := true, laidKinds := [.sentinel, .sentinel], laidTests := true, laidLooks := .later }
def AutoReachesCardSaid : Prop := Claim7.holds Tryd.pinned (.plain (OpenSpec.ofChange autoReachesSpec)) autoReachesCard

/-- THE TIED CARD OF 'concordlaw07.AutoPieces'. -/
def autoPiecesCard : Claim7 := { stood := { row := autoPiecesRow, standIns := [], harness := (true, "747a95af2fc5b24d98fc4dbfbff17f8358880c5912ca03f964362ac1047157a2"), looks := true }, kinds := [], alts := [], laidByText := true, laidKinds := [.sentinel], laidTests := true, laidLooks := .later }
def AutoPiecesCardSaid : Prop := Claim7.holds Tryd.pinned (.plain (OpenSpec.ofChange autoPiecesSpec)) autoPiecesCard

/-- THE SECOND FORM's CARD OF 'concordlaw07.AutoAccepts'. -/
def autoAcceptsUptoCard : Claim7 := { stood := { row := autoAcceptsUptoRow, standIns := [], harness := (true, "747a95af2fc5b24d98fc4dbfbff17f8358880c5912ca03f964362ac1047157a2"), looks := true }, kinds := [], alts := [], laidByText := true, laidKinds := [.sentinel, .sentinel, .sentinel, .sentinel, .sentinel, .sentinel, .sentinel, .sentinel, .sentinel, .sentinel, .sentinel, .sentinel, .sentinel, .sentinel, .sentinel, .sentinel, .sentinel, .sentinel, .sentinel, .sentinel, .sentinel, .sentinel, .sentinel, .sentinel], laidTests := true, laidLooks := .later }
def AutoAcceptsUptoCardSaid : Prop := Claim7.holds Tryd.pinned (.plain (OpenSpec.upto autoAcceptsSpec)) autoAcceptsUptoCard

/-- THE SECOND FORM's CARD OF 'concordlaw07.AutoDead'. -/
def autoDeadUptoCard : Claim7 := { stood := { row := autoDeadUptoRow, standIns := [], harness := (true, "747a95af2fc5b24d98fc4dbfbff17f8358880c5912ca03f964362ac1047157a2"), looks := true }, kinds := [], alts := [], laidByText := true, laidKinds := [.sentinel, .sentinel, .sentinel, .sentinel, .sentinel, .sentinel, .sentinel, .sentinel, .sentinel, .sentinel, .sentinel, .sentinel, .sentinel, .sentinel, .sentinel, .sentinel, .sentinel, .sentinel, .sentinel, .sentinel, .sentinel, .sentinel, .sentinel, .sentinel], laidTests := true, laidLooks := .later }
def AutoDeadUptoCardSaid : Prop := Claim7.holds Tryd.pinned (.plain (OpenSpec.upto autoDeadSpec)) autoDeadUptoCard

/-- THE SECOND FORM's CARD OF 'concordlaw07.AutoReaches'. -/
def autoReachesUptoCard : Claim7 := { stood := { row := autoReachesUptoRow, standIns := [], harness := (true, "747a95af2fc5b24d98fc4dbfbff17f8358880c5912ca03f964362ac1047157a2"), looks := true }, kinds := [], alts := [], laidByText := true, laidKinds := [.sentinel, .sentinel], laidTests := true, laidLooks := .later }
def AutoReachesUptoCardSaid : Prop := Claim7.holds Tryd.pinned (.plain (OpenSpec.upto autoReachesSpec)) autoReachesUptoCard

/-- THE SECOND FORM's CARD OF 'concordlaw07.AutoPieces'. -/
def autoPiecesUptoCard : Claim7 := { stood := { row := autoPiecesUptoRow, standIns := [], harness := (true, "747a95af2fc5b24d98fc4dbfbff17f8358880c5912ca03f964362ac1047157a2"), looks := true }, kinds := [], alts := [], laidByText := true, laidKinds := [.sentinel], laidTests := true, laidLooks := .later }
def AutoPiecesUptoCardSaid : Prop := Claim7.holds Tryd.pinned (.plain (OpenSpec.upto autoPiecesSpec)) autoPiecesUptoCard
end Rows
end Go.Proofs.YtacmmclamkhpcaaDoor
