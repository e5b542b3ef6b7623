/-
  DERIVED. GIVEN WITH THE SEED: THE CARDS: each row of YtiebmmpnmklpnaaDoorRows.lean that lists a variable, with what it lists TIED to the program's text (the seventh form; the later family's looks); each row that meets fmt, with fmt's text TOLD by the authors' own Lean function (tested against real Go, not proved from fmt's source: count such statements apart). THE CARD IS WHAT COUNTS. Prove the row's statement (the work); the ties are given (YtiebmmpnmklpnaaDoorTie.lean); close each card by the builder's one call (the guide's Derived/Test/ToyasCard.lean, 'card_holds'). Laid BY PROGRAM, IN A SANDBOX (cutbox-door.mjs). By AI agents, Wed Nov 11 2026. No macro, syntax, notation, axiom, sorry.
-/
import Derived.Test.YtiebmmpnmklpnaaDoorRows
import GoSem.ClaimSeven
namespace Go.Proofs.YtiebmmpnmklpnaaDoor
namespace Rows

/-- THE TIED CARD OF 'concordlaw21.VerifyPlays'. -/
def verifyPlaysCard : Claim7 := { stood := { row := verifyPlaysRow, standIns := [], harness := (true, "75e63de38eb9d7afe63badbd1b21d84cd336d85bf6f1a5ae200c2bc033ccbc31"), looks := true }, kinds := [], alts := [], laidByText := true, laidKinds := [.sentinel, .sentinel, .sentinel, .sentinel, .sentinel, .sentinel, .sentinel, .sentinel, .sentinel, .sentinel, .sentinel, .sentinel, .sentinel, .sentinel, .sentinel, .sentinel, .sentinel, .sentinel, .sentinel, .sentinel, .sentinel, .sentinel, .sentinel, .sentinel, .data, .data], laidTests := true, laidLooks := .later }
def VerifyPlaysCardSaid : Prop := Claim7.holds Tryd.pinned (.plain (OpenSpec.ofChange verifyPlaysSpec)) verifyPlaysCard

/-- THE TIED CARD OF 'concordlaw21.VerifyMore'. -/
def verifyMoreCard : Claim7 := { stood := { row := verifyMoreRow, standIns := [], harness := (true, "75e63de38eb9d7afe63badbd1b21d84cd336d85bf6f1a5ae200c2bc033ccbc31"), looks := true }, kinds := [], alts := [], laidByText := true, laidKinds := [.sentinel, .sentinel, .sentinel, .sentinel, .sentinel, .sentinel, .sentinel, .sentinel, .sentinel, .sentinel, .sentinel, .sentinel, .sentinel, .sentinel, .sentinel, .sentinel, .sentinel, .sentinel, .sentinel, .sentinel, .sentinel, .sentinel, .sentinel, .sentinel, .data, .data], laidTests := true, laidLooks := .later }
def VerifyMoreCardSaid : Prop := Claim7.holds Tryd.pinned (.plain (OpenSpec.ofChange verifyMoreSpec)) verifyMoreCard

/-- THE TIED CARD OF 'concordlaw21.VerifyMemory'. -/
def verifyMemoryCard : Claim7 := { stood := { row := verifyMemoryRow, standIns := [], harness := (true, "75e63de38eb9d7afe63badbd1b21d84cd336d85bf6f1a5ae200c2bc033ccbc31"), looks := true }, kinds := [], alts := [], laidByText := true, laidKinds := [.sentinel, .sentinel, .sentinel, .sentinel, .sentinel, .sentinel, .sentinel, .sentinel, .sentinel, .sentinel, .sentinel, .sentinel, .sentinel, .sentinel, .sentinel, .sentinel, .sentinel, .sentinel, .sentinel, .sentinel, .sentinel, .sentinel, .sentinel, .sentinel, .data, .data], laidTests := true, laidLooks := .later }
def VerifyMemoryCardSaid : Prop := Claim7.holds Tryd.pinned (.plain (OpenSpec.ofChange verifyMemorySpec)) verifyMemoryCard

/-- THE SECOND FORM's CARD OF 'concordlaw21.VerifyPlays'. -/
def verifyPlaysUptoCard : Claim7 := { stood := { row := verifyPlaysUptoRow, standIns := [], harness := (true, "75e63de38eb9d7afe63badbd1b21d84cd336d85bf6f1a5ae200c2bc033ccbc31"), looks := true }, kinds := [], alts := [], laidByText := true, laidKinds := [.sentinel, .sentinel, .sentinel, .sentinel, .sentinel, .sentinel, .sentinel, .sentinel, .sentinel, .sentinel, .sentinel, .sentinel, .sentinel, .sentinel, .sentinel, .sentinel, .sentinel, .sentinel, .sentinel, .sentinel, .sentinel, .sentinel, .sentinel, .sentinel, .data, .data], laidTests := true, laidLooks := .later }
def VerifyPlaysUptoCardSaid : Prop := Claim7.holds Tryd.pinned (.plain (OpenSpec.upto verifyPlaysSpec)) verifyPlaysUptoCard

/-- THE SECOND FORM's CARD OF 'concordlaw21.VerifyMore'. -/
def verifyMoreUptoCard : Claim7 := { stood := { row := verifyMoreUptoRow, standIns := [], harness := (true, "75e63de38eb9d7afe63badbd1b21d84cd336d85bf6f1a5ae200c2bc033ccbc31"), looks := true }, kinds := [], alts := [], laidByText := true, laidKinds := [.sentinel, .sentinel, .sentinel, .sentinel, .sentinel, .sentinel, .sentinel, .sentinel, .sentinel, .sentinel, .sentinel, .sentinel, .sentinel, .sentinel, .sentinel, .sentinel, .sentinel, .sentinel, .sentinel, .sentinel, .sentinel, .sentinel, .sentinel, .sentinel, .data, .data], laidTests := true, laidLooks := .later }
def VerifyMoreUptoCardSaid : Prop := Claim7.holds Tryd.pinned (.plain (OpenSpec.upto verifyMoreSpec)) verifyMoreUptoCard

/-- THE SECOND FORM's CARD OF 'concordlaw21.VerifyMemory'. -/
def verifyMemoryUptoCard : Claim7 := { stood := { row := verifyMemoryUptoRow, standIns := [], harness := (true, "75e63de38eb9d7afe63badbd1b21d84cd336d85bf6f1a5ae200c2bc033ccbc31"), looks := true }, kinds := [], alts := [], laidByText := true, laidKinds := [.sentinel, .sentinel, .sentinel, .sentinel, .sentinel, .sentinel, .sentinel, .sentinel, .sentinel, .sentinel, .sentinel, .sentinel, .sentinel, .sentinel, .sentinel, .sentinel, .sentinel, .sentinel, .sentinel, .sentinel, .sentinel, .sentinel, .sentinel, .sentinel, .data, .data], laidTests := true, laidLooks := .later }
def VerifyMemoryUptoCardSaid : Prop := Claim7.holds Tryd.pinned (.plain (OpenSpec.upto verifyMemorySpec)) verifyMemoryUptoCard
end Rows
end Go.Proofs.YtiebmmpnmklpnaaDoor
