/-
  DERIVED. GIVEN WITH THE SEED: THE CARDS: each row of YtcbhgpdookappaaDoorRows.lean that lists a variable, with what it lists TIED to the program's text (the seventh form; the later family's looks); each row that meets fmt, with fmt's text TOLD by the authors' own Lean function (tested against real Go, not proved from fmt's source: count such statements apart). THE CARD IS WHAT COUNTS. Prove the row's statement (the work); the ties are given (YtcbhgpdookappaaDoorTie.lean); close each card by the builder's one call (the guide's Derived/Test/ToyasCard.lean, 'card_holds'). Laid BY PROGRAM, IN A SANDBOX (cutbox-door.mjs). By AI agents, Wed Nov 11 2026. No macro, syntax, notation, axiom, sorry.
-/
import Derived.Test.YtcbhgpdookappaaDoorRows
import GoSem.ClaimSeven
namespace Go.Proofs.YtcbhgpdookappaaDoor
namespace Rows

/-- THE TIED CARD OF 'concordlaw03.DocsetOneForm'. -/
def docsetOneFormCard : Claim7 := { stood := { row := docsetOneFormRow, standIns := [], harness := (true, "845a598af5112897ab5af96d91ce608608bae733ccdb1775a66c85f4d0f8f21d"), looks := true }, kinds := [], alts := [], laidByText := true, laidKinds := [.data, .sentinel, .sentinel, .sentinel, .sentinel, .sentinel, .sentinel, .sentinel, .sentinel, .sentinel, .sentinel, .sentinel, .sentinel, .sentinel, .sentinel, .sentinel, .sentinel, .sentinel, .sentinel, .sentinel, .sentinel, .sentinel, .sentinel, .sentinel, .sentinel], laidTests := true, laidLooks := .later }
def DocsetOneFormCardSaid : Prop := Claim7.holds Tryd.pinned (.plain (OpenSpec.ofChange docsetOneFormSpec)) docsetOneFormCard

/-- THE TIED CARD OF 'concordlaw03.DocsetRanks'. -/
def docsetRanksCard : Claim7 := { stood := { row := docsetRanksRow, standIns := [], harness := (true, "845a598af5112897ab5af96d91ce608608bae733ccdb1775a66c85f4d0f8f21d"), looks := true }, kinds := [], alts := [], laidByText := true, laidKinds := [.data, .sentinel, .sentinel, .sentinel, .sentinel, .sentinel, .sentinel, .sentinel, .sentinel, .sentinel, .sentinel, .sentinel, .sentinel, .sentinel, .sentinel, .sentinel, .sentinel, .sentinel, .sentinel, .sentinel, .sentinel, .sentinel, .sentinel, .sentinel, .sentinel], laidTests := true, laidLooks := .later }
def DocsetRanksCardSaid : Prop := Claim7.holds Tryd.pinned (.plain (OpenSpec.ofChange docsetRanksSpec)) docsetRanksCard

/-- THE TIED CARD OF 'concordlaw03.DocsetAlgebra'. -/
def docsetAlgebraCard : Claim7 := { stood := { row := docsetAlgebraRow, standIns := [], harness := (true, "845a598af5112897ab5af96d91ce608608bae733ccdb1775a66c85f4d0f8f21d"), looks := true }, kinds := [], alts := [], laidByText := true, laidKinds := [.data, .sentinel, .sentinel, .sentinel, .sentinel, .sentinel, .sentinel, .sentinel, .sentinel, .sentinel, .sentinel, .sentinel, .sentinel, .sentinel, .sentinel, .sentinel, .sentinel, .sentinel, .sentinel, .sentinel, .sentinel, .sentinel, .sentinel, .sentinel, .sentinel], laidTests := true, laidLooks := .later }
def DocsetAlgebraCardSaid : Prop := Claim7.holds Tryd.pinned (.plain (OpenSpec.ofChange docsetAlgebraSpec)) docsetAlgebraCard

/-- THE TIED CARD OF 'concordlaw03.DocsetCanon'. -/
def docsetCanonCard : Claim7 := { stood := { row := docsetCanonRow, standIns := [], harness := (true, "845a598af5112897ab5af96d91ce608608bae733ccdb1775a66c85f4d0f8f21d"), looks := true }, kinds := [], alts := [], laidByText := true, laidKinds := [.data, .sentinel, .sentinel, .sentinel, .sentinel, .sentinel, .sentinel, .sentinel, .sentinel, .sentinel, .sentinel, .sentinel, .sentinel, .sentinel, .sentinel, .sentinel, .sentinel, .sentinel, .sentinel, .sentinel, .sentinel, .sentinel, .sentinel, .sentinel, .sentinel], laidTests := true, laidLooks := .later }
def DocsetCanonCardSaid : Prop := Claim7.holds Tryd.pinned (.plain (OpenSpec.ofChange docsetCanonSpec)) docsetCanonCard

/-- THE TIED CARD OF 'concordlaw03.DocsetIters'. -/
def docsetItersCard : Claim7 := { stood := { row := docsetItersRow, standIns := [], harness := (true, "845a598af5112897ab5af96d91ce608608bae733ccdb1775a66c85f4d0f8f21d"), looks := true }, kinds := [], alts := [], laidByText := true, laidKinds := [.data, .sentinel, .sentinel, .sentinel, .sentinel, .sentinel, .sentinel, .sentinel, .sentinel, .sentinel, .sentinel, .sentinel, .sentinel, .sentinel, .sentinel, .sentinel, .sentinel, .sentinel, .sentinel, .sentinel, .sentinel, .sentinel, .sentinel, .sentinel, .sentinel], laidTests := true, laidLooks := .later }
def DocsetItersCardSaid : Prop := Claim7.holds Tryd.pinned (.plain (OpenSpec.ofChange docsetItersSpec)) docsetItersCard

/-- THE SECOND FORM's CARD OF 'concordlaw03.DocsetOneForm'. -/
def docsetOneFormUptoCard : Claim7 := { stood := { row := docsetOneFormUptoRow, standIns := [], harness := (true, "845a598af5112897ab5af96d91ce608608bae733ccdb1775a66c85f4d0f8f21d"), looks := true }, kinds := [], alts := [], laidByText := true, laidKinds := [.data, .sentinel, .sentinel, .sentinel, .sentinel, .sentinel, .sentinel, .sentinel, .sentinel, .sentinel, .sentinel, .sentinel, .sentinel, .sentinel, .sentinel, .sentinel, .sentinel, .sentinel, .sentinel, .sentinel, .sentinel, .sentinel, .sentinel, .sentinel, .sentinel], laidTests := true, laidLooks := .later }
def DocsetOneFormUptoCardSaid : Prop := Claim7.holds Tryd.pinned (.plain (OpenSpec.upto docsetOneFormSpec)) docsetOneFormUptoCard

/-- THE SECOND FORM's CARD OF 'concordlaw03.DocsetRanks'. -/
def docsetRanksUptoCard : Claim7 := { stood := { row := docsetRanksUptoRow, standIns := [], harness := (true, "845a598af5112897ab5af96d91ce608608bae733ccdb1775a66c85f4d0f8f21d"), looks := true }, kinds := [], alts := [], laidByText := true, laidKinds := [.data, .sentinel, .sentinel, .sentinel, .sentinel, .sentinel, .sentinel, .sentinel, .sentinel, .sentinel, .sentinel, .sentinel, .sentinel, .sentinel, .sentinel, .sentinel, .sentinel, .sentinel, .sentinel, .sentinel, .sentinel, .sentinel, .sentinel, .sentinel, .sentinel], laidTests := true, laidLooks := .later }
def DocsetRanksUptoCardSaid : Prop := Claim7.holds Tryd.pinned (.plain (OpenSpec.upto docsetRanksSpec)) docsetRanksUptoCard

/-- THE SECOND FORM's CARD OF 'concordlaw03.DocsetAlgebra'. -/
def docsetAlgebraUptoCard : Claim7 := { stood := { row := docsetAlgebraUptoRow, standIns := [], harness := (true, "845a598af5112897ab5af96d91ce608608bae733ccdb1775a66c85f4d0f8f21d"), looks := true }, kinds := [], alts := [], laidByText := true, laidKinds := [.data, .sentinel, .sentinel, .sentinel, .sentinel, .sentinel, .sentinel, .sentinel, .sentinel, .sentinel, .sentinel, .sentinel, .sentinel, .sentinel, .sentinel, .sentinel, .sentinel, .sentinel, .sentinel, .sentinel, .sentinel, .sentinel, .sentinel, .sentinel, .sentinel], laidTests := true, laidLooks := .later }
def DocsetAlgebraUptoCardSaid : Prop := Claim7.holds Tryd.pinned (.plain (OpenSpec.upto docsetAlgebraSpec)) docsetAlgebraUptoCard

/-- THE SECOND FORM's CARD OF 'concordlaw03.DocsetCanon'. -/
def docsetCanonUptoCard : Claim7 := { stood := { row := docsetCanonUptoRow, standIns := [], harness := (true, "845a598af5112897ab5af96d91ce608608bae733ccdb1775a66c85f4d0f8f21d"), looks := true }, kinds := [], alts := [], laidByText := true, laidKinds := [.data, .sentinel, .sentinel, .sentinel, .sentinel, .sentinel, .sentinel, .sentinel, .sentinel, .sentinel, .sentinel, .sentinel, .sentinel, .sentinel, .sentinel, .sentinel, .sentinel, .sentinel, .sentinel, .sentinel, .sentinel, .sentinel, .sentinel, .sentinel, .sentinel], laidTests := true, laidLooks := .later }
def DocsetCanonUptoCardSaid : Prop := Claim7.holds Tryd.pinned (.plain (OpenSpec.upto docsetCanonSpec)) docsetCanonUptoCard

/-- THE SECOND FORM's CARD OF 'concordlaw03.DocsetIters'. -/
def docsetItersUptoCard : Claim7 := { stood := { row := docsetItersUptoRow, standIns := [], harness := (true, "845a598af5112897ab5af96d91ce608608bae733ccdb1775a66c85f4d0f8f21d"), looks := true }, kinds := [], alts := [], laidByText := true, laidKinds := [.data, .sentinel, .sentinel, .sentinel, .sentinel, .sentinel, .sentinel, .sentinel, .sentinel, .sentinel, .sentinel, .sentinel, .sentinel, .sentinel, .sentinel, .sentinel, .sentinel, .sentinel, .sentinel, .sentinel, .sentinel, .sentinel, .sentinel, .sentinel, .sentinel], laidTests := true, laidLooks := .later }
def DocsetItersUptoCardSaid : Prop := Claim7.holds Tryd.pinned (.plain (OpenSpec.upto docsetItersSpec)) docsetItersUptoCard
end Rows
end Go.Proofs.YtcbhgpdookappaaDoor
