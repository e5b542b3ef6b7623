/-
  DERIVED. GIVEN WITH THE SEED: THE CARDS: each row of YtnchamenhpppdaaDoorRows.lean that lists a variable, with what it lists TIED to the program's text (the seventh form; the later family's looks); each row that meets fmt, with fmt's text TOLD by the authors' own Lean function (tested against real Go, not proved from fmt's source: count such statements apart). THE CARD IS WHAT COUNTS. Prove the row's statement (the work); the ties are given (YtnchamenhpppdaaDoorTie.lean); close each card by the builder's one call (the guide's Derived/Test/ToyasCard.lean, 'card_holds'). Laid BY PROGRAM, IN A SANDBOX (cutbox-door.mjs). By AI agents, Wed Nov 11 2026. No macro, syntax, notation, axiom, sorry.
-/
import Derived.Test.YtnchamenhpppdaaDoorRows
import GoSem.ClaimSeven
namespace Go.Proofs.YtnchamenhpppdaaDoor
namespace Rows

/-- THE TIED CARD OF 'concordlaw04.SchemaNumbers'. -/
def schemaNumbersCard : Claim7 := { stood := { row := schemaNumbersRow, standIns := [], harness := (true, "bead94145ae57f22d434b3989cfea851242ac17f367af5b822db8e6c6cffc61f"), looks := true }, kinds := [], alts := [], laidByText := true, laidKinds := [.data, .data, .data, .sentinel, .sentinel], laidTests := true, laidLooks := .later }
def SchemaNumbersCardSaid : Prop := Claim7.holds Tryd.pinned (.plain (OpenSpec.ofChange schemaNumbersSpec)) schemaNumbersCard

/-- THE TIED CARD OF 'concordlaw04.SchemaDecimals'. -/
def schemaDecimalsCard : Claim7 := { stood := { row := schemaDecimalsRow, standIns := [], harness := (true, "bead94145ae57f22d434b3989cfea851242ac17f367af5b822db8e6c6cffc61f"), looks := true }, kinds := [], alts := [], laidByText := true, laidKinds := [.data, .data, .data, .sentinel, .sentinel], laidTests := true, laidLooks := .later }
def SchemaDecimalsCardSaid : Prop := Claim7.holds Tryd.pinned (.plain (OpenSpec.ofChange schemaDecimalsSpec)) schemaDecimalsCard

/-- THE SECOND FORM's CARD OF 'concordlaw04.SchemaNumbers'. -/
def schemaNumbersUptoCard : Claim7 := { stood := { row := schemaNumbersUptoRow, standIns := [], harness := (true, "bead94145ae57f22d434b3989cfea851242ac17f367af5b822db8e6c6cffc61f"), looks := true }, kinds := [], alts := [], laidByText := true, laidKinds := [.data, .data, .data, .sentinel, .sentinel], laidTests := true, laidLooks := .later }
def SchemaNumbersUptoCardSaid : Prop := Claim7.holds Tryd.pinned (.plain (OpenSpec.upto schemaNumbersSpec)) schemaNumbersUptoCard

/-- THE SECOND FORM's CARD OF 'concordlaw04.SchemaDecimals'. -/
def schemaDecimalsUptoCard : Claim7 := { stood := { row := schemaDecimalsUptoRow, standIns := [], harness := (true, "bead94145ae57f22d434b3989cfea851242ac17f367af5b822db8e6c6cffc61f"), looks := true }, kinds := [], alts := [], laidByText := true, laidKinds := [.data, .data, .data, .sentinel, .sentinel], laidTests := true, laidLooks := .later }
def SchemaDecimalsUptoCardSaid : Prop := Claim7.holds Tryd.pinned (.plain (OpenSpec.upto schemaDecimalsSpec)) schemaDecimalsUptoCard
end Rows
end Go.Proofs.YtnchamenhpppdaaDoor
