/-
  DERIVED. GIVEN WITH THE SEED: THE CARDS: each row of YtopmdpfnigceeaaDoorRows.lean that lists a variable, with what it lists TIED to the program's text (the seventh form; the later family's looks); each row that meets fmt, with fmt's text TOLD by the authors' own Lean function (tested against real Go, not proved from fmt's source: count such statements apart). THE CARD IS WHAT COUNTS. Prove the row's statement (the work); the ties are given (YtopmdpfnigceeaaDoorTie.lean); close each card by the builder's one call (the guide's Derived/Test/ToyasCard.lean, 'card_holds'). Laid BY PROGRAM, IN A SANDBOX (cutbox-door.mjs). By AI agents, Wed Nov 11 2026. No macro, syntax, notation, axiom, sorry.
-/
import Derived.Test.YtopmdpfnigceeaaDoorRows
import GoSem.ClaimSeven
namespace Go.Proofs.YtopmdpfnigceeaaDoor
namespace Rows

/-- THE TIED CARD OF 'concordlaw01.CodecBack'. -/
def codecBackCard : Claim7 := { stood := { row := codecBackRow, standIns := [], harness := (true, "afb743edf04310ff1891a86c47a0492cdc2bed59225d0c47914fe4ae9a33e125"), looks := true }, kinds := [], alts := [], laidByText := true, laidKinds := [.sentinel, .sentinel, .sentinel, .sentinel, .sentinel, .sentinel], laidTests := true, laidLooks := .later }
def CodecBackCardSaid : Prop := Claim7.holds Tryd.pinned (.plain (OpenSpec.ofChange codecBackSpec)) codecBackCard

/-- THE TIED CARD OF 'concordlaw01.CodecOneForm'. -/
def codecOneFormCard : Claim7 := { stood := { row := codecOneFormRow, standIns := [], harness := (true, "afb743edf04310ff1891a86c47a0492cdc2bed59225d0c47914fe4ae9a33e125"), looks := true }, kinds := [], alts := [], laidByText := true, laidKinds := [.sentinel, .sentinel, .sentinel, .sentinel, .sentinel], laidTests := true, laidLooks := .later }
def CodecOneFormCardSaid : Prop := Claim7.holds Tryd.pinned (.plain (OpenSpec.ofChange codecOneFormSpec)) codecOneFormCard

/-- THE TIED CARD OF 'concordlaw01.CodecPrefix'. -/
def codecPrefixCard : Claim7 := { stood := { row := codecPrefixRow, standIns := [], harness := (true, "afb743edf04310ff1891a86c47a0492cdc2bed59225d0c47914fe4ae9a33e125"), looks := true }, kinds := [], alts := [], laidByText := true, laidKinds := [.sentinel, .sentinel, .sentinel, .sentinel, .sentinel], laidTests := true, laidLooks := .later }
def CodecPrefixCardSaid : Prop := Claim7.holds Tryd.pinned (.plain (OpenSpec.ofChange codecPrefixSpec)) codecPrefixCard

/-- THE SECOND FORM's CARD OF 'concordlaw01.CodecBack'. -/
def codecBackUptoCard : Claim7 := { stood := { row := codecBackUptoRow, standIns := [], harness := (true, "afb743edf04310ff1891a86c47a0492cdc2bed59225d0c47914fe4ae9a33e125"), looks := true }, kinds := [], alts := [], laidByText := true, laidKinds := [.sentinel, .sentinel, .sentinel, .sentinel, .sentinel, .sentinel], laidTests := true, laidLooks := .later }
def CodecBackUptoCardSaid : Prop := Claim7.holds Tryd.pinned (.plain (OpenSpec.upto codecBackSpec)) codecBackUptoCard

/-- THE SECOND FORM's CARD OF 'concordlaw01.CodecOneForm'. -/
def codecOneFormUptoCard : Claim7 := { stood := { row := codecOneFormUptoRow, standIns := [], harness := (true, "afb743edf04310ff1891a86c47a0492cdc2bed59225d0c47914fe4ae9a33e125"), looks := true }, kinds := [], alts := [], laidByText := true, laidKinds := [.sentinel, .sentinel, .sentinel, .sentinel, .sentinel], laidTests := true, laidLooks := .later }
def CodecOneFormUptoCardSaid : Prop := Claim7.holds Tryd.pinned (.plain (OpenSpec.upto codecOneFormSpec)) codecOneFormUptoCard

/-- THE SECOND FORM's CARD OF 'concordlaw01.CodecPrefix'. -/
def codecPrefixUptoCard : Claim7 := { stood := { row := codecPrefixUptoRow, standIns := [], harness := (true, "afb743edf04310ff1891a86c47a0492cdc2bed59225d0c47914fe4ae9a33e125"), looks := true }, kinds := [], alts := [], laidByText := true, laidKinds := [.sentinel, .sentinel, .sentinel, .sentinel, .sentinel], laidTests := true, laidLooks := .later }
def CodecPrefixUptoCardSaid : Prop := Claim7.holds Tryd.pinned (.plain (OpenSpec.upto codecPrefixSpec)) codecPrefixUptoCard
end Rows
end Go.Proofs.YtopmdpfnigceeaaDoor
