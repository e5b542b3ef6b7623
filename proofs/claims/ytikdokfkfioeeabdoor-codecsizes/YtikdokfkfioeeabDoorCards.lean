/-
  DERIVED. GIVEN WITH THE SEED: THE CARDS: each row of YtikdokfkfioeeabDoorRows.lean that lists a variable, with what it lists TIED to the program's text (the seventh form; the later family's looks); each row that meets fmt, with fmt's text TOLD by the authors' own Lean function (tested against real Go, not proved from fmt's source: count such statements apart). THE CARD IS WHAT COUNTS. Prove the row's statement (the work); the ties are given (YtikdokfkfioeeabDoorTie.lean); close each card by the builder's one call (the guide's Derived/Test/ToyasCard.lean, 'card_holds'). Laid BY PROGRAM, IN A SANDBOX (cutbox-door.mjs). By AI agents, Wed Nov 11 2026. No macro, syntax, notation, axiom, sorry.
-/
import Derived.Test.YtikdokfkfioeeabDoorRows
import GoSem.ClaimSeven
namespace Go.Proofs.YtikdokfkfioeeabDoor
namespace Rows

/-- THE TIED CARD OF 'concordlaw01.CodecPrefix'. -/
def codecPrefixCard : Claim7 := { stood := { row := codecPrefixRow, standIns := [], harness := (true, "9f0f0c5e9aaa6adbbdc804d964c0a82e2d133edd1f785a12b49e1535638f8a81"), looks := true }, kinds := [], alts := [], laidByText := true, laidKinds := [.sentinel, .sentinel, .sentinel, .sentinel, .sentinel], laidTests := true, laidLooks := .later }
def CodecPrefixCardSaid : Prop := Claim7.holds Tryd.pinned (.plain (OpenSpec.ofChange codecPrefixSpec)) codecPrefixCard

/-- THE TIED CARD OF 'concordlaw01.CodecSizes'. -/
def codecSizesCard : Claim7 := { stood := { row := codecSizesRow, standIns := [], harness := (true, "9f0f0c5e9aaa6adbbdc804d964c0a82e2d133edd1f785a12b49e1535638f8a81"), looks := true }, kinds := [], alts := [], laidByText := true, laidKinds := [.sentinel, .sentinel, .sentinel, .sentinel, .sentinel], laidTests := true, laidLooks := .later }
def CodecSizesCardSaid : Prop := Claim7.holds Tryd.pinned (.plain (OpenSpec.ofChange codecSizesSpec)) codecSizesCard

/-- THE TIED CARD OF 'concordlaw01.CodecTwice'. -/
def codecTwiceCard : Claim7 := { stood := { row := codecTwiceRow, standIns := [], harness := (true, "9f0f0c5e9aaa6adbbdc804d964c0a82e2d133edd1f785a12b49e1535638f8a81"), looks := true }, kinds := [], alts := [], laidByText := true, laidKinds := [.sentinel, .sentinel, .sentinel, .sentinel, .sentinel], laidTests := true, laidLooks := .later }
def CodecTwiceCardSaid : Prop := Claim7.holds Tryd.pinned (.plain (OpenSpec.ofChange codecTwiceSpec)) codecTwiceCard

/-- THE TIED CARD OF 'concordtop.WholeNames'. -/
def wholeNamesCard : Claim7 := { stood := { row := wholeNamesRow, standIns := [], harness := (true, "9f0f0c5e9aaa6adbbdc804d964c0a82e2d133edd1f785a12b49e1535638f8a81"), looks := true }, kinds := [], alts := [], laidByText := true, laidKinds := [.sentinel, .sentinel, .sentinel, .sentinel, .sentinel, .sentinel, .sentinel, .sentinel, .sentinel, .sentinel, .sentinel, .sentinel, .sentinel, .sentinel, .sentinel, .sentinel, .sentinel, .sentinel, .sentinel, .sentinel, .sentinel, .sentinel, .sentinel, .sentinel], laidTests := true, laidLooks := .later }
def WholeNamesCardSaid : Prop := Claim7.holds Tryd.pinned (.plain (OpenSpec.ofChange wholeNamesSpec)) wholeNamesCard

/-- THE SECOND FORM's CARD OF 'concordlaw01.CodecPrefix'. -/
def codecPrefixUptoCard : Claim7 := { stood := { row := codecPrefixUptoRow, standIns := [], harness := (true, "9f0f0c5e9aaa6adbbdc804d964c0a82e2d133edd1f785a12b49e1535638f8a81"), looks := true }, kinds := [], alts := [], laidByText := true, laidKinds := [.sentinel, .sentinel, .sentinel, .sentinel, .sentinel], laidTests := true, laidLooks := .later }
def CodecPrefixUptoCardSaid : Prop := Claim7.holds Tryd.pinned (.plain (OpenSpec.upto codecPrefixSpec)) codecPrefixUptoCard

/-- THE SECOND FORM's CARD OF 'concordlaw01.CodecSizes'. -/
def codecSizesUptoCard : Claim7 := { stood := { row := codecSizesUptoRow, standIns := [], harness := (true, "9f0f0c5e9aaa6adbbdc804d964c0a82e2d133edd1f785a12b49e1535638f8a81"), looks := true }, kinds := [], alts := [], laidByText := true, laidKinds := [.sentinel, .sentinel, .sentinel, .sentinel, .sentinel], laidTests := true, laidLooks := .later }
def CodecSizesUptoCardSaid : Prop := Claim7.holds Tryd.pinned (.plain (OpenSpec.upto codecSizesSpec)) codecSizesUptoCard

/-- THE SECOND FORM's CARD OF 'concordlaw01.CodecTwice'. -/
def codecTwiceUptoCard : Claim7 := { stood := { row := codecTwiceUptoRow, standIns := [], harness := (true, "9f0f0c5e9aaa6adbbdc804d964c0a82e2d133edd1f785a12b49e1535638f8a81"), looks := true }, kinds := [], alts := [], laidByText := true, laidKinds := [.sentinel, .sentinel, .sentinel, .sentinel, .sentinel], laidTests := true, laidLooks := .later }
def CodecTwiceUptoCardSaid : Prop := Claim7.holds Tryd.pinned (.plain (OpenSpec.upto codecTwiceSpec)) codecTwiceUptoCard

/-- THE SECOND FORM's CARD OF 'concordtop.WholeNames'. -/
def wholeNamesUptoCard : Claim7 := { stood := { row := wholeNamesUptoRow, standIns := [], harness := (true, "9f0f0c5e9aaa6adbbdc804d964c0a82e2d133edd1f785a12b49e1535638f8a81"), looks := true }, kinds := [], alts := [], laidByText := true, laidKinds := [.sentinel, .sentinel, .sentinel, .sentinel, .sentinel, .sentinel, .sentinel, .sentinel, .sentinel, .sentinel, .sentinel, .sentinel, .sentinel, .sentinel, .sentinel, .sentinel, .sentinel, .sentinel, .sentinel, .sentinel, .sentinel, .sentinel, .sentinel, .sentinel], laidTests := true, laidLooks := .later }
def WholeNamesUptoCardSaid : Prop := Claim7.holds Tryd.pinned (.plain (OpenSpec.upto wholeNamesSpec)) wholeNamesUptoCard
end Rows
end Go.Proofs.YtikdokfkfioeeabDoor
