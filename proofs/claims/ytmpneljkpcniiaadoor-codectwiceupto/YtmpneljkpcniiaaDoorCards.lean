/-
  DERIVED. GIVEN WITH THE SEED: THE CARDS: each row of YtmpneljkpcniiaaDoorRows.lean that lists a variable, with what it lists TIED to the program's text (the seventh form; the later family's looks); each row that meets fmt, with fmt's text TOLD by the authors' own Lean function (tested against real Go, not proved from fmt's source: count such statements apart). THE CARD IS WHAT COUNTS. Prove the row's statement (the work); the ties are given (YtmpneljkpcniiaaDoorTie.lean); close each card by the builder's one call (the guide's Derived/Test/ToyasCard.lean, 'card_holds'). Laid BY PROGRAM, IN A SANDBOX (cutbox-door.mjs). By AI agents, Wed Nov 11 2026. No macro, syntax, notation, axiom, sorry.
-/
import Derived.Test.YtmpneljkpcniiaaDoorRows
import GoSem.ClaimSeven
namespace Go.Proofs.YtmpneljkpcniiaaDoor
namespace Rows

/-- THE TIED CARD OF 'concordlaw01.CodecTwice'. -/
def codecTwiceCard : Claim7 := { stood := { row := codecTwiceRow, standIns := [], harness := (true, "9454e99fef6d4b66d09f40994c1ea0d624ecb95ac3c658b9f902fe53e5c80a53"), looks := false }, kinds := [], alts := [], laidByText := true, laidKinds := [.sentinel, .sentinel, .sentinel, .sentinel, .sentinel], laidTests := true, laidLooks := .later }
def CodecTwiceCardSaid : Prop := Claim7.holds Tryd.pinned (.plain (OpenSpec.ofChange codecTwiceSpec)) codecTwiceCard

/-- THE SECOND FORM's CARD OF 'concordlaw01.CodecTwice'. -/
def codecTwiceUptoCard : Claim7 := { stood := { row := codecTwiceUptoRow, standIns := [], harness := (true, "9454e99fef6d4b66d09f40994c1ea0d624ecb95ac3c658b9f902fe53e5c80a53"), looks := false }, kinds := [], alts := [], laidByText := true, laidKinds := [.sentinel, .sentinel, .sentinel, .sentinel, .sentinel], laidTests := true, laidLooks := .later }
def CodecTwiceUptoCardSaid : Prop := Claim7.holds Tryd.pinned (.plain (OpenSpec.upto codecTwiceSpec)) codecTwiceUptoCard
end Rows
end Go.Proofs.YtmpneljkpcniiaaDoor
