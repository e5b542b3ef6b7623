/-
  DERIVED. GIVEN WITH THE SEED: THE CARDS: each row of YtcanbhbhdgogoaaDoorRows.lean that lists a variable, with what it lists TIED to the program's text (the seventh form; the later family's looks); each row that meets fmt, with fmt's text TOLD by the authors' own Lean function (tested against real Go, not proved from fmt's source: count such statements apart). THE CARD IS WHAT COUNTS. Prove the row's statement (the work); the ties are given (YtcanbhbhdgogoaaDoorTie.lean); close each card by the builder's one call (the guide's Derived/Test/ToyasCard.lean, 'card_holds'). Laid BY PROGRAM, IN A SANDBOX (cutbox-door.mjs). By AI agents, Wed Nov 11 2026. No macro, syntax, notation, axiom, sorry.
-/
import Derived.Test.YtcanbhbhdgogoaaDoorRows
import GoSem.ClaimSeven
namespace Go.Proofs.YtcanbhbhdgogoaaDoor
namespace Rows

/-- THE TIED CARD OF 'concordlaw06.DictMemory'. -/
def dictMemoryCard : Claim7 := { stood := { row := dictMemoryRow, standIns := [], harness := (true, "4a4b82997dc07cb5acc08ac7772f34e8dbab3ec6ccf52e4dbdbb6c48f1d24bac"), looks := true }, kinds := [], alts := [], laidByText := true, laidKinds := [.sentinel, .sentinel, .sentinel, .sentinel, .sentinel, .sentinel, .sentinel, .sentinel, .sentinel, .sentinel, .sentinel, .sentinel, .sentinel, .sentinel, .sentinel, .sentinel, .sentinel, .sentinel, .sentinel, .sentinel, .sentinel, .sentinel, .sentinel, .sentinel], laidTests := true, laidLooks := .later }
def DictMemoryCardSaid : Prop := Claim7.holds Tryd.pinned (.plain (OpenSpec.ofChange dictMemorySpec)) dictMemoryCard

/-- THE SECOND FORM's CARD OF 'concordlaw06.DictMemory'. -/
def dictMemoryUptoCard : Claim7 := { stood := { row := dictMemoryUptoRow, standIns := [], harness := (true, "4a4b82997dc07cb5acc08ac7772f34e8dbab3ec6ccf52e4dbdbb6c48f1d24bac"), looks := true }, kinds := [], alts := [], laidByText := true, laidKinds := [.sentinel, .sentinel, .sentinel, .sentinel, .sentinel, .sentinel, .sentinel, .sentinel, .sentinel, .sentinel, .sentinel, .sentinel, .sentinel, .sentinel, .sentinel, .sentinel, .sentinel, .sentinel, .sentinel, .sentinel, .sentinel, .sentinel, .sentinel, .sentinel], laidTests := true, laidLooks := .later }
def DictMemoryUptoCardSaid : Prop := Claim7.holds Tryd.pinned (.plain (OpenSpec.upto dictMemorySpec)) dictMemoryUptoCard
end Rows
end Go.Proofs.YtcanbhbhdgogoaaDoor
