/-
  DERIVED. GIVEN WITH THE SEED: THE CARDS: each row of YtcnnnkdbbiflfaaDoorRows.lean that lists a variable, with what it lists TIED to the program's text (the seventh form; the later family's looks); each row that meets fmt, with fmt's text TOLD by the authors' own Lean function (tested against real Go, not proved from fmt's source: count such statements apart). THE CARD IS WHAT COUNTS. Prove the row's statement (the work); the ties are given (YtcnnnkdbbiflfaaDoorTie.lean); close each card by the builder's one call (the guide's Derived/Test/ToyasCard.lean, 'card_holds'). Laid BY PROGRAM, IN A SANDBOX (cutbox-door.mjs). By AI agents, Wed Nov 11 2026. No macro, syntax, notation, axiom, sorry.
-/
import Derived.Test.YtcnnnkdbbiflfaaDoorRows
import GoSem.ClaimSeven
namespace Go.Proofs.YtcnnnkdbbiflfaaDoor
namespace Rows

/-- THE TIED CARD OF 'concordlaw06.DictWalks'. -/
def dictWalksCard : Claim7 := { stood := { row := dictWalksRow, standIns := [], harness := (true, "19627511cd1439796b00d40744998c7b9b84394c4bbb322457208e8ae038f1e1"), looks := true }, kinds := [], alts := [], laidByText := true, laidKinds := [.sentinel, .sentinel, .sentinel, .sentinel, .sentinel, .sentinel, .sentinel, .sentinel, .sentinel, .sentinel, .sentinel, .sentinel, .sentinel, .sentinel, .sentinel, .sentinel, .sentinel, .sentinel, .sentinel, .sentinel, .sentinel, .sentinel, .sentinel, .sentinel], laidTests := true, laidLooks := .later }
def DictWalksCardSaid : Prop := Claim7.holds Tryd.pinned (.plain (OpenSpec.ofChange dictWalksSpec)) dictWalksCard

/-- THE SECOND FORM's CARD OF 'concordlaw06.DictWalks'. -/
def dictWalksUptoCard : Claim7 := { stood := { row := dictWalksUptoRow, standIns := [], harness := (true, "19627511cd1439796b00d40744998c7b9b84394c4bbb322457208e8ae038f1e1"), looks := true }, kinds := [], alts := [], laidByText := true, laidKinds := [.sentinel, .sentinel, .sentinel, .sentinel, .sentinel, .sentinel, .sentinel, .sentinel, .sentinel, .sentinel, .sentinel, .sentinel, .sentinel, .sentinel, .sentinel, .sentinel, .sentinel, .sentinel, .sentinel, .sentinel, .sentinel, .sentinel, .sentinel, .sentinel], laidTests := true, laidLooks := .later }
def DictWalksUptoCardSaid : Prop := Claim7.holds Tryd.pinned (.plain (OpenSpec.upto dictWalksSpec)) dictWalksUptoCard
end Rows
end Go.Proofs.YtcnnnkdbbiflfaaDoor
