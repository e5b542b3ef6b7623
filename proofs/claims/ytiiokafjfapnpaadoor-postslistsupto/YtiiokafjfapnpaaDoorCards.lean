/-
  DERIVED. GIVEN WITH THE SEED: THE CARDS: each row of YtiiokafjfapnpaaDoorRows.lean that lists a variable, with what it lists TIED to the program's text (the seventh form; the later family's looks); each row that meets fmt, with fmt's text TOLD by the authors' own Lean function (tested against real Go, not proved from fmt's source: count such statements apart). THE CARD IS WHAT COUNTS. Prove the row's statement (the work); the ties are given (YtiiokafjfapnpaaDoorTie.lean); close each card by the builder's one call (the guide's Derived/Test/ToyasCard.lean, 'card_holds'). Laid BY PROGRAM, IN A SANDBOX (cutbox-door.mjs). By AI agents, Wed Nov 11 2026. No macro, syntax, notation, axiom, sorry.
-/
import Derived.Test.YtiiokafjfapnpaaDoorRows
import GoSem.ClaimSeven
namespace Go.Proofs.YtiiokafjfapnpaaDoor
namespace Rows

/-- THE TIED CARD OF 'concordlaw08.PostsEncodes'. -/
def postsEncodesCard : Claim7 := { stood := { row := postsEncodesRow, standIns := [], harness := (true, "665e4b3e4132a4f58e5bf66cb6d3a605c6c482dea3ecf5eb09185981ddfd4fb6"), looks := true }, kinds := [], alts := [], laidByText := true, laidKinds := [.sentinel, .sentinel, .sentinel, .sentinel, .sentinel, .sentinel, .sentinel, .sentinel, .sentinel, .sentinel, .sentinel, .sentinel, .sentinel, .sentinel, .sentinel, .sentinel, .sentinel, .sentinel, .sentinel, .sentinel, .sentinel, .sentinel, .sentinel, .sentinel], laidTests := true, laidLooks := .later }
def PostsEncodesCardSaid : Prop := Claim7.holds Tryd.pinned (.plain (OpenSpec.ofChange postsEncodesSpec)) postsEncodesCard

/-- THE TIED CARD OF 'concordlaw08.PostsLists'. -/
def postsListsCard : Claim7 := { stood := { row := postsListsRow, standIns := [], harness := (true, "665e4b3e4132a4f58e5bf66cb6d3a605c6c482dea3ecf5eb09185981ddfd4fb6"), looks := true }, kinds := [], alts := [], laidByText := true, laidKinds := [.sentinel, .sentinel, .sentinel, .sentinel, .sentinel, .sentinel, .sentinel], laidTests := true, laidLooks := .later }
def PostsListsCardSaid : Prop := Claim7.holds Tryd.pinned (.plain (OpenSpec.ofChange postsListsSpec)) postsListsCard

/-- THE TIED CARD OF 'concordlaw08.PostsBlocks'. -/
def postsBlocksCard : Claim7 := { stood := { row := postsBlocksRow, standIns := [], harness := (true, "665e4b3e4132a4f58e5bf66cb6d3a605c6c482dea3ecf5eb09185981ddfd4fb6"), looks := true }, kinds := [], alts := [], laidByText := true, laidKinds := [.sentinel, .sentinel, .sentinel, .sentinel, .sentinel, .sentinel, .sentinel], laidTests := true, laidLooks := .later }
def PostsBlocksCardSaid : Prop := Claim7.holds Tryd.pinned (.plain (OpenSpec.ofChange postsBlocksSpec)) postsBlocksCard

/-- THE SECOND FORM's CARD OF 'concordlaw08.PostsEncodes'. -/
def postsEncodesUptoCard : Claim7 := { stood := { row := postsEncodesUptoRow, standIns := [], harness := (true, "665e4b3e4132a4f58e5bf66cb6d3a605c6c482dea3ecf5eb09185981ddfd4fb6"), looks := true }, kinds := [], alts := [], laidByText := true, laidKinds := [.sentinel, .sentinel, .sentinel, .sentinel, .sentinel, .sentinel, .sentinel, .sentinel, .sentinel, .sentinel, .sentinel, .sentinel, .sentinel, .sentinel, .sentinel, .sentinel, .sentinel, .sentinel, .sentinel, .sentinel, .sentinel, .sentinel, .sentinel, .sentinel], laidTests := true, laidLooks := .later }
def PostsEncodesUptoCardSaid : Prop := Claim7.holds Tryd.pinned (.plain (OpenSpec.upto postsEncodesSpec)) postsEncodesUptoCard

/-- THE SECOND FORM's CARD OF 'concordlaw08.PostsLists'. -/
def postsListsUptoCard : Claim7 := { stood := { row := postsListsUptoRow, standIns := [], harness := (true, "665e4b3e4132a4f58e5bf66cb6d3a605c6c482dea3ecf5eb09185981ddfd4fb6"), looks := true }, kinds := [], alts := [], laidByText := true, laidKinds := [.sentinel, .sentinel, .sentinel, .sentinel, .sentinel, .sentinel, .sentinel], laidTests := true, laidLooks := .later }
def PostsListsUptoCardSaid : Prop := Claim7.holds Tryd.pinned (.plain (OpenSpec.upto postsListsSpec)) postsListsUptoCard

/-- THE SECOND FORM's CARD OF 'concordlaw08.PostsBlocks'. -/
def postsBlocksUptoCard : Claim7 := { stood := { row := postsBlocksUptoRow, standIns := [], harness := (true, "665e4b3e4132a4f58e5bf66cb6d3a605c6c482dea3ecf5eb09185981ddfd4fb6"), looks := true }, kinds := [], alts := [], laidByText := true, laidKinds := [.sentinel, .sentinel, .sentinel, .sentinel, .sentinel, .sentinel, .sentinel], laidTests := true, laidLooks := .later }
def PostsBlocksUptoCardSaid : Prop := Claim7.holds Tryd.pinned (.plain (OpenSpec.upto postsBlocksSpec)) postsBlocksUptoCard
end Rows
end Go.Proofs.YtiiokafjfapnpaaDoor
