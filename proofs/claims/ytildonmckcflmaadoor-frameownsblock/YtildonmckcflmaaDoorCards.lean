/-
  DERIVED. GIVEN WITH THE SEED: THE CARDS: each row of YtildonmckcflmaaDoorRows.lean that lists a variable, with what it lists TIED to the program's text (the seventh form; the later family's looks); each row that meets fmt, with fmt's text TOLD by the authors' own Lean function (tested against real Go, not proved from fmt's source: count such statements apart). THE CARD IS WHAT COUNTS. Prove the row's statement (the work); the ties are given (YtildonmckcflmaaDoorTie.lean); close each card by the builder's one call (the guide's Derived/Test/ToyasCard.lean, 'card_holds'). Laid BY PROGRAM, IN A SANDBOX (cutbox-door.mjs). By AI agents, Wed Nov 11 2026. No macro, syntax, notation, axiom, sorry.
-/
import Derived.Test.YtildonmckcflmaaDoorRows
import GoSem.ClaimSeven
namespace Go.Proofs.YtildonmckcflmaaDoor
namespace Rows

/-- THE TIED CARD OF 'concordlaw02.FrameOwnsBlock'. -/
def frameOwnsBlockCard : Claim7 := { stood := { row := frameOwnsBlockRow, standIns := [], harness := (true, "4f0f3cd3cfdddabaf4da37f9461b983683da492681be10cf6858a6ebd7d71af5"), looks := false }, kinds := [], alts := [], laidByText := true, laidKinds := [.sentinel, .sentinel, .sentinel, .sentinel, .data], laidTests := true, laidLooks := .later }
def FrameOwnsBlockCardSaid : Prop := Claim7.holds Tryd.pinned (.plain (OpenSpec.ofChange frameOwnsBlockSpec)) frameOwnsBlockCard

/-- THE TIED CARD OF 'concordlaw02.FrameOwnsImage'. -/
def frameOwnsImageCard : Claim7 := { stood := { row := frameOwnsImageRow, standIns := [], harness := (true, "4f0f3cd3cfdddabaf4da37f9461b983683da492681be10cf6858a6ebd7d71af5"), looks := false }, kinds := [], alts := [], laidByText := true, laidKinds := [.sentinel, .sentinel, .sentinel, .sentinel, .sentinel, .data], laidTests := true, laidLooks := .later }
def FrameOwnsImageCardSaid : Prop := Claim7.holds Tryd.pinned (.plain (OpenSpec.ofChange frameOwnsImageSpec)) frameOwnsImageCard

/-- THE SECOND FORM's CARD OF 'concordlaw02.FrameOwnsBlock'. -/
def frameOwnsBlockUptoCard : Claim7 := { stood := { row := frameOwnsBlockUptoRow, standIns := [], harness := (true, "4f0f3cd3cfdddabaf4da37f9461b983683da492681be10cf6858a6ebd7d71af5"), looks := false }, kinds := [], alts := [], laidByText := true, laidKinds := [.sentinel, .sentinel, .sentinel, .sentinel, .data], laidTests := true, laidLooks := .later }
def FrameOwnsBlockUptoCardSaid : Prop := Claim7.holds Tryd.pinned (.plain (OpenSpec.upto frameOwnsBlockSpec)) frameOwnsBlockUptoCard

/-- THE SECOND FORM's CARD OF 'concordlaw02.FrameOwnsImage'. -/
def frameOwnsImageUptoCard : Claim7 := { stood := { row := frameOwnsImageUptoRow, standIns := [], harness := (true, "4f0f3cd3cfdddabaf4da37f9461b983683da492681be10cf6858a6ebd7d71af5"), looks := false }, kinds := [], alts := [], laidByText := true, laidKinds := [.sentinel, .sentinel, .sentinel, .sentinel, .sentinel, .data], laidTests := true, laidLooks := .later }
def FrameOwnsImageUptoCardSaid : Prop := Claim7.holds Tryd.pinned (.plain (OpenSpec.upto frameOwnsImageSpec)) frameOwnsImageUptoCard
end Rows
end Go.Proofs.YtildonmckcflmaaDoor
