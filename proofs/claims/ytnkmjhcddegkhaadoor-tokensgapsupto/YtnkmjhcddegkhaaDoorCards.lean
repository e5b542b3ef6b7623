/-
  DERIVED. GIVEN WITH THE SEED: THE CARDS: each row of YtnkmjhcddegkhaaDoorRows.lean that lists a variable, with what it lists TIED to the program's text (the seventh form; the later family's looks); each row that meets fmt, with fmt's text TOLD by the authors' own Lean function (tested against real Go, not proved from fmt's source: count such statements apart). THE CARD IS WHAT COUNTS. Prove the row's statement (the work); the ties are given (YtnkmjhcddegkhaaDoorTie.lean); close each card by the builder's one call (the guide's Derived/Test/ToyasCard.lean, 'card_holds'). Laid BY PROGRAM, IN A SANDBOX (cutbox-door.mjs). By AI agents, Wed Nov 11 2026. No macro, syntax, notation, axiom, sorry.
-/
import Derived.Test.YtnkmjhcddegkhaaDoorRows
import GoSem.ClaimSeven
namespace Go.Proofs.YtnkmjhcddegkhaaDoor
namespace Rows

/-- THE TIED CARD OF 'concordlaw05.TokensChain'. -/
def tokensChainCard : Claim7 := { stood := { row := tokensChainRow, standIns := [], harness := (true, "7ece78dd9b9a55de2f3680b352ddf14349e46491d59b780ba856ba919970db97"), looks := true }, kinds := [], alts := [], laidByText := true, laidKinds := [.data, .data, .data, .sentinel, .sentinel, .data], laidTests := true, laidLooks := .later }
def TokensChainCardSaid : Prop := Claim7.holds Tryd.pinned (.plain (OpenSpec.ofChange tokensChainSpec)) tokensChainCard

/-- THE TIED CARD OF 'concordlaw05.TokensGaps'. -/
def tokensGapsCard : Claim7 := { stood := { row := tokensGapsRow, standIns := [], harness := (true, "7ece78dd9b9a55de2f3680b352ddf14349e46491d59b780ba856ba919970db97"), looks := true }, kinds := [], alts := [], laidByText := true, laidKinds := [.data, .data, .data, .sentinel, .sentinel], laidTests := true, laidLooks := .later }
def TokensGapsCardSaid : Prop := Claim7.holds Tryd.pinned (.plain (OpenSpec.ofChange tokensGapsSpec)) tokensGapsCard

/-- THE SECOND FORM's CARD OF 'concordlaw05.TokensChain'. -/
def tokensChainUptoCard : Claim7 := { stood := { row := tokensChainUptoRow, standIns := [], harness := (true, "7ece78dd9b9a55de2f3680b352ddf14349e46491d59b780ba856ba919970db97"), looks := true }, kinds := [], alts := [], laidByText := true, laidKinds := [.data, .data, .data, .sentinel, .sentinel, .data], laidTests := true, laidLooks := .later }
def TokensChainUptoCardSaid : Prop := Claim7.holds Tryd.pinned (.plain (OpenSpec.upto tokensChainSpec)) tokensChainUptoCard

/-- THE SECOND FORM's CARD OF 'concordlaw05.TokensGaps'. -/
def tokensGapsUptoCard : Claim7 := { stood := { row := tokensGapsUptoRow, standIns := [], harness := (true, "7ece78dd9b9a55de2f3680b352ddf14349e46491d59b780ba856ba919970db97"), looks := true }, kinds := [], alts := [], laidByText := true, laidKinds := [.data, .data, .data, .sentinel, .sentinel], laidTests := true, laidLooks := .later }
def TokensGapsUptoCardSaid : Prop := Claim7.holds Tryd.pinned (.plain (OpenSpec.upto tokensGapsSpec)) tokensGapsUptoCard
end Rows
end Go.Proofs.YtnkmjhcddegkhaaDoor
