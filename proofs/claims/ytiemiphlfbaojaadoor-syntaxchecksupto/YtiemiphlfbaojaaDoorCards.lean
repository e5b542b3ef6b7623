/-
  DERIVED. GIVEN WITH THE SEED: THE CARDS: each row of YtiemiphlfbaojaaDoorRows.lean that lists a variable, with what it lists TIED to the program's text (the seventh form; the later family's looks); each row that meets fmt, with fmt's text TOLD by the authors' own Lean function (tested against real Go, not proved from fmt's source: count such statements apart). THE CARD IS WHAT COUNTS. Prove the row's statement (the work); the ties are given (YtiemiphlfbaojaaDoorTie.lean); close each card by the builder's one call (the guide's Derived/Test/ToyasCard.lean, 'card_holds'). Laid BY PROGRAM, IN A SANDBOX (cutbox-door.mjs). By AI agents, Wed Nov 11 2026. No macro, syntax, notation, axiom, sorry.
-/
import Derived.Test.YtiemiphlfbaojaaDoorRows
import GoSem.ClaimSeven
namespace Go.Proofs.YtiemiphlfbaojaaDoor
namespace Rows

/-- THE TIED CARD OF 'concordlaw14.SyntaxChecks'. -/
def syntaxChecksCard : Claim7 := { stood := { row := syntaxChecksRow, standIns := [], harness := (true, "6be49e93b9ce99f3be4115d150fe553bcf56905649053a7bb69d87a82e94abb0"), looks := true }, kinds := [], alts := [], laidByText := true, laidKinds := [.sentinel, .sentinel, .sentinel, .sentinel, .sentinel, .sentinel, .sentinel, .sentinel, .sentinel, .sentinel, .sentinel, .sentinel, .sentinel, .sentinel, .sentinel, .sentinel, .sentinel, .sentinel, .sentinel, .sentinel, .sentinel, .sentinel, .sentinel, .sentinel, .data, .data], laidTests := true, laidLooks := .later }
def SyntaxChecksCardSaid : Prop := Claim7.holds Tryd.pinned (.plain (OpenSpec.ofChange syntaxChecksSpec)) syntaxChecksCard

/-- THE TIED CARD OF 'concordlaw14.SyntaxFollows'. -/
def syntaxFollowsCard : Claim7 := { stood := { row := syntaxFollowsRow, standIns := [], harness := (true, "6be49e93b9ce99f3be4115d150fe553bcf56905649053a7bb69d87a82e94abb0"), looks := true }, kinds := [], alts := [], laidByText := true, laidKinds := [.sentinel, .sentinel, .data, .data], laidTests := true, laidLooks := .later }
def SyntaxFollowsCardSaid : Prop := Claim7.holds Tryd.pinned (.plain (OpenSpec.ofChange syntaxFollowsSpec)) syntaxFollowsCard

/-- THE SECOND FORM's CARD OF 'concordlaw14.SyntaxChecks'. -/
def syntaxChecksUptoCard : Claim7 := { stood := { row := syntaxChecksUptoRow, standIns := [], harness := (true, "6be49e93b9ce99f3be4115d150fe553bcf56905649053a7bb69d87a82e94abb0"), looks := true }, kinds := [], alts := [], laidByText := true, laidKinds := [.sentinel, .sentinel, .sentinel, .sentinel, .sentinel, .sentinel, .sentinel, .sentinel, .sentinel, .sentinel, .sentinel, .sentinel, .sentinel, .sentinel, .sentinel, .sentinel, .sentinel, .sentinel, .sentinel, .sentinel, .sentinel, .sentinel, .sentinel, .sentinel, .data, .data], laidTests := true, laidLooks := .later }
def SyntaxChecksUptoCardSaid : Prop := Claim7.holds Tryd.pinned (.plain (OpenSpec.upto syntaxChecksSpec)) syntaxChecksUptoCard

/-- THE SECOND FORM's CARD OF 'concordlaw14.SyntaxFollows'. -/
def syntaxFollowsUptoCard : Claim7 := { stood := { row := syntaxFollowsUptoRow, standIns := [], harness := (true, "6be49e93b9ce99f3be4115d150fe553bcf56905649053a7bb69d87a82e94abb0"), looks := true }, kinds := [], alts := [], laidByText := true, laidKinds := [.sentinel, .sentinel, .data, .data], laidTests := true, laidLooks := .later }
def SyntaxFollowsUptoCardSaid : Prop := Claim7.holds Tryd.pinned (.plain (OpenSpec.upto syntaxFollowsSpec)) syntaxFollowsUptoCard
end Rows
end Go.Proofs.YtiemiphlfbaojaaDoor
