/-
  NARROWER THAN 'FOR EVERY INPUT', by the rows' own cells (each row's printed sentence says how): TokensStops: laid.
  DERIVED. THE GIVEN ROWS OF THIS SEAT. 1 by the template 'for every input the law returns true; each argument reads behind the call as it read before'; 0 by the template 'total and deterministic' (their statements: YtccchbadapdagaaDoorTotals.lean).
  GIVEN WITH THE SEED: the statements are not yours to turn. If you find one false, say at which input.
  Laid BY PROGRAM, IN A SANDBOX (cutbox-rows.mjs): the forced cells as the released guide's own fill.sh prints them over the translation 14a6411b8d67086e… (all of the seat's roots in one cut). By AI agents, Wed Nov 11 2026. No macro, syntax, notation, axiom, sorry.
-/
import Derived.Test.YtccchbadapdagaaDoorChecked
import GoSem.Claim
import GoSem.ClaimJoined
import GoSem.ClaimMapViews
import Derived.JoinedTies
import Derived.KernelRfl
namespace Go.Proofs.YtccchbadapdagaaDoor
/- THE CELL 'sum', in the pinned program and in every row, IS THE sha256 OF THE DUMP (.gsa) THAT YtccchbadapdagaaDoorProg.lean LOADS. Nothing in Lean hashes anything: it is a label: what it is worth is what the hold of that sum in a sandbox is worth. -/
noncomputable def Tryd.pinned : Pinned := { name := "ytccchbadapdagaadoor", sum := "14a6411b8d67086e358a9a51a6c6f63fc67b7ddd16def11462b26c52586fef91", checked := Tryd.checked }
namespace Rows
def none {H : Type} : Left H := { results := [], args := [] }

/- WHAT THE LISTED PACKAGE-LEVEL VARIABLES READ AS WHEN THE CALL BEGINS. Each datum BY PROGRAM (the guide's laid-datum.mjs) off the statement by which the dump's own 'gosem.cut.vars' lays the variable. In a bare row this is a premise. The card (YtccchbadapdagaaDoorCards.lean) ties it to the program's text. -/
def laid_concord_tokens_stops {H : Type} : DataW H := .agg [.lit (.string [97]), .lit (.string [97, 110]), .lit (.string [97, 110, 100]), .lit (.string [97, 114, 101]), .lit (.string [97, 115]), .lit (.string [97, 116]), .lit (.string [98, 101]), .lit (.string [98, 117, 116]), .lit (.string [98, 121]), .lit (.string [102, 111, 114]), .lit (.string [102, 114, 111, 109]), .lit (.string [104, 97, 115]), .lit (.string [104, 101]), .lit (.string [105, 102]), .lit (.string [105, 110]), .lit (.string [105, 110, 116, 111]), .lit (.string [105, 115]), .lit (.string [105, 116]), .lit (.string [105, 116, 115]), .lit (.string [110, 111]), .lit (.string [110, 111, 116]), .lit (.string [111, 102]), .lit (.string [111, 110]), .lit (.string [111, 114]), .lit (.string [115, 104, 101]), .lit (.string [115, 111]), .lit (.string [115, 117, 99, 104]), .lit (.string [116, 104, 97, 116]), .lit (.string [116, 104, 101]), .lit (.string [116, 104, 101, 105, 114]), .lit (.string [116, 104, 101, 110]), .lit (.string [116, 104, 101, 114, 101]), .lit (.string [116, 104, 101, 115, 101]), .lit (.string [116, 104, 101, 121]), .lit (.string [116, 104, 105, 115]), .lit (.string [116, 111]), .lit (.string [119, 97, 115]), .lit (.string [119, 101]), .lit (.string [119, 101, 114, 101]), .lit (.string [119, 105, 108, 108]), .lit (.string [119, 105, 116, 104]), .lit (.string [121, 111, 117])]

/-- 'concordlaw05.TokensStops': WHATEVER THE INPUT: true; the input reads as it did. -/
def tokensStopsSpec : ChangeSpec := { name := "tokensStops", fn := fun _ => fun
  | [d] => { results := [.lit (.bool true)], args := [d] }
  | _ => none }
def tokensStopsRow : OpenClaim := { program := "ytccchbadapdagaadoor", sum := "14a6411b8d67086e358a9a51a6c6f63fc67b7ddd16def11462b26c52586fef91", func := "concord/concordlaw05.TokensStops", spec := "tokensStops", unfollowed := true, recurses := true, named := ["concord/tokens.stops"], apart := false, laid := [("concord/tokens.stops", laid_concord_tokens_stops)] }
def TokensStopsSaid : Prop := tokensStopsRow.holds Tryd.pinned (OpenSpec.ofChange tokensStopsSpec)

/-- ITS FALSE NEIGHBOUR: 'it returns false'. Refute it at one input. -/
def tokensStopsWrong : ChangeSpec := { name := "tokensStops", fn := fun _ => fun
  | [d] => { results := [.lit (.bool false)], args := [d] }
  | _ => none }
def TokensStopsWrongFalsely : Prop := tokensStopsRow.holds Tryd.pinned (OpenSpec.ofChange tokensStopsWrong)

/- THE SECOND FORM. 'bulk': how many values and letters a reading holds, each counted each time it is reached (what is shared counts as often as it is met; a slice's spare places count too). A statement '..UptoSaid' is the law's where the arguments, and the package variables that the reading takes, are together of bulk at most 1048576: NARROWER than '..Said'. Prove '..Said' where nothing that the law and all that it calls make is longer than what came in: it says more and counts as full. Else prove '..UptoSaid'. A law counts once. -/
mutual
def uptoBulk {H : Type} : DataW H → Nat
  | .lit (.string bytes) => bytes.length + 1
  | .lit _ => 1
  | .nil => 1
  | .ptr d => uptoBulk d + 1
  | .slice elems spare => uptoBulkAll elems + uptoBulkAll spare + 1
  | .agg parts => uptoBulkAll parts + 1
  | .iface _ d => uptoBulk d + 1
  | .map entries => uptoBulkEntries entries + 1
  | .held _ => 1
def uptoBulkAll {H : Type} : List (DataW H) → Nat
  | [] => 0
  | d :: r => uptoBulk d + uptoBulkAll r
def uptoBulkEntries {H : Type} : List (Lit × DataW H) → Nat
  | [] => 0
  | x :: r => uptoBulkEntry x + uptoBulkEntries r
def uptoBulkEntry {H : Type} : Lit × DataW H → Nat
  | (.string bytes, d) => bytes.length + uptoBulk d + 1
  | (_, d) => uptoBulk d + 1
 end
def uptoSmall : (H : Type) → List (DataW H) → Bool := fun _ ds => decide (uptoBulkAll ds ≤ 1048576)
def OpenSpec.upto (s : _root_.Go.ChangeSpec) : _root_.Go.OpenSpec := { _root_.Go.OpenSpec.ofChange s with cond := some uptoSmall }

/-- 'concordlaw05.TokensStops', WHERE WHAT IT READS IS OF BULK AT MOST 1048576: true; the input reads as it did. -/
def tokensStopsUptoRow : OpenClaim := { program := "ytccchbadapdagaadoor", sum := "14a6411b8d67086e358a9a51a6c6f63fc67b7ddd16def11462b26c52586fef91", func := "concord/concordlaw05.TokensStops", spec := "tokensStops", unfollowed := true, recurses := true, named := ["concord/tokens.stops"], apart := false, laid := [("concord/tokens.stops", laid_concord_tokens_stops)], narrowed := true }
def TokensStopsUptoSaid : Prop := tokensStopsUptoRow.holds Tryd.pinned (OpenSpec.upto tokensStopsSpec)

end Rows
end Go.Proofs.YtccchbadapdagaaDoor
