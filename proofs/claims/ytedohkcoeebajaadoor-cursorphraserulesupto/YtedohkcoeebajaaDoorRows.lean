/-
  NARROWER THAN 'FOR EVERY INPUT', by the rows' own cells (each row's printed sentence says how): CursorPhrase: laid · CursorPhraseRules: laid.
  DERIVED. THE GIVEN ROWS OF THIS SEAT. 2 by the template 'for every input the law returns true; each argument reads behind the call as it read before'; 0 by the template 'total and deterministic' (their statements: YtedohkcoeebajaaDoorTotals.lean).
  GIVEN WITH THE SEED: the statements are not yours to turn. If you find one false, say at which input.
  Laid BY PROGRAM, IN A SANDBOX (cutbox-rows.mjs): the forced cells as the released guide's own fill.sh prints them over the translation b6e651755852bcff… (all of the seat's roots in one cut). By AI agents, Wed Nov 11 2026. No macro, syntax, notation, axiom, sorry.
-/
import Derived.Test.YtedohkcoeebajaaDoorChecked
import GoSem.Claim
import GoSem.ClaimJoined
import GoSem.ClaimMapViews
import Derived.JoinedTies
import Derived.KernelRfl
namespace Go.Proofs.YtedohkcoeebajaaDoor
/- THE CELL 'sum', in the pinned program and in every row, IS THE sha256 OF THE DUMP (.gsa) THAT YtedohkcoeebajaaDoorProg.lean LOADS. Nothing in Lean hashes anything: it is a label: what it is worth is what the hold of that sum in a sandbox is worth. -/
noncomputable def Tryd.pinned : Pinned := { name := "ytedohkcoeebajaadoor", sum := "b6e651755852bcff0f87202839a8aeffe472c3d95546e4257ac3b9368141438d", checked := Tryd.checked }
namespace Rows
def none {H : Type} : Left H := { results := [], args := [] }

/- WHAT THE LISTED PACKAGE-LEVEL VARIABLES READ AS WHEN THE CALL BEGINS. Each datum BY PROGRAM (the guide's laid-datum.mjs) off the statement by which the dump's own 'gosem.cut.vars' lays the variable. In a bare row this is a premise. The card (YtedohkcoeebajaaDoorCards.lean) ties it to the program's text. -/
def laid_concord_api_ErrShort {H : Type} : DataW H := .iface "*errors.errorString" (.ptr (.agg [.lit (.string [99, 111, 110, 99, 111, 114, 100, 58, 32, 116, 111, 111, 32, 115, 104, 111, 114, 116])]))
def laid_concord_api_ErrVarint {H : Type} : DataW H := .iface "*errors.errorString" (.ptr (.agg [.lit (.string [99, 111, 110, 99, 111, 114, 100, 58, 32, 118, 97, 114, 105, 110, 116])]))
def laid_concord_api_ErrLimit {H : Type} : DataW H := .iface "*errors.errorString" (.ptr (.agg [.lit (.string [99, 111, 110, 99, 111, 114, 100, 58, 32, 108, 105, 109, 105, 116])]))
def laid_concord_api_ErrOrder {H : Type} : DataW H := .iface "*errors.errorString" (.ptr (.agg [.lit (.string [99, 111, 110, 99, 111, 114, 100, 58, 32, 111, 114, 100, 101, 114])]))
def laid_concord_api_ErrTail {H : Type} : DataW H := .iface "*errors.errorString" (.ptr (.agg [.lit (.string [99, 111, 110, 99, 111, 114, 100, 58, 32, 116, 97, 105, 108])]))
def laid_concord_api_ErrCorrupt {H : Type} : DataW H := .iface "*errors.errorString" (.ptr (.agg [.lit (.string [99, 111, 110, 99, 111, 114, 100, 58, 32, 99, 111, 114, 114, 117, 112, 116])]))

/-- 'concordlaw09.CursorPhrase': WHATEVER THE INPUT: true; the input reads as it did. -/
def cursorPhraseSpec : ChangeSpec := { name := "cursorPhrase", fn := fun _ => fun
  | [d1, d2, d3] => { results := [.lit (.bool true)], args := [d1, d2, d3] }
  | _ => none }
def cursorPhraseRow : OpenClaim := { program := "ytedohkcoeebajaadoor", sum := "b6e651755852bcff0f87202839a8aeffe472c3d95546e4257ac3b9368141438d", func := "concord/concordlaw09.CursorPhrase", spec := "cursorPhrase", unfollowed := true, recurses := true, named := ["concord/api.ErrCorrupt", "concord/api.ErrLimit", "concord/api.ErrShort", "concord/api.ErrVarint", "concord/api.ErrOrder", "concord/api.ErrTail"], apart := false, laid := [("concord/api.ErrShort", laid_concord_api_ErrShort), ("concord/api.ErrVarint", laid_concord_api_ErrVarint), ("concord/api.ErrLimit", laid_concord_api_ErrLimit), ("concord/api.ErrOrder", laid_concord_api_ErrOrder), ("concord/api.ErrTail", laid_concord_api_ErrTail), ("concord/api.ErrCorrupt", laid_concord_api_ErrCorrupt)] }
def CursorPhraseSaid : Prop := cursorPhraseRow.holds Tryd.pinned (OpenSpec.ofChange cursorPhraseSpec)

/-- ITS FALSE NEIGHBOUR: 'it returns false'. Refute it at one input. -/
def cursorPhraseWrong : ChangeSpec := { name := "cursorPhrase", fn := fun _ => fun
  | [d1, d2, d3] => { results := [.lit (.bool false)], args := [d1, d2, d3] }
  | _ => none }
def CursorPhraseWrongFalsely : Prop := cursorPhraseRow.holds Tryd.pinned (OpenSpec.ofChange cursorPhraseWrong)

/-- 'concordlaw09.CursorPhraseRules': WHATEVER THE INPUT: true; the input reads as it did. -/
def cursorPhraseRulesSpec : ChangeSpec := { name := "cursorPhraseRules", fn := fun _ => fun
  | [d1, d2, d3, d4] => { results := [.lit (.bool true)], args := [d1, d2, d3, d4] }
  | _ => none }
def cursorPhraseRulesRow : OpenClaim := { program := "ytedohkcoeebajaadoor", sum := "b6e651755852bcff0f87202839a8aeffe472c3d95546e4257ac3b9368141438d", func := "concord/concordlaw09.CursorPhraseRules", spec := "cursorPhraseRules", unfollowed := true, recurses := true, named := ["concord/api.ErrCorrupt", "concord/api.ErrLimit", "concord/api.ErrShort", "concord/api.ErrVarint", "concord/api.ErrOrder", "concord/api.ErrTail"], apart := false, laid := [("concord/api.ErrShort", laid_concord_api_ErrShort), ("concord/api.ErrVarint", laid_concord_api_ErrVarint), ("concord/api.ErrLimit", laid_concord_api_ErrLimit), ("concord/api.ErrOrder", laid_concord_api_ErrOrder), ("concord/api.ErrTail", laid_concord_api_ErrTail), ("concord/api.ErrCorrupt", laid_concord_api_ErrCorrupt)] }
def CursorPhraseRulesSaid : Prop := cursorPhraseRulesRow.holds Tryd.pinned (OpenSpec.ofChange cursorPhraseRulesSpec)

/-- ITS FALSE NEIGHBOUR: 'it returns false'. Refute it at one input. -/
def cursorPhraseRulesWrong : ChangeSpec := { name := "cursorPhraseRules", fn := fun _ => fun
  | [d1, d2, d3, d4] => { results := [.lit (.bool false)], args := [d1, d2, d3, d4] }
  | _ => none }
def CursorPhraseRulesWrongFalsely : Prop := cursorPhraseRulesRow.holds Tryd.pinned (OpenSpec.ofChange cursorPhraseRulesWrong)

/- THE SECOND FORM. 'bulk': how many values and letters a reading holds, each counted each time it is reached (what is shared counts as often as it is met; a slice's spare places count too). A statement '..UptoSaid' is the law's where the arguments, and the package variables that the reading takes, are together of bulk at most 1048576: NARROWER than '..Said'. Prove '..Said' where nothing that the law and all that it calls make is longer than what came in: it says more and counts as full. Else prove '..UptoSaid'. A law counts once. -/
mutual
def uptoBulk {H : Type} : DataW H → Nat
  | .lit (.string bytes) => bytes.length + 1
  | .lit _ => 1
  | .nil => 1
  | .ptr d => uptoBulk d + 1
  | .slice elems spare => uptoBulkAll elems + uptoBulkAll spare + 1
  | .agg parts => uptoBulkAll parts + 1
  | .iface _ d => uptoBulk d + 1
  | .map entries => uptoBulkEntries entries + 1
  | .held _ => 1
def uptoBulkAll {H : Type} : List (DataW H) → Nat
  | [] => 0
  | d :: r => uptoBulk d + uptoBulkAll r
def uptoBulkEntries {H : Type} : List (Lit × DataW H) → Nat
  | [] => 0
  | x :: r => uptoBulkEntry x + uptoBulkEntries r
def uptoBulkEntry {H : Type} : Lit × DataW H → Nat
  | (.string bytes, d) => bytes.length + uptoBulk d + 1
  | (_, d) => uptoBulk d + 1
 end
def uptoSmall : (H : Type) → List (DataW H) → Bool := fun _ ds => decide (uptoBulkAll ds ≤ 1048576)
def OpenSpec.upto (s : _root_.Go.ChangeSpec) : _root_.Go.OpenSpec := { _root_.Go.OpenSpec.ofChange s with cond := some uptoSmall }

/-- 'concordlaw09.CursorPhrase', WHERE WHAT IT READS IS OF BULK AT MOST 1048576: true; the input reads as it did. -/
def cursorPhraseUptoRow : OpenClaim := { program := "ytedohkcoeebajaadoor", sum := "b6e651755852bcff0f87202839a8aeffe472c3d95546e4257ac3b9368141438d", func := "concord/concordlaw09.CursorPhrase", spec := "cursorPhrase", unfollowed := true, recurses := true, named := ["concord/api.ErrCorrupt", "concord/api.ErrLimit", "concord/api.ErrShort", "concord/api.ErrVarint", "concord/api.ErrOrder", "concord/api.ErrTail"], apart := false, laid := [("concord/api.ErrShort", laid_concord_api_ErrShort), ("concord/api.ErrVarint", laid_concord_api_ErrVarint), ("concord/api.ErrLimit", laid_concord_api_ErrLimit), ("concord/api.ErrOrder", laid_concord_api_ErrOrder), ("concord/api.ErrTail", laid_concord_api_ErrTail), ("concord/api.ErrCorrupt", laid_concord_api_ErrCorrupt)], narrowed := true }
def CursorPhraseUptoSaid : Prop := cursorPhraseUptoRow.holds Tryd.pinned (OpenSpec.upto cursorPhraseSpec)

/-- 'concordlaw09.CursorPhraseRules', WHERE WHAT IT READS IS OF BULK AT MOST 1048576: true; the input reads as it did. -/
def cursorPhraseRulesUptoRow : OpenClaim := { program := "ytedohkcoeebajaadoor", sum := "b6e651755852bcff0f87202839a8aeffe472c3d95546e4257ac3b9368141438d", func := "concord/concordlaw09.CursorPhraseRules", spec := "cursorPhraseRules", unfollowed := true, recurses := true, named := ["concord/api.ErrCorrupt", "concord/api.ErrLimit", "concord/api.ErrShort", "concord/api.ErrVarint", "concord/api.ErrOrder", "concord/api.ErrTail"], apart := false, laid := [("concord/api.ErrShort", laid_concord_api_ErrShort), ("concord/api.ErrVarint", laid_concord_api_ErrVarint), ("concord/api.ErrLimit", laid_concord_api_ErrLimit), ("concord/api.ErrOrder", laid_concord_api_ErrOrder), ("concord/api.ErrTail", laid_concord_api_ErrTail), ("concord/api.ErrCorrupt", laid_concord_api_ErrCorrupt)], narrowed := true }
def CursorPhraseRulesUptoSaid : Prop := cursorPhraseRulesUptoRow.holds Tryd.pinned (OpenSpec.upto cursorPhraseRulesSpec)

end Rows
end Go.Proofs.YtedohkcoeebajaaDoor
