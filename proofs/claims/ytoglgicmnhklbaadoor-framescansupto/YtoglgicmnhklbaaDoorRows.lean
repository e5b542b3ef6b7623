/-
  NARROWER THAN 'FOR EVERY INPUT', by the rows' own cells (each row's printed sentence says how): FrameScans: laid · FrameChains: laid · FrameOwnsScan: laid.
  DERIVED. THE GIVEN ROWS OF THIS SEAT. 3 by the template 'for every input the law returns true; each argument reads behind the call as it read before'; 0 by the template 'total and deterministic' (their statements: YtoglgicmnhklbaaDoorTotals.lean).
  GIVEN WITH THE SEED: the statements are not yours to turn. If you find one false, say at which input.
  Laid BY PROGRAM, IN A SANDBOX (cutbox-rows.mjs): the forced cells as the released guide's own fill.sh prints them over the translation c8b33b838b765cd3… (all of the seat's roots in one cut). By AI agents, Wed Nov 11 2026. No macro, syntax, notation, axiom, sorry.
-/
import Derived.Test.YtoglgicmnhklbaaDoorChecked
import GoSem.Claim
import GoSem.ClaimJoined
import GoSem.ClaimMapViews
import Derived.JoinedTies
import Derived.KernelRfl
namespace Go.Proofs.YtoglgicmnhklbaaDoor
/- THE CELL 'sum', in the pinned program and in every row, IS THE sha256 OF THE DUMP (.gsa) THAT YtoglgicmnhklbaaDoorProg.lean LOADS. Nothing in Lean hashes anything: it is a label: what it is worth is what the hold of that sum in a sandbox is worth. -/
noncomputable def Tryd.pinned : Pinned := { name := "ytoglgicmnhklbaadoor", sum := "c8b33b838b765cd3d95a5633ae36e13d5d43b32bda444ec69fb678ab851079f1", checked := Tryd.checked }
namespace Rows
def none {H : Type} : Left H := { results := [], args := [] }

/- WHAT THE LISTED PACKAGE-LEVEL VARIABLES READ AS WHEN THE CALL BEGINS. Each datum BY PROGRAM (the guide's laid-datum.mjs) off the statement by which the dump's own 'gosem.cut.vars' lays the variable. In a bare row this is a premise. The card (YtoglgicmnhklbaaDoorCards.lean) ties it to the program's text. -/
def laid_concord_api_ErrShort {H : Type} : DataW H := .iface "*errors.errorString" (.ptr (.agg [.lit (.string [99, 111, 110, 99, 111, 114, 100, 58, 32, 116, 111, 111, 32, 115, 104, 111, 114, 116])]))
def laid_concord_api_ErrVarint {H : Type} : DataW H := .iface "*errors.errorString" (.ptr (.agg [.lit (.string [99, 111, 110, 99, 111, 114, 100, 58, 32, 118, 97, 114, 105, 110, 116])]))
def laid_concord_api_ErrTag {H : Type} : DataW H := .iface "*errors.errorString" (.ptr (.agg [.lit (.string [99, 111, 110, 99, 111, 114, 100, 58, 32, 116, 97, 103])]))
def laid_concord_api_ErrSum {H : Type} : DataW H := .iface "*errors.errorString" (.ptr (.agg [.lit (.string [99, 111, 110, 99, 111, 114, 100, 58, 32, 115, 117, 109])]))
def laid_concord_frame_steps {H : Type} : DataW H := .agg [.agg [.lit (.int .u32 0), .lit (.int .u32 498536548), .lit (.int .u32 997073096), .lit (.int .u32 651767980), .lit (.int .u32 1994146192), .lit (.int .u32 1802195444), .lit (.int .u32 1303535960), .lit (.int .u32 1342533948), .lit (.int .u32 3988292384), .lit (.int .u32 4027552580), .lit (.int .u32 3604390888), .lit (.int .u32 3412177804), .lit (.int .u32 2607071920), .lit (.int .u32 2262029012), .lit (.int .u32 2685067896), .lit (.int .u32 3183342108)], .agg [.lit (.int .u32 0), .lit (.int .u32 274646895), .lit (.int .u32 549293790), .lit (.int .u32 820201905), .lit (.int .u32 1098587580), .lit (.int .u32 1361435347), .lit (.int .u32 1640403810), .lit (.int .u32 1905808397), .lit (.int .u32 2197175160), .lit (.int .u32 2460548119), .lit (.int .u32 2722870694), .lit (.int .u32 2987750089), .lit (.int .u32 3280807620), .lit (.int .u32 3553878443), .lit (.int .u32 3811616794), .lit (.int .u32 4084100981)]]

/-- 'concordlaw02.FrameScans': WHATEVER THE INPUT: true; the input reads as it did. -/
def frameScansSpec : ChangeSpec := { name := "frameScans", fn := fun _ => fun
  | [d1, d2] => { results := [.lit (.bool true)], args := [d1, d2] }
  | _ => none }
def frameScansRow : OpenClaim := { program := "ytoglgicmnhklbaadoor", sum := "c8b33b838b765cd3d95a5633ae36e13d5d43b32bda444ec69fb678ab851079f1", func := "concord/concordlaw02.FrameScans", spec := "frameScans", unfollowed := true, recurses := true, named := ["concord/api.ErrTag", "concord/frame.steps", "concord/api.ErrSum", "concord/api.ErrShort", "concord/api.ErrVarint"], apart := false, laid := [("concord/api.ErrShort", laid_concord_api_ErrShort), ("concord/api.ErrVarint", laid_concord_api_ErrVarint), ("concord/api.ErrTag", laid_concord_api_ErrTag), ("concord/api.ErrSum", laid_concord_api_ErrSum), ("concord/frame.steps", laid_concord_frame_steps)] }
def FrameScansSaid : Prop := frameScansRow.holds Tryd.pinned (OpenSpec.ofChange frameScansSpec)

/-- ITS FALSE NEIGHBOUR: 'it returns false'. Refute it at one input. -/
def frameScansWrong : ChangeSpec := { name := "frameScans", fn := fun _ => fun
  | [d1, d2] => { results := [.lit (.bool false)], args := [d1, d2] }
  | _ => none }
def FrameScansWrongFalsely : Prop := frameScansRow.holds Tryd.pinned (OpenSpec.ofChange frameScansWrong)

/-- 'concordlaw02.FrameChains': WHATEVER THE INPUT: true; the input reads as it did. -/
def frameChainsSpec : ChangeSpec := { name := "frameChains", fn := fun _ => fun
  | [d1, d2] => { results := [.lit (.bool true)], args := [d1, d2] }
  | _ => none }
def frameChainsRow : OpenClaim := { program := "ytoglgicmnhklbaadoor", sum := "c8b33b838b765cd3d95a5633ae36e13d5d43b32bda444ec69fb678ab851079f1", func := "concord/concordlaw02.FrameChains", spec := "frameChains", unfollowed := true, recurses := true, named := ["concord/api.ErrTag", "concord/frame.steps", "concord/api.ErrSum", "concord/api.ErrShort", "concord/api.ErrVarint"], apart := false, laid := [("concord/api.ErrShort", laid_concord_api_ErrShort), ("concord/api.ErrVarint", laid_concord_api_ErrVarint), ("concord/api.ErrTag", laid_concord_api_ErrTag), ("concord/api.ErrSum", laid_concord_api_ErrSum), ("concord/frame.steps", laid_concord_frame_steps)] }
def FrameChainsSaid : Prop := frameChainsRow.holds Tryd.pinned (OpenSpec.ofChange frameChainsSpec)

/-- ITS FALSE NEIGHBOUR: 'it returns false'. Refute it at one input. -/
def frameChainsWrong : ChangeSpec := { name := "frameChains", fn := fun _ => fun
  | [d1, d2] => { results := [.lit (.bool false)], args := [d1, d2] }
  | _ => none }
def FrameChainsWrongFalsely : Prop := frameChainsRow.holds Tryd.pinned (OpenSpec.ofChange frameChainsWrong)

/-- 'concordlaw02.FrameOwnsScan': WHATEVER THE INPUT: true; the input reads as it did. -/
def frameOwnsScanSpec : ChangeSpec := { name := "frameOwnsScan", fn := fun _ => fun
  | [d] => { results := [.lit (.bool true)], args := [d] }
  | _ => none }
def frameOwnsScanRow : OpenClaim := { program := "ytoglgicmnhklbaadoor", sum := "c8b33b838b765cd3d95a5633ae36e13d5d43b32bda444ec69fb678ab851079f1", func := "concord/concordlaw02.FrameOwnsScan", spec := "frameOwnsScan", unfollowed := true, recurses := true, named := ["concord/api.ErrTag", "concord/frame.steps", "concord/api.ErrSum", "concord/api.ErrShort", "concord/api.ErrVarint"], apart := false, laid := [("concord/api.ErrShort", laid_concord_api_ErrShort), ("concord/api.ErrVarint", laid_concord_api_ErrVarint), ("concord/api.ErrTag", laid_concord_api_ErrTag), ("concord/api.ErrSum", laid_concord_api_ErrSum), ("concord/frame.steps", laid_concord_frame_steps)] }
def FrameOwnsScanSaid : Prop := frameOwnsScanRow.holds Tryd.pinned (OpenSpec.ofChange frameOwnsScanSpec)

/-- ITS FALSE NEIGHBOUR: 'it returns false'. Refute it at one input. -/
def frameOwnsScanWrong : ChangeSpec := { name := "frameOwnsScan", fn := fun _ => fun
  | [d] => { results := [.lit (.bool false)], args := [d] }
  | _ => none }
def FrameOwnsScanWrongFalsely : Prop := frameOwnsScanRow.holds Tryd.pinned (OpenSpec.ofChange frameOwnsScanWrong)

/- THE SECOND FORM. 'bulk': how many values and letters a reading holds, each counted each time it is reached (what is shared counts as often as it is met; a slice's spare places count too). A statement '..UptoSaid' is the law's where the arguments, and the package variables that the reading takes, are together of bulk at most 1048576: NARROWER than '..Said'. Prove '..Said' where nothing that the law and all that it calls make is longer than what came in: it says more and counts as full. Else prove '..UptoSaid'. A law counts once. -/
mutual
def uptoBulk {H : Type} : DataW H → Nat
  | .lit (.string bytes) => bytes.length + 1
  | .lit _ => 1
  | .nil => 1
  | .ptr d => uptoBulk d + 1
  | .slice elems spare => uptoBulkAll elems + uptoBulkAll spare + 1
  | .agg parts => uptoBulkAll parts + 1
  | .iface _ d => uptoBulk d + 1
  | .map entries => uptoBulkEntries entries + 1
  | .held _ => 1
def uptoBulkAll {H : Type} : List (DataW H) → Nat
  | [] => 0
  | d :: r => uptoBulk d + uptoBulkAll r
def uptoBulkEntries {H : Type} : List (Lit × DataW H) → Nat
  | [] => 0
  | x :: r => uptoBulkEntry x + uptoBulkEntries r
def uptoBulkEntry {H : Type} : Lit × DataW H → Nat
  | (.string bytes, d) => bytes.length + uptoBulk d + 1
  | (_, d) => uptoBulk d + 1
 end
def uptoSmall : (H : Type) → List (DataW H) → Bool := fun _ ds => decide (uptoBulkAll ds ≤ 1048576)
def OpenSpec.upto (s : _root_.Go.ChangeSpec) : _root_.Go.OpenSpec := { _root_.Go.OpenSpec.ofChange s with cond := some uptoSmall }

/-- 'concordlaw02.FrameScans', WHERE WHAT IT READS IS OF BULK AT MOST 1048576: true; the input reads as it did. -/
def frameScansUptoRow : OpenClaim := { program := "ytoglgicmnhklbaadoor", sum := "c8b33b838b765cd3d95a5633ae36e13d5d43b32bda444ec69fb678ab851079f1", func := "concord/concordlaw02.FrameScans", spec := "frameScans", unfollowed := true, recurses := true, named := ["concord/api.ErrTag", "concord/frame.steps", "concord/api.ErrSum", "concord/api.ErrShort", "concord/api.ErrVarint"], apart := false, laid := [("concord/api.ErrShort", laid_concord_api_ErrShort), ("concord/api.ErrVarint", laid_concord_api_ErrVarint), ("concord/api.ErrTag", laid_concord_api_ErrTag), ("concord/api.ErrSum", laid_concord_api_ErrSum), ("concord/frame.steps", laid_concord_frame_steps)], narrowed := true }
def FrameScansUptoSaid : Prop := frameScansUptoRow.holds Tryd.pinned (OpenSpec.upto frameScansSpec)

/-- 'concordlaw02.FrameChains', WHERE WHAT IT READS IS OF BULK AT MOST 1048576: true; the input reads as it did. -/
def frameChainsUptoRow : OpenClaim := { program := "ytoglgicmnhklbaadoor", sum := "c8b33b838b765cd3d95a5633ae36e13d5d43b32bda444ec69fb678ab851079f1", func := "concord/concordlaw02.FrameChains", spec := "frameChains", unfollowed := true, recurses := true, named := ["concord/api.ErrTag", "concord/frame.steps", "concord/api.ErrSum", "concord/api.ErrShort", "concord/api.ErrVarint"], apart := false, laid := [("concord/api.ErrShort", laid_concord_api_ErrShort), ("concord/api.ErrVarint", laid_concord_api_ErrVarint), ("concord/api.ErrTag", laid_concord_api_ErrTag), ("concord/api.ErrSum", laid_concord_api_ErrSum), ("concord/frame.steps", laid_concord_frame_steps)], narrowed := true }
def FrameChainsUptoSaid : Prop := frameChainsUptoRow.holds Tryd.pinned (OpenSpec.upto frameChainsSpec)

/-- 'concordlaw02.FrameOwnsScan', WHERE WHAT IT READS IS OF BULK AT MOST 1048576: true; the input reads as it did. -/
def frameOwnsScanUptoRow : OpenClaim := { program := "ytoglgicmnhklbaadoor", sum := "c8b33b838b765cd3d95a5633ae36e13d5d43b32bda444ec69fb678ab851079f1", func := "concord/concordlaw02.FrameOwnsScan", spec := "frameOwnsScan", unfollowed := true, recurses := true, named := ["concord/api.ErrTag", "concord/frame.steps", "concord/api.ErrSum", "concord/api.ErrShort", "concord/api.ErrVarint"], apart := false, laid := [("concord/api.ErrShort", laid_concord_api_ErrShort), ("concord/api.ErrVarint", laid_concord_api_ErrVarint), ("concord/api.ErrTag", laid_concord_api_ErrTag), ("concord/api.ErrSum", laid_concord_api_ErrSum), ("concord/frame.steps", laid_concord_frame_steps)], narrowed := true }
def FrameOwnsScanUptoSaid : Prop := frameOwnsScanUptoRow.holds Tryd.pinned (OpenSpec.upto frameOwnsScanSpec)

end Rows
end Go.Proofs.YtoglgicmnhklbaaDoor
