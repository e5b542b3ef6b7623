import Derived.Test.YtnkmjhcddegkhaaDoorRows
import Derived.Test.YtnkmjhcddegkhaaDoorDcm
import Derived.Test.YtnkmjhcddegkhaaDoorShl
import Derived.WalkKit
import Derived.ProofKit
import Derived.OpenShut
import Derived.WalkLawsBesides
import Derived.Lib.AtoiErrMem
namespace Go.Proofs.YtnkmjhcddegkhaaDoor
open Go.ChangeShapes Go.WideShapes Go.ChangeAt Go.RowKit

def decV (l : List UInt8) : Int := (dec l).getD 0
def decB (l : List UInt8) : Bool := (dec l).isSome
theorem decV_some {l : List UInt8} {v : Int} (h : dec l = some v) : decV l = v := by rw [decV, h]; rfl
theorem decB_some {l : List UInt8} {v : Int} (h : dec l = some v) : decB l = true := by rw [decB, h]; rfl
theorem decV_none {l : List UInt8} (h : dec l = none) : decV l = 0 := by rw [decV, h]; rfl
theorem decB_none {l : List UInt8} (h : dec l = none) : decB l = false := by rw [decB, h]; rfl
theorem plus_iff (l : List UInt8) : Lib.hasPrefix l [43] = decide (l.head?.map (·.toNat) = some 43) := by
  match l with
  | [] => rfl
  | c :: r =>
    unfold Lib.hasPrefix
    simp only [List.isPrefixOf, Bool.and_true, List.head?_cons, Option.map_some, Option.some.injEq]
    rw [Bool.eq_iff_iff]
    simp only [beq_iff_eq, decide_eq_true_eq, ← UInt8.toNat_inj]
    exact eq_comm

set_option maxRecDepth 20000 in
set_option maxHeartbeats 1000000 in
/-- The project's ParseNumber, at every text. -/
theorem parse_any (s : ByteArray) (w : World) (hl : s.size ≤ 140737488355328) (ev0 ev1 : Value)
    (v0 : w.cell? ⟨1, 0, none⟩ = some ev0) (i0 : ∃ te pe, ev0 = .iface te pe) (v1 : w.cell? ⟨2, 0, none⟩ = some ev1) (i1 : ∃ te pe, ev1 = .iface te pe) :
    Calls Tryd.prog 42 #[.string s] w fun e w' => e = .returned (.tuple #[.int .i64 (decV s.data.toList), .bool (decB s.data.toList)]) ∧ Below w.heap.size w w' := by
  by_cases hp : s.data.toList.head?.map (·.toNat) = some 43
  · have hd := dec_plus _ hp
    rw [decV_none hd, decB_none hd]
    have hq : Lib.hasPrefix s.data.toList [43] = true := by rw [plus_iff, hp]; rfl
    go_enter Tryd.func42, Tryd.ntmps42
    go_wp2_with (go_at_call 53; refine (Tryd.strings_HasPrefix _ _ _).mono ?_; rintro e w' ⟨rfl, rfl⟩)
    go_ret2
    exact ⟨rfl, Below.refl _ _⟩
  · have hq : Lib.hasPrefix s.data.toList [43] = false := by rw [plus_iff]; exact decide_eq_false hp
    cases hd : dec s.data.toList with
    | some v =>
      rw [decV_some hd, decB_some hd]
      have hi := int_some _ v hp hd
      go_enter Tryd.func42, Tryd.ntmps42
      go_wp2_with (first
        | (go_at_call 53; refine (Tryd.strings_HasPrefix _ _ _).mono ?_; rintro e w' ⟨rfl, rfl⟩)
        | (go_at_call 54; refine (Tryd.strconv_ParseInt_10_at64_ok s (by omega) v hi _).mono ?_; rintro e w' ⟨rfl, hw⟩))
      go_ret2
      refine ⟨rfl, ?_⟩
      rcases hw with rfl | ⟨t, rfl⟩
      · exact Below.refl _ _
      · exact Lib.bytesWorld_below _ _ _
    | none =>
      rw [decV_none hd, decB_none hd]
      rcases int_none _ hp hd with hi | hi
      · go_enter Tryd.func42, Tryd.ntmps42
        go_wp2_with (first
          | (go_at_call 53; refine (Tryd.strings_HasPrefix _ _ _).mono ?_; rintro e w' ⟨rfl, rfl⟩)
          | (go_at_call 54; refine (Tryd.strconv_ParseInt_10_at64_syntax s (by omega) hi ev0 _ v0 (.inr i0)).mono ?_; rintro e w' ⟨N, rfl, -, -, hb⟩))
        go_ret2
        exact ⟨rfl, hb⟩
      · go_enter Tryd.func42, Tryd.ntmps42
        go_wp2_with (first
          | (go_at_call 53; refine (Tryd.strings_HasPrefix _ _ _).mono ?_; rintro e w' ⟨rfl, rfl⟩)
          | (go_at_call 54; refine (Tryd.strconv_ParseInt_10_at64_range s (by omega) hi ev1 _ v1 (.inr i1)).mono ?_; rintro e w' ⟨N, rfl, -, -, hb⟩))
        go_ret2
        exact ⟨rfl, hb⟩
end Go.Proofs.YtnkmjhcddegkhaaDoor
