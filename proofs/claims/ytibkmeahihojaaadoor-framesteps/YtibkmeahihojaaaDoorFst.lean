import Derived.Test.YtibkmeahihojaaaDoorFss
import Derived.Test.YtibkmeahihojaaaDoorOpb
import Derived.Test.YtibkmeahihojaaaDoorOst
import Derived.Test.YtibkmeahihojaaaDoorCards
import Derived.Test.YtibkmeahihojaaaDoorTie
import Derived.Test.YtibkmeahihojaaaDoorFrm
namespace Go.Proofs.YtibkmeahihojaaaDoor
open Go.ChangeShapes Go.WideShapes Go.ChangeAt Go.RowKit

set_option maxRecDepth 20000 in
set_option maxHeartbeats 1000000 in
theorem frameSteps_contract (H : Type) (enc : TypeId × Value → H) (W : World) (base : Nat) (args : Array Value) (ds gs : List (DataW H)) (before : List MemPlace)
    (hval : ∀ (j : Nat) t v, Tryd.f5.params[j]? = some t → args[j]? = some v → Value.okWide Tryd.prog W .any base t v)
    (hW : DataW.Whole enc Tryd.prog Tryd.f5.params.toList Rows.frameStepsSpec.vars false W args.toList ds gs before) (hsz0 : (DataW.weightsEach Tryd.prog (Tryd.f5.params.toList ++ Rows.frameStepsSpec.plain.varTypes Tryd.prog) (ds ++ gs)).all (· ≤ reachBytes) = true) (hL0 : laidMetH Tryd.prog Rows.frameStepsRow.laid W) :
    Calls Tryd.prog 5 args W fun e W' => ∃ v, e = .returned v ∧ Rows.frameStepsSpec.post enc Tryd.prog Tryd.f5 false true false false W args v W' := by
  have hL : laidMet Tryd.prog Rows.frameStepsRow.laid W := hL0
  have hW' := hW
  obtain ⟨p, q, hA0, hV, rfl, _, _⟩ := hW
  have hA : DataW.TrodAll enc Tryd.prog W 0 (fun _ => true) true Tryd.f5.params.toList args.toList ds p := hA0
  have hsz := hsz0
  rw [Tryd.params5] at hA hval hsz
  obtain ⟨v0, vs0, d0, ds0, p0, q0, hargs, rfl, rfl, h0, r0⟩ := trodAll_cons hA
  obtain ⟨rfl, rfl, rfl⟩ := trodAll_nil r0
  obtain rfl : args = #[v0] := by cases args; simp_all
  obtain ⟨rfl, rfl⟩ := trodVars_none hV
  have k0 := h0
  have lt0 : ∀ x ∈ p0, x.block < W.heap.size := by obtain ⟨m, hm⟩ := k0; exact DataW.trod_lt m _ _ _ hm
  obtain ⟨cs0, rfl, -⟩ := okWide_struct Tryd.underlying31 (hval 0 31 v0 rfl rfl)
  obtain ⟨fuel0, hf0⟩ := h0
  obtain ⟨a, b, n, m, hcs0, hba, hbb, hbn, hbm⟩ := steps_of hf0
  obtain rfl : cs0 = #[.int .u32 a, .int .u32 b, .int .i64 n, .int .i64 m] := by
    have e : cs0.toList = [.int .u32 a, .int .u32 b, .int .i64 n, .int .i64 m] := hcs0
    cases cs0
    simp only at e
    rw [e]
  clear hA0 hval
  simp only [List.append_nil] at hW'
  have hTab := tab_at hL (by unfold Rows.frameStepsRow; repeat (first | exact List.mem_cons_self | apply List.mem_cons_of_mem))
  refine (steps_walk a b n m W hba hbb hbn.1 hbn.2 hbm.1 hbm.2 hTab).mono fun e W' ⟨he, kept⟩ => ?_
  subst he
  have bel : Below W.heap.size W W' := kept.below (Nat.le_refl _) (fun _ _ f => f)
  exact ⟨_, rfl, _, _, _, [], _, [], hW', trodAll_cons_mk (shut_bool Tryd.underlying4 _) trodAll_mk0, (trodAll_cons_mk (Below.trod laidOut (by kernel_rfl) (of_decide_eq_true (by kernel_rfl)) k0 bel lt0) trodAll_mk0), rfl, bel.frame _, fun h => by cases h⟩

/-- The witness's arguments. -/
def frameStepsArgs : Array Value := #[.agg #[.int .u32 0, .int .u32 0, .int .i64 0, .int .i64 0]]
theorem frameSteps_reads (os : Os) {H : Type} (enc : TypeId × Value → H) : ∃ places, DataW.whole enc Tryd.prog ((World.laidAll Tryd.prog os Rows.frameStepsRow.laid).forCall (fun _ _ => 0) ⟨#[], frameStepsArgs, []⟩).memory Tryd.f5.params.toList Rows.frameStepsSpec.vars false frameStepsArgs.toList 8 = some ([.agg [.lit (.int .u32 0), .lit (.int .u32 0), .lit (.int .i64 0), .lit (.int .i64 0)]], [], places) :=
  ⟨[], by kernel_rfl⟩
set_option maxRecDepth 100000 in
theorem frameSteps_lifted (os : Os) (started : os.Started) (H : Type) (enc : TypeId × Value → H) (F : Stop.Interp) :
    ReturnsInHanded {} Tryd.checked os 5 .any ((OpenSpec.ofChange Rows.frameStepsSpec).preRow enc Tryd.prog Tryd.f5 Rows.frameStepsRow.domain false Rows.frameStepsRow.laid) (((OpenSpec.ofChange Rows.frameStepsSpec).at F).post enc Tryd.prog Tryd.f5 false true false false) := by
  obtain ⟨places, hx⟩ := frameSteps_reads os enc
  refine returnsInHanded_of_row (C := Tryd.checked) (s := OpenSpec.ofChange Rows.frameStepsSpec) ownK started (by kernel_rfl) Tryd.func5
    (row_witness (enc := enc) (C := Tryd.checked) (World.laidAll Tryd.prog os Rows.frameStepsRow.laid) frameStepsArgs (World.laidAll_os _ _ _) (World.shaped_of_ZipB (by kernel_rfl) (by kernel_rfl)) (by kernel_rfl)
      (OpenSpec.preRow_of_cond 8 hx (by kernel_rfl) (fun k hk => by cases hk) (by kernel_rfl) (by rw [MakeChecks.laidMetH_plain _ _ _ (by kernel_rfl)]; exact laidMet_laidAll _ (by kernel_rfl) (by kernel_rfl)))) ?_
  intro W base args ds gs before hval hW _ _ hsz hL _ _
  exact frameSteps_contract H enc W base args ds gs before hval hW hsz hL

theorem frameSteps_said : Rows.FrameStepsSaid :=
  OpenClaim.holds_of_cond 5 Tryd.f5 rfl rfl rfl rfl rfl rfl rfl ⟨rfl, rfl, rfl, rfl, rfl⟩ rfl rfl rfl rfl rfl (by kernel_rfl) Tryd.func5 (by kernel_rfl)
    (of_decide_eq_true (by kernel_rfl)) (by unfold Func.isWrapper; first | (rw [if_pos (by decide +kernel)]; kernel_rfl) | (rw [if_neg (by decide +kernel)]; exact ⟨rfl, rfl⟩))
    (fun os started H enc _ F => by rw [OpenClaim.pre_eq_preRow]; exact frameSteps_lifted os started H enc F)
theorem frameSteps_plain (f : FuncId) (fn : Func) (hf : Tryd.pinned.checked.prog.funcNamed "concord/concordlaw02.FrameSteps" = some f) (hfn : Tryd.pinned.checked.prog.funcs[f]? = some fn) :
    false = Tryd.pinned.checked.prog.looks [] ∧ ∀ (j : Nat) t, fn.params[j]? = some t → Tryd.pinned.checked.prog.wantsStandIn t = false := by
  obtain rfl : f = 5 := Option.some.inj ((show Tryd.prog.funcNamed "concord/concordlaw02.FrameSteps" = some 5 by kernel_rfl).symm.trans hf) |>.symm
  obtain rfl : fn = Tryd.f5 := (Option.some.inj (Tryd.func5.symm.trans hfn)).symm
  refine ⟨by kernel_rfl, fun j t ht => ?_⟩
  rw [Tryd.params5] at ht
  have hm : t ∈ [31] := by simpa using Array.mem_of_getElem? ht
  have hall : ([31].all fun u => !Tryd.prog.wantsStandIn u) = true := by kernel_rfl
  exact (show Tryd.prog.wantsStandIn t = false by simpa using List.all_eq_true.1 hall t hm)
theorem frameSteps_holds : Rows.FrameStepsCardSaid :=
  Claim7.holds_tied_plain_at .later [] _ _ _ _ frameSteps_said (fun _ h => by cases h) (by kernel_rfl) (fun _ h => by cases h) frameSteps_row_tie rfl ⟨rfl, rfl⟩ (by kernel_rfl) rfl frameSteps_plain (by kernel_rfl)
#print axioms frameSteps_holds
end Go.Proofs.YtibkmeahihojaaaDoor
