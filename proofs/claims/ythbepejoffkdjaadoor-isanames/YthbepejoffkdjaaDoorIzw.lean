import Derived.Test.YthbepejoffkdjaaDoorIzu
import Derived.Test.YthbepejoffkdjaaDoorIzv
import Derived.Test.YthbepejoffkdjaaDoorCards
import Derived.Test.YthbepejoffkdjaaDoorTie
import Derived.Test.YthbepejoffkdjaaDoorFrm
namespace Go.Proofs.YthbepejoffkdjaaDoor
open Go.ChangeShapes Go.WideShapes Go.ChangeAt Go.RowKit

set_option maxRecDepth 20000 in
set_option maxHeartbeats 1000000 in
theorem isaNames_contract (H : Type) (enc : TypeId × Value → H) (W : World) (base : Nat) (args : Array Value) (ds gs : List (DataW H)) (before : List MemPlace)
    (hval : ∀ (j : Nat) t v, Tryd.f3.params[j]? = some t → args[j]? = some v → Value.okWide Tryd.prog W .any base t v)
    (hW : DataW.Whole enc Tryd.prog Tryd.f3.params.toList Rows.isaNamesSpec.vars false W args.toList ds gs before) (hsz0 : (DataW.weightsEach Tryd.prog (Tryd.f3.params.toList ++ Rows.isaNamesSpec.plain.varTypes Tryd.prog) (ds ++ gs)).all (· ≤ reachBytes) = true) (hL0 : laidMetH Tryd.prog Rows.isaNamesRow.laid W) :
    Calls Tryd.prog 3 args W fun e W' => ∃ v, e = .returned v ∧ Rows.isaNamesSpec.post enc Tryd.prog Tryd.f3 false true false false W args v W' := by
  have hL : laidMet Tryd.prog Rows.isaNamesRow.laid W := hL0
  have hW' := hW
  obtain ⟨p, q, hA0, hV, rfl, _, _⟩ := hW
  have hA : DataW.TrodAll enc Tryd.prog W 0 (fun _ => true) true Tryd.f3.params.toList args.toList ds p := hA0
  have hsz := hsz0
  rw [Tryd.params3] at hA hval hsz
  obtain ⟨v0, vs0, d0, ds0, p0, q0, hargs, rfl, rfl, h0, r0⟩ := trodAll_cons hA
  obtain ⟨rfl, rfl, rfl⟩ := trodAll_nil r0
  obtain rfl : args = #[v0] := by cases args; simp_all
  obtain ⟨rfl, rfl⟩ := trodVars_none hV
  obtain ⟨op, rfl, rfl, rfl, w0⟩ := open_int Tryd.underlying3 (hval 0 3 v0 rfl rfl) h0
  have bop := bounds_i64 w0
  clear hA0 hval
  simp only [List.append_nil] at hW'
  obtain ⟨e0, s0⟩ := sent0 hL (by unfold Rows.isaNamesRow; repeat (first | exact List.mem_cons_self | apply List.mem_cons_of_mem))
  obtain ⟨e1, s1⟩ := sent1 hL (by unfold Rows.isaNamesRow; repeat (first | exact List.mem_cons_self | apply List.mem_cons_of_mem))
  obtain ⟨e35, s35⟩ := sent35 hL (by unfold Rows.isaNamesRow; repeat (first | exact List.mem_cons_self | apply List.mem_cons_of_mem))
  refine (names_all op e0 e1 e35 W ⟨⟨s0.var, s1.var, s35.var⟩, ops_at hL (by unfold Rows.isaNamesRow; repeat (first | exact List.mem_cons_self | apply List.mem_cons_of_mem)), pw_at hL (by unfold Rows.isaNamesRow; repeat (first | exact List.mem_cons_self | apply List.mem_cons_of_mem))⟩).mono fun e W' ⟨he, kept⟩ => ?_
  subst he
  have bel : Below W.heap.size W W' := kept.below (Nat.le_refl _) (fun _ _ f => f)
  exact ⟨_, rfl, _, _, _, [], _, [], hW', trodAll_cons_mk (shut_bool Tryd.underlying4 _) trodAll_mk0, (trodAll_cons_mk (shut_int Tryd.underlying3 w0) trodAll_mk0), rfl, bel.frame _, fun h => by cases h⟩

/-- The witness's arguments. -/
def isaNamesArgs : Array Value := #[.int .i64 0]
theorem isaNames_reads (os : Os) {H : Type} (enc : TypeId × Value → H) : ∃ places, DataW.whole enc Tryd.prog ((World.laidAll Tryd.prog os Rows.isaNamesRow.laid).forCall (fun _ _ => 0) ⟨#[], isaNamesArgs, []⟩).memory Tryd.f3.params.toList Rows.isaNamesSpec.vars false isaNamesArgs.toList 8 = some ([.lit (.int .i64 0)], [], places) :=
  ⟨[], by kernel_rfl⟩
set_option maxRecDepth 100000 in
theorem isaNames_lifted (os : Os) (started : os.Started) (H : Type) (enc : TypeId × Value → H) (F : Stop.Interp) :
    ReturnsInHanded {} Tryd.checked os 3 .any ((OpenSpec.ofChange Rows.isaNamesSpec).preRow enc Tryd.prog Tryd.f3 Rows.isaNamesRow.domain false Rows.isaNamesRow.laid) (((OpenSpec.ofChange Rows.isaNamesSpec).at F).post enc Tryd.prog Tryd.f3 false true false false) := by
  obtain ⟨places, hx⟩ := isaNames_reads os enc
  refine returnsInHanded_of_row (C := Tryd.checked) (s := OpenSpec.ofChange Rows.isaNamesSpec) ownK started (by kernel_rfl) Tryd.func3
    (row_witness (enc := enc) (C := Tryd.checked) (World.laidAll Tryd.prog os Rows.isaNamesRow.laid) isaNamesArgs (World.laidAll_os _ _ _) (World.shaped_of_ZipB (by kernel_rfl) (by kernel_rfl)) (by kernel_rfl)
      (OpenSpec.preRow_of_cond 8 hx (by kernel_rfl) (fun k hk => by cases hk) (by kernel_rfl) (by rw [MakeChecks.laidMetH_plain _ _ _ (by kernel_rfl)]; exact laidMet_laidAll _ (by kernel_rfl) (by kernel_rfl)))) ?_
  intro W base args ds gs before hval hW _ _ hsz hL _ _
  exact isaNames_contract H enc W base args ds gs before hval hW hsz hL

theorem isaNames_said : Rows.IsaNamesSaid :=
  OpenClaim.holds_of_cond 3 Tryd.f3 rfl rfl rfl rfl rfl rfl rfl ⟨rfl, rfl, rfl, rfl, rfl⟩ rfl rfl rfl rfl rfl (by kernel_rfl) Tryd.func3 (by kernel_rfl)
    (of_decide_eq_true (by kernel_rfl)) (by unfold Func.isWrapper; first | (rw [if_pos (by decide +kernel)]; kernel_rfl) | (rw [if_neg (by decide +kernel)]; exact ⟨rfl, rfl⟩))
    (fun os started H enc _ F => by rw [OpenClaim.pre_eq_preRow]; exact isaNames_lifted os started H enc F)
theorem isaNames_plain (f : FuncId) (fn : Func) (hf : Tryd.pinned.checked.prog.funcNamed "concord/concordlaw20.IsaNames" = some f) (hfn : Tryd.pinned.checked.prog.funcs[f]? = some fn) :
    true = Tryd.pinned.checked.prog.looks [] ∧ ∀ (j : Nat) t, fn.params[j]? = some t → Tryd.pinned.checked.prog.wantsStandIn t = false := by
  obtain rfl : f = 3 := Option.some.inj ((show Tryd.prog.funcNamed "concord/concordlaw20.IsaNames" = some 3 by kernel_rfl).symm.trans hf) |>.symm
  obtain rfl : fn = Tryd.f3 := (Option.some.inj (Tryd.func3.symm.trans hfn)).symm
  refine ⟨by kernel_rfl, fun j t ht => ?_⟩
  rw [Tryd.params3] at ht
  have hm : t ∈ [3] := by simpa using Array.mem_of_getElem? ht
  have hall : ([3].all fun u => !Tryd.prog.wantsStandIn u) = true := by kernel_rfl
  exact (show Tryd.prog.wantsStandIn t = false by simpa using List.all_eq_true.1 hall t hm)
theorem isaNames_holds : Rows.IsaNamesCardSaid :=
  Claim7.holds_tied_plain_at .later [] _ _ _ _ isaNames_said (fun _ h => by cases h) (by kernel_rfl) (fun _ h => by cases h) isaNames_row_tie rfl ⟨rfl, rfl⟩ (by kernel_rfl) rfl isaNames_plain (by kernel_rfl)
#print axioms isaNames_holds
end Go.Proofs.YthbepejoffkdjaaDoor
