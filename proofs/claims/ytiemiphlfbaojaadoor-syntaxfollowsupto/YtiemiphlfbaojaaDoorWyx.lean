import Derived.Test.YtiemiphlfbaojaaDoorMrg9
import Derived.Test.YtiemiphlfbaojaaDoorLyt
import Derived.Test.YtiemiphlfbaojaaDoorCards
import Derived.Test.YtiemiphlfbaojaaDoorTie
import Derived.Test.YtiemiphlfbaojaaDoorFrm
namespace Go.Proofs.YtiemiphlfbaojaaDoor
open Go.ChangeShapes Go.WideShapes Go.ChangeAt Go.RowKit

set_option maxRecDepth 20000 in
set_option maxHeartbeats 1000000 in
theorem syntaxFollows_contract (H : Type) (enc : TypeId × Value → H) (W : World) (base : Nat) (args : Array Value) (ds gs : List (DataW H)) (before : List MemPlace)
    (hval : ∀ (j : Nat) t v, Tryd.f4.params[j]? = some t → args[j]? = some v → Value.okWide Tryd.prog W .any base t v)
    (hW : DataW.Whole enc Tryd.prog Tryd.f4.params.toList Rows.syntaxFollowsSpec.vars false W args.toList ds gs before) (hk : Rows.uptoSmall H (ds ++ gs) = true) (hL0 : laidMetH Tryd.prog Rows.syntaxFollowsUptoRow.laid W) :
    Calls Tryd.prog 4 args W fun e W' => ∃ v, e = .returned v ∧ Rows.syntaxFollowsSpec.post enc Tryd.prog Tryd.f4 false true false false W args v W' := by
  have hL : laidMet Tryd.prog Rows.syntaxFollowsUptoRow.laid W := hL0
  have hW' := hW
  obtain ⟨p, q, hA0, hV, rfl, _, _⟩ := hW
  have hA : DataW.TrodAll enc Tryd.prog W 0 (fun _ => true) true Tryd.f4.params.toList args.toList ds p := hA0
  rw [Tryd.params4] at hA hval
  obtain ⟨v0, vs0, d0, ds0, p0, q0, hargs, rfl, rfl, h0, r0⟩ := trodAll_cons hA
  obtain ⟨rfl, rfl, rfl⟩ := trodAll_nil r0
  obtain rfl : args = #[v0] := by cases args; simp_all
  obtain ⟨rfl, rfl⟩ := trodVars_none hV
  have hb := of_decide_eq_true hk
  simp only [List.append_nil, Rows.uptoBulkAll] at hb
  have k0 := h0
  have lt0 : ∀ x ∈ p0, x.block < W.heap.size := by obtain ⟨m, hm⟩ := k0; exact DataW.trod_lt m _ _ _ hm
  obtain ⟨aN, lenN, capN, rfl⟩ := okWide_slice Tryd.underlying31 (hval 0 31 v0 rfl rfl)
  obtain ⟨fuel0, hf0⟩ := h0
  obtain ⟨taN, tcN, LN, htsN, hPN, hlN⟩ := lexs_of hf0
  simp only [Value.cells, List.cons.injEq, Value.slice.injEq, and_true] at htsN
  obtain ⟨rfl, rfl, rfl⟩ := htsN
  have hbN : LN.length < Rows.uptoBulk d0 := hlN
  clear hA0 hval
  simp only [List.append_nil] at hW'
  refine (follows_all LN _ rfl aN capN W (cls_at hL (by unfold Rows.syntaxFollowsUptoRow; repeat (first | exact List.mem_cons_self | apply List.mem_cons_of_mem))) (syn_at hL (by unfold Rows.syntaxFollowsUptoRow; repeat (first | exact List.mem_cons_self | apply List.mem_cons_of_mem))) hPN (by omega)).mono fun e W' ⟨he, kept⟩ => ?_
  subst he
  have bel : Below W.heap.size W W' := kept.below (Nat.le_refl _) (fun _ _ f => f)
  exact ⟨_, rfl, _, _, _, [], _, [], hW', trodAll_cons_mk (shut_bool Tryd.underlying4 _) trodAll_mk0, (trodAll_cons_mk (Below.trod laidOut (by kernel_rfl) (of_decide_eq_true (by kernel_rfl)) k0 bel lt0) trodAll_mk0), rfl, bel.frame _, fun h => by cases h⟩

/-- The witness's arguments. -/
def syntaxFollowsArgs : Array Value := #[.slice none 0 0]
theorem syntaxFollows_reads (os : Os) {H : Type} (enc : TypeId × Value → H) : ∃ places, DataW.whole enc Tryd.prog ((World.laidAll Tryd.prog os Rows.syntaxFollowsUptoRow.laid).forCall (fun _ _ => 0) ⟨#[], syntaxFollowsArgs, []⟩).memory Tryd.f4.params.toList Rows.syntaxFollowsSpec.vars false syntaxFollowsArgs.toList 8 = some ([.nil], [], places) :=
  ⟨[], by kernel_rfl⟩
set_option maxRecDepth 100000 in
theorem syntaxFollows_lifted (os : Os) (started : os.Started) (H : Type) (enc : TypeId × Value → H) (F : Stop.Interp) :
    ReturnsInHanded {} Tryd.checked os 4 .any ((Rows.OpenSpec.upto Rows.syntaxFollowsSpec).preRow enc Tryd.prog Tryd.f4 Rows.syntaxFollowsUptoRow.domain false Rows.syntaxFollowsUptoRow.laid) (((Rows.OpenSpec.upto Rows.syntaxFollowsSpec).at F).post enc Tryd.prog Tryd.f4 false true false false) := by
  obtain ⟨places, hx⟩ := syntaxFollows_reads os enc
  refine returnsInHanded_of_row (C := Tryd.checked) (s := Rows.OpenSpec.upto Rows.syntaxFollowsSpec) ownK started (by kernel_rfl) Tryd.func4
    (row_witness (enc := enc) (C := Tryd.checked) (World.laidAll Tryd.prog os Rows.syntaxFollowsUptoRow.laid) syntaxFollowsArgs (World.laidAll_os _ _ _) (World.shaped_of_ZipB (by kernel_rfl) (by kernel_rfl)) (by kernel_rfl)
      (OpenSpec.preRow_of_cond 8 hx (by kernel_rfl) (fun k hk => by cases hk; kernel_rfl) (by kernel_rfl) (by rw [MakeChecks.laidMetH_plain _ _ _ (by kernel_rfl)]; exact laidMet_laidAll _ (by kernel_rfl) (by kernel_rfl)))) ?_
  intro W base args ds gs before hval hW _ hcond _ hL _ _
  exact syntaxFollows_contract H enc W base args ds gs before hval hW (hcond _ rfl) hL

theorem syntaxFollows_said : Rows.SyntaxFollowsUptoSaid :=
  OpenClaim.holds_of_cond 4 Tryd.f4 rfl rfl rfl rfl rfl rfl rfl ⟨rfl, rfl, rfl, rfl, rfl⟩ rfl rfl rfl rfl rfl (by kernel_rfl) Tryd.func4 (by kernel_rfl)
    (of_decide_eq_true (by kernel_rfl)) (by unfold Func.isWrapper; first | (rw [if_pos (by decide +kernel)]; kernel_rfl) | (rw [if_neg (by decide +kernel)]; exact ⟨rfl, rfl⟩))
    (fun os started H enc _ F => by rw [OpenClaim.pre_eq_preRow]; exact syntaxFollows_lifted os started H enc F)
theorem syntaxFollows_plain (f : FuncId) (fn : Func) (hf : Tryd.pinned.checked.prog.funcNamed "concord/concordlaw14.SyntaxFollows" = some f) (hfn : Tryd.pinned.checked.prog.funcs[f]? = some fn) :
    true = Tryd.pinned.checked.prog.looks [] ∧ ∀ (j : Nat) t, fn.params[j]? = some t → Tryd.pinned.checked.prog.wantsStandIn t = false := by
  obtain rfl : f = 4 := Option.some.inj ((show Tryd.prog.funcNamed "concord/concordlaw14.SyntaxFollows" = some 4 by kernel_rfl).symm.trans hf) |>.symm
  obtain rfl : fn = Tryd.f4 := (Option.some.inj (Tryd.func4.symm.trans hfn)).symm
  refine ⟨by kernel_rfl, fun j t ht => ?_⟩
  rw [Tryd.params4] at ht
  have hm : t ∈ [31] := by simpa using Array.mem_of_getElem? ht
  have hall : ([31].all fun u => !Tryd.prog.wantsStandIn u) = true := by kernel_rfl
  exact (show Tryd.prog.wantsStandIn t = false by simpa using List.all_eq_true.1 hall t hm)
theorem syntaxFollows_holds : Rows.SyntaxFollowsUptoCardSaid :=
  Claim7.holds_tied_plain_at .later [] _ _ _ _ syntaxFollows_said (fun _ h => by cases h) (by kernel_rfl) (fun _ h => by cases h) syntaxFollowsUpto_row_tie rfl ⟨rfl, rfl⟩ (by kernel_rfl) rfl syntaxFollows_plain (by kernel_rfl)
#print axioms syntaxFollows_holds
end Go.Proofs.YtiemiphlfbaojaaDoor
