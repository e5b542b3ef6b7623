import Derived.Test.YtnkmjhcddegkhaaDoorTch
import Derived.Test.YtnkmjhcddegkhaaDoorSta
import Derived.Test.YtnkmjhcddegkhaaDoorFdo
import Derived.Test.YtnkmjhcddegkhaaDoorCards
import Derived.Test.YtnkmjhcddegkhaaDoorTie
import Derived.Test.YtnkmjhcddegkhaaDoorFrm
import Derived.ChangeMaps5
namespace Go.Proofs.YtnkmjhcddegkhaaDoor
open Go.ChangeShapes Go.WideShapes Go.ChangeAt Go.RowKit

set_option maxRecDepth 20000 in
set_option maxHeartbeats 1000000 in
theorem tokensChain_contract (H : Type) (enc : TypeId × Value → H) (W : World) (base : Nat) (args : Array Value) (ds gs : List (DataW H)) (before : List MemPlace)
    (hval : ∀ (j : Nat) t v, Tryd.f3.params[j]? = some t → args[j]? = some v → Value.okWide Tryd.prog W .any base t v)
    (hW : DataW.Whole enc Tryd.prog Tryd.f3.params.toList Rows.tokensChainSpec.vars false W args.toList ds gs before) (hk : Rows.uptoSmall H (ds ++ gs) = true) (hL0 : laidMetH Tryd.prog Rows.tokensChainUptoRow.laid W) :
    Calls Tryd.prog 3 args W fun e W' => ∃ v, e = .returned v ∧ Rows.tokensChainSpec.post enc Tryd.prog Tryd.f3 false true false false W args v W' := by
  have hL : laidMet Tryd.prog Rows.tokensChainUptoRow.laid W := hL0
  have hW' := hW
  obtain ⟨p, q, hA0, hV, rfl, _, _⟩ := hW
  have hA : DataW.TrodAll enc Tryd.prog W 0 (fun _ => true) true Tryd.f3.params.toList args.toList ds p := hA0
  rw [Tryd.params3] at hA hval
  obtain ⟨v0, vs0, d0, ds0, p0, q0, hargs, rfl, rfl, h0, r0⟩ := trodAll_cons hA
  obtain ⟨v1, vs1, d1, ds1, p1, q1, rfl, rfl, rfl, h1, r1⟩ := trodAll_cons r0
  obtain ⟨rfl, rfl, rfl⟩ := trodAll_nil r1
  obtain rfl : args = #[v0, v1] := by cases args; simp_all
  obtain ⟨rfl, rfl⟩ := trodVars_none hV
  have hb := of_decide_eq_true hk
  simp only [List.append_nil, Rows.uptoBulkAll] at hb
  have k0 := h0
  have lt0 : ∀ x ∈ p0, x.block < W.heap.size := by obtain ⟨m, hm⟩ := k0; exact DataW.trod_lt m _ _ _ hm
  obtain ⟨cs0, rfl, -⟩ := okWide_struct Tryd.underlying23 (hval 0 23 v0 rfl rfl)
  obtain ⟨fuel0, hf0⟩ := h0
  obtain ⟨nm, kd, fo, st, se, hcs0⟩ := fieldT_of hf0
  obtain rfl : cs0 = #[.string nm, .int .i64 kd, .bool fo, .bool st, .bool se] := by
    have e : cs0.toList = [.string nm, .int .i64 kd, .bool fo, .bool st, .bool se] := hcs0
    cases cs0
    simp only at e
    rw [e]
  obtain ⟨S, rfl, rfl, rfl, w1⟩ := Go.ChangeMaps.open_string Tryd.underlying9 (hval 1 9 v1 rfl rfl) h1
  have hlS : S.size < Rows.uptoBulk (H := H) (.lit (.string S.data.toList)) := by rw [Rows.uptoBulk, Array.length_toList]; exact Nat.lt_succ_self _
  clear hA0 hval
  simp only [List.append_nil] at hW'
  refine (chain_walk nm kd fo st se S.data.toList W (by rw [Array.length_toList]; show S.size ≤ _; omega) (stops_at hL (by unfold Rows.tokensChainUptoRow; repeat (first | exact List.mem_cons_self | apply List.mem_cons_of_mem)))).mono fun e W' ⟨he, kept⟩ => ?_
  subst he
  have bel : Below W.heap.size W W' := kept.below (Nat.le_refl _) (fun _ _ f => f)
  exact ⟨_, rfl, _, _, _, [], _, [], hW', trodAll_cons_mk (shut_bool Tryd.underlying4 _) trodAll_mk0, (trodAll_cons_mk (Below.trod laidOut (by kernel_rfl) (of_decide_eq_true (by kernel_rfl)) k0 bel lt0) (trodAll_cons_mk (Go.ChangeMaps.shut_string Tryd.underlying9 w1) trodAll_mk0)), rfl, bel.frame _, fun h => by cases h⟩

/-- The witness's arguments. -/
def tokensChainArgs : Array Value := #[.agg #[.string ⟨#[]⟩, .int .i64 0, .bool false, .bool false, .bool false], .string ⟨#[]⟩]
theorem tokensChain_reads (os : Os) {H : Type} (enc : TypeId × Value → H) : ∃ places, DataW.whole enc Tryd.prog ((World.laidAll Tryd.prog os Rows.tokensChainUptoRow.laid).forCall (fun _ _ => 0) ⟨#[], tokensChainArgs, []⟩).memory Tryd.f3.params.toList Rows.tokensChainSpec.vars false tokensChainArgs.toList 8 = some ([.agg [.lit (.string []), .lit (.int .i64 0), .lit (.bool false), .lit (.bool false), .lit (.bool false)], .lit (.string [])], [], places) :=
  ⟨[], by kernel_rfl⟩
set_option maxRecDepth 100000 in
theorem tokensChain_lifted (os : Os) (started : os.Started) (H : Type) (enc : TypeId × Value → H) (F : Stop.Interp) :
    ReturnsInHanded {} Tryd.checked os 3 .any ((Rows.OpenSpec.upto Rows.tokensChainSpec).preRow enc Tryd.prog Tryd.f3 Rows.tokensChainUptoRow.domain false Rows.tokensChainUptoRow.laid) (((Rows.OpenSpec.upto Rows.tokensChainSpec).at F).post enc Tryd.prog Tryd.f3 false true false false) := by
  obtain ⟨places, hx⟩ := tokensChain_reads os enc
  refine returnsInHanded_of_row (C := Tryd.checked) (s := Rows.OpenSpec.upto Rows.tokensChainSpec) ownK started (by kernel_rfl) Tryd.func3
    (row_witness (enc := enc) (C := Tryd.checked) (World.laidAll Tryd.prog os Rows.tokensChainUptoRow.laid) tokensChainArgs (World.laidAll_os _ _ _) (World.shaped_of_ZipB (by kernel_rfl) (by kernel_rfl)) (by kernel_rfl)
      (OpenSpec.preRow_of_cond 8 hx (by kernel_rfl) (fun k hk => by cases hk; kernel_rfl) (by kernel_rfl) (by rw [MakeChecks.laidMetH_plain _ _ _ (by kernel_rfl)]; exact laidMet_laidAll _ (by kernel_rfl) (by kernel_rfl)))) ?_
  intro W base args ds gs before hval hW _ hcond _ hL _ _
  exact tokensChain_contract H enc W base args ds gs before hval hW (hcond _ rfl) hL

theorem tokensChain_said : Rows.TokensChainUptoSaid :=
  OpenClaim.holds_of_cond 3 Tryd.f3 rfl rfl rfl rfl rfl rfl rfl ⟨rfl, rfl, rfl, rfl, rfl⟩ rfl rfl rfl rfl rfl (by kernel_rfl) Tryd.func3 (by kernel_rfl)
    (of_decide_eq_true (by kernel_rfl)) (by unfold Func.isWrapper; first | (rw [if_pos (by decide +kernel)]; kernel_rfl) | (rw [if_neg (by decide +kernel)]; exact ⟨rfl, rfl⟩))
    (fun os started H enc _ F => by rw [OpenClaim.pre_eq_preRow]; exact tokensChain_lifted os started H enc F)
theorem tokensChain_plain (f : FuncId) (fn : Func) (hf : Tryd.pinned.checked.prog.funcNamed "concord/concordlaw05.TokensChain" = some f) (hfn : Tryd.pinned.checked.prog.funcs[f]? = some fn) :
    true = Tryd.pinned.checked.prog.looks [] ∧ ∀ (j : Nat) t, fn.params[j]? = some t → Tryd.pinned.checked.prog.wantsStandIn t = false := by
  obtain rfl : f = 3 := Option.some.inj ((show Tryd.prog.funcNamed "concord/concordlaw05.TokensChain" = some 3 by kernel_rfl).symm.trans hf) |>.symm
  obtain rfl : fn = Tryd.f3 := (Option.some.inj (Tryd.func3.symm.trans hfn)).symm
  refine ⟨by kernel_rfl, fun j t ht => ?_⟩
  rw [Tryd.params3] at ht
  have hm : t ∈ [23, 9] := by simpa using Array.mem_of_getElem? ht
  have hall : ([23, 9].all fun u => !Tryd.prog.wantsStandIn u) = true := by kernel_rfl
  exact (show Tryd.prog.wantsStandIn t = false by simpa using List.all_eq_true.1 hall t hm)
theorem tokensChain_holds : Rows.TokensChainUptoCardSaid :=
  Claim7.holds_tied_plain_at .later [] _ _ _ _ tokensChain_said (fun _ h => by cases h) (by kernel_rfl) (fun _ h => by cases h) tokensChainUpto_row_tie rfl ⟨rfl, rfl⟩ (by kernel_rfl) rfl tokensChain_plain (by kernel_rfl)
#print axioms tokensChain_holds
end Go.Proofs.YtnkmjhcddegkhaaDoor
