import Derived.Test.YtiebmmpnmklpnaaDoorMrg6
import Derived.Test.YtiebmmpnmklpnaaDoorMrg14
import Derived.Test.YtiebmmpnmklpnaaDoorCards
import Derived.Test.YtiebmmpnmklpnaaDoorTie
import Derived.Test.YtiebmmpnmklpnaaDoorFrm
namespace Go.Proofs.YtiebmmpnmklpnaaDoor
open Go.ChangeShapes Go.WideShapes Go.ChangeAt Go.RowKit

set_option maxRecDepth 20000 in
set_option maxHeartbeats 1000000 in
theorem verifyMemory_contract (H : Type) (enc : TypeId × Value → H) (W : World) (base : Nat) (args : Array Value) (ds gs : List (DataW H)) (before : List MemPlace)
    (hval : ∀ (j : Nat) t v, Tryd.f5.params[j]? = some t → args[j]? = some v → Value.okWide Tryd.prog W .any base t v)
    (hW : DataW.Whole enc Tryd.prog Tryd.f5.params.toList Rows.verifyMemorySpec.vars false W args.toList ds gs before) (hk : Rows.uptoSmall H (ds ++ gs) = true) (hL0 : laidMetH Tryd.prog Rows.verifyMemoryUptoRow.laid W) :
    Calls Tryd.prog 5 args W fun e W' => ∃ v, e = .returned v ∧ Rows.verifyMemorySpec.post enc Tryd.prog Tryd.f5 false true false false W args v W' := by
  have hL : laidMet Tryd.prog Rows.verifyMemoryUptoRow.laid W := hL0
  have hW' := hW
  obtain ⟨p, q, hA0, hV, rfl, _, _⟩ := hW
  have hA : DataW.TrodAll enc Tryd.prog W 0 (fun _ => true) true Tryd.f5.params.toList args.toList ds p := hA0
  rw [Tryd.params5] at hA hval
  obtain ⟨v0, vs0, d0, ds0, p0, q0, hargs, rfl, rfl, h0, r0⟩ := trodAll_cons hA
  obtain ⟨v1, vs1, d1, ds1, p1, q1, rfl, rfl, rfl, h1, r1⟩ := trodAll_cons r0
  obtain ⟨rfl, rfl, rfl⟩ := trodAll_nil r1
  obtain rfl : args = #[v0, v1] := by cases args; simp_all
  obtain ⟨rfl, rfl⟩ := trodVars_none hV
  have hb := of_decide_eq_true hk
  simp only [List.append_nil, Rows.uptoBulkAll] at hb
  have k0 := h0
  have lt0 : ∀ x ∈ p0, x.block < W.heap.size := by obtain ⟨m, hm⟩ := k0; exact DataW.trod_lt m _ _ _ hm
  obtain ⟨cs0, rfl, -⟩ := okWide_struct Tryd.underlying27 (hval 0 27 v0 rfl rfl)
  obtain ⟨fuel0, hf0⟩ := h0
  obtain ⟨pX, aAX, aCX, aNX, aDX, aOX, cAX, cCX, cNX, cDX, cOX, hcs0, hPX, hOX⟩ := prog_of hf0 (show Rows.uptoBulk d0 ≤ 1048576 by omega)
  obtain rfl : cs0 = #[.slice aAX pX.av.length cAX, .slice aCX pX.cu.length cCX, .slice aNX pX.nr.length cNX, .bool pX.al, .slice aDX pX.dr.length cDX, .slice aOX pX.co.length cOX] := by
    have e : cs0.toList = [.slice aAX pX.av.length cAX, .slice aCX pX.cu.length cCX, .slice aNX pX.nr.length cNX, .bool pX.al, .slice aDX pX.dr.length cDX, .slice aOX pX.co.length cOX] := hcs0
    cases cs0
    simp only at e
    rw [e]
  have k1 := h1
  have lt1 : ∀ x ∈ p1, x.block < W.heap.size := by obtain ⟨m, hm⟩ := k1; exact DataW.trod_lt m _ _ _ hm
  obtain ⟨cs1, rfl, -⟩ := okWide_struct Tryd.underlying27 (hval 1 27 v1 rfl rfl)
  obtain ⟨fuel1, hf1⟩ := h1
  obtain ⟨pY, aAY, aCY, aNY, aDY, aOY, cAY, cCY, cNY, cDY, cOY, hcs1, hPY, hOY⟩ := prog_of hf1 (show Rows.uptoBulk d1 ≤ 1048576 by omega)
  obtain rfl : cs1 = #[.slice aAY pY.av.length cAY, .slice aCY pY.cu.length cCY, .slice aNY pY.nr.length cNY, .bool pY.al, .slice aDY pY.dr.length cDY, .slice aOY pY.co.length cOY] := by
    have e : cs1.toList = [.slice aAY pY.av.length cAY, .slice aCY pY.cu.length cCY, .slice aNY pY.nr.length cNY, .bool pY.al, .slice aDY pY.dr.length cDY, .slice aOY pY.co.length cOY] := hcs1
    cases cs1
    simp only at e
    rw [e]
  clear hA0 hval
  simp only [List.append_nil] at hW'
  obtain ⟨e0, s0⟩ := sent0 hL (by unfold Rows.verifyMemoryUptoRow; repeat (first | exact List.mem_cons_self | apply List.mem_cons_of_mem))
  obtain ⟨e1, s1⟩ := sent1 hL (by unfold Rows.verifyMemoryUptoRow; repeat (first | exact List.mem_cons_self | apply List.mem_cons_of_mem))
  obtain ⟨e2, s2⟩ := sent2 hL (by unfold Rows.verifyMemoryUptoRow; repeat (first | exact List.mem_cons_self | apply List.mem_cons_of_mem))
  obtain ⟨e3, s3⟩ := sent3 hL (by unfold Rows.verifyMemoryUptoRow; repeat (first | exact List.mem_cons_self | apply List.mem_cons_of_mem))
  obtain ⟨e4, s4⟩ := sent4 hL (by unfold Rows.verifyMemoryUptoRow; repeat (first | exact List.mem_cons_self | apply List.mem_cons_of_mem))
  obtain ⟨e5, s5⟩ := sent5 hL (by unfold Rows.verifyMemoryUptoRow; repeat (first | exact List.mem_cons_self | apply List.mem_cons_of_mem))
  obtain ⟨e6, s6⟩ := sent6 hL (by unfold Rows.verifyMemoryUptoRow; repeat (first | exact List.mem_cons_self | apply List.mem_cons_of_mem))
  obtain ⟨e7, s7⟩ := sent7 hL (by unfold Rows.verifyMemoryUptoRow; repeat (first | exact List.mem_cons_self | apply List.mem_cons_of_mem))
  obtain ⟨e8, s8⟩ := sent8 hL (by unfold Rows.verifyMemoryUptoRow; repeat (first | exact List.mem_cons_self | apply List.mem_cons_of_mem))
  obtain ⟨e9, s9⟩ := sent9 hL (by unfold Rows.verifyMemoryUptoRow; repeat (first | exact List.mem_cons_self | apply List.mem_cons_of_mem))
  obtain ⟨e10, s10⟩ := sent10 hL (by unfold Rows.verifyMemoryUptoRow; repeat (first | exact List.mem_cons_self | apply List.mem_cons_of_mem))
  obtain ⟨e11, s11⟩ := sent11 hL (by unfold Rows.verifyMemoryUptoRow; repeat (first | exact List.mem_cons_self | apply List.mem_cons_of_mem))
  obtain ⟨e12, s12⟩ := sent12 hL (by unfold Rows.verifyMemoryUptoRow; repeat (first | exact List.mem_cons_self | apply List.mem_cons_of_mem))
  obtain ⟨e13, s13⟩ := sent13 hL (by unfold Rows.verifyMemoryUptoRow; repeat (first | exact List.mem_cons_self | apply List.mem_cons_of_mem))
  obtain ⟨e14, s14⟩ := sent14 hL (by unfold Rows.verifyMemoryUptoRow; repeat (first | exact List.mem_cons_self | apply List.mem_cons_of_mem))
  obtain ⟨e15, s15⟩ := sent15 hL (by unfold Rows.verifyMemoryUptoRow; repeat (first | exact List.mem_cons_self | apply List.mem_cons_of_mem))
  obtain ⟨e16, s16⟩ := sent16 hL (by unfold Rows.verifyMemoryUptoRow; repeat (first | exact List.mem_cons_self | apply List.mem_cons_of_mem))
  obtain ⟨e17, s17⟩ := sent17 hL (by unfold Rows.verifyMemoryUptoRow; repeat (first | exact List.mem_cons_self | apply List.mem_cons_of_mem))
  obtain ⟨e18, s18⟩ := sent18 hL (by unfold Rows.verifyMemoryUptoRow; repeat (first | exact List.mem_cons_self | apply List.mem_cons_of_mem))
  obtain ⟨e19, s19⟩ := sent19 hL (by unfold Rows.verifyMemoryUptoRow; repeat (first | exact List.mem_cons_self | apply List.mem_cons_of_mem))
  obtain ⟨e35, s35⟩ := sent35 hL (by unfold Rows.verifyMemoryUptoRow; repeat (first | exact List.mem_cons_self | apply List.mem_cons_of_mem))
  refine (mem21_all pX pY aAX aCX aNX aDX aOX aAY aCY aNY aDY aOY cAX cCX cNX cDX cOX cAY cCY cNY cDY cOY (fun i => [e0, e1, e2, e3, e4, e5, e6, e7, e8, e9, e10, e11, e12, e13, e14, e15, e16, e17, e18, e19, e35].getD i e0) W hPX hOX hPY hOY ⟨⟨⟨⟨s0, s1, s2, s3, s4, s5, s6, s7, s8, s9, s10, s11, s12, s13⟩, s14, s15⟩, s16, s17, s18, s19, s35⟩, ops_at hL (by unfold Rows.verifyMemoryUptoRow; repeat (first | exact List.mem_cons_self | apply List.mem_cons_of_mem)), takes_at hL (by unfold Rows.verifyMemoryUptoRow; repeat (first | exact List.mem_cons_self | apply List.mem_cons_of_mem))⟩).mono fun e W' ⟨he, kept⟩ => ?_
  subst he
  have bel : Below W.heap.size W W' := kept.below (Nat.le_refl _) (fun _ _ f => f)
  exact ⟨_, rfl, _, _, _, [], _, [], hW', trodAll_cons_mk (shut_bool Tryd.underlying4 _) trodAll_mk0, (trodAll_cons_mk (Below.trod laidOut (by kernel_rfl) (of_decide_eq_true (by kernel_rfl)) k0 bel lt0) (trodAll_cons_mk (Below.trod laidOut (by kernel_rfl) (of_decide_eq_true (by kernel_rfl)) k1 bel lt1) trodAll_mk0)), rfl, bel.frame _, fun h => by cases h⟩

/-- The witness's arguments. -/
def verifyMemoryArgs : Array Value := #[.agg #[.slice none 0 0, .slice none 0 0, .slice none 0 0, .bool false, .slice none 0 0, .slice none 0 0], .agg #[.slice none 0 0, .slice none 0 0, .slice none 0 0, .bool false, .slice none 0 0, .slice none 0 0]]
theorem verifyMemory_reads (os : Os) {H : Type} (enc : TypeId × Value → H) : ∃ places, DataW.whole enc Tryd.prog ((World.laidAll Tryd.prog os Rows.verifyMemoryUptoRow.laid).forCall (fun _ _ => 0) ⟨#[], verifyMemoryArgs, []⟩).memory Tryd.f5.params.toList Rows.verifyMemorySpec.vars false verifyMemoryArgs.toList 8 = some ([.agg [.nil, .nil, .nil, .lit (.bool false), .nil, .nil], .agg [.nil, .nil, .nil, .lit (.bool false), .nil, .nil]], [], places) :=
  ⟨[], by kernel_rfl⟩
set_option maxRecDepth 100000 in
theorem verifyMemory_lifted (os : Os) (started : os.Started) (H : Type) (enc : TypeId × Value → H) (F : Stop.Interp) :
    ReturnsInHanded {} Tryd.checked os 5 .any ((Rows.OpenSpec.upto Rows.verifyMemorySpec).preRow enc Tryd.prog Tryd.f5 Rows.verifyMemoryUptoRow.domain false Rows.verifyMemoryUptoRow.laid) (((Rows.OpenSpec.upto Rows.verifyMemorySpec).at F).post enc Tryd.prog Tryd.f5 false true false false) := by
  obtain ⟨places, hx⟩ := verifyMemory_reads os enc
  refine returnsInHanded_of_row (C := Tryd.checked) (s := Rows.OpenSpec.upto Rows.verifyMemorySpec) ownK started (by kernel_rfl) Tryd.func5
    (row_witness (enc := enc) (C := Tryd.checked) (World.laidAll Tryd.prog os Rows.verifyMemoryUptoRow.laid) verifyMemoryArgs (World.laidAll_os _ _ _) (World.shaped_of_ZipB (by kernel_rfl) (by kernel_rfl)) (by kernel_rfl)
      (OpenSpec.preRow_of_cond 8 hx (by kernel_rfl) (fun k hk => by cases hk; kernel_rfl) (by kernel_rfl) (by rw [MakeChecks.laidMetH_plain _ _ _ (by kernel_rfl)]; exact laidMet_laidAll _ (by kernel_rfl) (by kernel_rfl)))) ?_
  intro W base args ds gs before hval hW _ hcond _ hL _ _
  exact verifyMemory_contract H enc W base args ds gs before hval hW (hcond _ rfl) hL

theorem verifyMemory_said : Rows.VerifyMemoryUptoSaid :=
  OpenClaim.holds_of_cond 5 Tryd.f5 rfl rfl rfl rfl rfl rfl rfl ⟨rfl, rfl, rfl, rfl, rfl⟩ rfl rfl rfl rfl rfl (by kernel_rfl) Tryd.func5 (by kernel_rfl)
    (of_decide_eq_true (by kernel_rfl)) (by unfold Func.isWrapper; first | (rw [if_pos (by decide +kernel)]; kernel_rfl) | (rw [if_neg (by decide +kernel)]; exact ⟨rfl, rfl⟩))
    (fun os started H enc _ F => by rw [OpenClaim.pre_eq_preRow]; exact verifyMemory_lifted os started H enc F)
theorem verifyMemory_plain (f : FuncId) (fn : Func) (hf : Tryd.pinned.checked.prog.funcNamed "concord/concordlaw21.VerifyMemory" = some f) (hfn : Tryd.pinned.checked.prog.funcs[f]? = some fn) :
    true = Tryd.pinned.checked.prog.looks [] ∧ ∀ (j : Nat) t, fn.params[j]? = some t → Tryd.pinned.checked.prog.wantsStandIn t = false := by
  obtain rfl : f = 5 := Option.some.inj ((show Tryd.prog.funcNamed "concord/concordlaw21.VerifyMemory" = some 5 by kernel_rfl).symm.trans hf) |>.symm
  obtain rfl : fn = Tryd.f5 := (Option.some.inj (Tryd.func5.symm.trans hfn)).symm
  refine ⟨by kernel_rfl, fun j t ht => ?_⟩
  rw [Tryd.params5] at ht
  have hm : t ∈ [27, 27] := by simpa using Array.mem_of_getElem? ht
  have hall : ([27, 27].all fun u => !Tryd.prog.wantsStandIn u) = true := by kernel_rfl
  exact (show Tryd.prog.wantsStandIn t = false by simpa using List.all_eq_true.1 hall t hm)
theorem verifyMemory_holds : Rows.VerifyMemoryUptoCardSaid :=
  Claim7.holds_tied_plain_at .later [] _ _ _ _ verifyMemory_said (fun _ h => by cases h) (by kernel_rfl) (fun _ h => by cases h) verifyMemoryUpto_row_tie rfl ⟨rfl, rfl⟩ (by kernel_rfl) rfl verifyMemory_plain (by kernel_rfl)
#print axioms verifyMemory_holds
end Go.Proofs.YtiebmmpnmklpnaaDoor
