import Derived.Test.YtiebmmpnmklpnaaDoorMrg6
import Derived.Test.YtiebmmpnmklpnaaDoorVsq
import Derived.Test.YtiebmmpnmklpnaaDoorVsu
import Derived.Test.YtiebmmpnmklpnaaDoorCards
import Derived.Test.YtiebmmpnmklpnaaDoorTie
import Derived.Test.YtiebmmpnmklpnaaDoorFrm
namespace Go.Proofs.YtiebmmpnmklpnaaDoor
open Go.ChangeShapes Go.WideShapes Go.ChangeAt Go.RowKit

set_option maxRecDepth 20000 in
set_option maxHeartbeats 1000000 in
theorem verifyMore_contract (H : Type) (enc : TypeId × Value → H) (W : World) (base : Nat) (args : Array Value) (ds gs : List (DataW H)) (before : List MemPlace)
    (hval : ∀ (j : Nat) t v, Tryd.f4.params[j]? = some t → args[j]? = some v → Value.okWide Tryd.prog W .any base t v)
    (hW : DataW.Whole enc Tryd.prog Tryd.f4.params.toList Rows.verifyMoreSpec.vars false W args.toList ds gs before) (hk : Rows.uptoSmall H (ds ++ gs) = true) (hL0 : laidMetH Tryd.prog Rows.verifyMoreUptoRow.laid W) :
    Calls Tryd.prog 4 args W fun e W' => ∃ v, e = .returned v ∧ Rows.verifyMoreSpec.post enc Tryd.prog Tryd.f4 false true false false W args v W' := by
  have hL : laidMet Tryd.prog Rows.verifyMoreUptoRow.laid W := hL0
  have hW' := hW
  obtain ⟨p, q, hA0, hV, rfl, _, _⟩ := hW
  have hA : DataW.TrodAll enc Tryd.prog W 0 (fun _ => true) true Tryd.f4.params.toList args.toList ds p := hA0
  rw [Tryd.params4] at hA hval
  obtain ⟨v0, vs0, d0, ds0, p0, q0, hargs, rfl, rfl, h0, r0⟩ := trodAll_cons hA
  obtain ⟨v1, vs1, d1, ds1, p1, q1, rfl, rfl, rfl, h1, r1⟩ := trodAll_cons r0
  obtain ⟨v2, vs2, d2, ds2, p2, q2, rfl, rfl, rfl, h2, r2⟩ := trodAll_cons r1
  obtain ⟨v3, vs3, d3, ds3, p3, q3, rfl, rfl, rfl, h3, r3⟩ := trodAll_cons r2
  obtain ⟨rfl, rfl, rfl⟩ := trodAll_nil r3
  obtain rfl : args = #[v0, v1, v2, v3] := by cases args; simp_all
  obtain ⟨rfl, rfl⟩ := trodVars_none hV
  have hb := of_decide_eq_true hk
  simp only [List.append_nil, Rows.uptoBulkAll] at hb
  have k0 := h0
  have lt0 : ∀ x ∈ p0, x.block < W.heap.size := by obtain ⟨m, hm⟩ := k0; exact DataW.trod_lt m _ _ _ hm
  obtain ⟨cs0, rfl, -⟩ := okWide_struct Tryd.underlying27 (hval 0 27 v0 rfl rfl)
  obtain ⟨fuel0, hf0⟩ := h0
  obtain ⟨pX, aAX, aCX, aNX, aDX, aOX, cAX, cCX, cNX, cDX, cOX, hcs0, hPX, hOX, hSX⟩ := prog_ofS hf0 (show Rows.uptoBulk d0 ≤ 1048576 by omega)
  obtain rfl : cs0 = #[.slice aAX pX.av.length cAX, .slice aCX pX.cu.length cCX, .slice aNX pX.nr.length cNX, .bool pX.al, .slice aDX pX.dr.length cDX, .slice aOX pX.co.length cOX] := by
    have e : cs0.toList = [.slice aAX pX.av.length cAX, .slice aCX pX.cu.length cCX, .slice aNX pX.nr.length cNX, .bool pX.al, .slice aDX pX.dr.length cDX, .slice aOX pX.co.length cOX] := hcs0
    cases cs0
    simp only at e
    rw [e]
  have k1 := h1
  have lt1 : ∀ x ∈ p1, x.block < W.heap.size := by obtain ⟨m, hm⟩ := k1; exact DataW.trod_lt m _ _ _ hm
  obtain ⟨aY, lenY, capY, rfl⟩ := okWide_slice Tryd.underlying22 (hval 1 22 v1 rfl rfl)
  obtain ⟨fuel1, hf1⟩ := h1
  obtain ⟨taY, tcY, LY, htsY, hPY, hIY, hlY⟩ := ints_inI hf1
  simp only [Value.cells, List.cons.injEq, Value.slice.injEq, and_true] at htsY
  obtain ⟨rfl, rfl, rfl⟩ := htsY
  have hbY : LY.length + 1 ≤ Rows.uptoBulk d1 := hlY
  have k2 := h2
  have lt2 : ∀ x ∈ p2, x.block < W.heap.size := by obtain ⟨m, hm⟩ := k2; exact DataW.trod_lt m _ _ _ hm
  obtain ⟨aT, lenT, capT, rfl⟩ := okWide_slice Tryd.underlying46 (hval 2 46 v2 rfl rfl)
  obtain ⟨fuel2, hf2⟩ := h2
  obtain ⟨KT, rfl, hPT, hlT⟩ := textsT_of hf2
  have hbT : szT KT < Rows.uptoBulk d2 := hlT
  obtain ⟨dv, rfl, rfl, rfl, w3⟩ := open_int Tryd.underlying3 (hval 3 3 v3 rfl rfl) h3
  have bdv := bounds_i64 w3
  clear hA0 hval
  simp only [List.append_nil] at hW'
  obtain ⟨e0, s0⟩ := sent0 hL (by unfold Rows.verifyMoreUptoRow; repeat (first | exact List.mem_cons_self | apply List.mem_cons_of_mem))
  obtain ⟨e1, s1⟩ := sent1 hL (by unfold Rows.verifyMoreUptoRow; repeat (first | exact List.mem_cons_self | apply List.mem_cons_of_mem))
  obtain ⟨e2, s2⟩ := sent2 hL (by unfold Rows.verifyMoreUptoRow; repeat (first | exact List.mem_cons_self | apply List.mem_cons_of_mem))
  obtain ⟨e3, s3⟩ := sent3 hL (by unfold Rows.verifyMoreUptoRow; repeat (first | exact List.mem_cons_self | apply List.mem_cons_of_mem))
  obtain ⟨e4, s4⟩ := sent4 hL (by unfold Rows.verifyMoreUptoRow; repeat (first | exact List.mem_cons_self | apply List.mem_cons_of_mem))
  obtain ⟨e5, s5⟩ := sent5 hL (by unfold Rows.verifyMoreUptoRow; repeat (first | exact List.mem_cons_self | apply List.mem_cons_of_mem))
  obtain ⟨e6, s6⟩ := sent6 hL (by unfold Rows.verifyMoreUptoRow; repeat (first | exact List.mem_cons_self | apply List.mem_cons_of_mem))
  obtain ⟨e7, s7⟩ := sent7 hL (by unfold Rows.verifyMoreUptoRow; repeat (first | exact List.mem_cons_self | apply List.mem_cons_of_mem))
  obtain ⟨e8, s8⟩ := sent8 hL (by unfold Rows.verifyMoreUptoRow; repeat (first | exact List.mem_cons_self | apply List.mem_cons_of_mem))
  obtain ⟨e9, s9⟩ := sent9 hL (by unfold Rows.verifyMoreUptoRow; repeat (first | exact List.mem_cons_self | apply List.mem_cons_of_mem))
  obtain ⟨e10, s10⟩ := sent10 hL (by unfold Rows.verifyMoreUptoRow; repeat (first | exact List.mem_cons_self | apply List.mem_cons_of_mem))
  obtain ⟨e11, s11⟩ := sent11 hL (by unfold Rows.verifyMoreUptoRow; repeat (first | exact List.mem_cons_self | apply List.mem_cons_of_mem))
  obtain ⟨e12, s12⟩ := sent12 hL (by unfold Rows.verifyMoreUptoRow; repeat (first | exact List.mem_cons_self | apply List.mem_cons_of_mem))
  obtain ⟨e13, s13⟩ := sent13 hL (by unfold Rows.verifyMoreUptoRow; repeat (first | exact List.mem_cons_self | apply List.mem_cons_of_mem))
  obtain ⟨e14, s14⟩ := sent14 hL (by unfold Rows.verifyMoreUptoRow; repeat (first | exact List.mem_cons_self | apply List.mem_cons_of_mem))
  obtain ⟨e15, s15⟩ := sent15 hL (by unfold Rows.verifyMoreUptoRow; repeat (first | exact List.mem_cons_self | apply List.mem_cons_of_mem))
  obtain ⟨e16, s16⟩ := sent16 hL (by unfold Rows.verifyMoreUptoRow; repeat (first | exact List.mem_cons_self | apply List.mem_cons_of_mem))
  obtain ⟨e17, s17⟩ := sent17 hL (by unfold Rows.verifyMoreUptoRow; repeat (first | exact List.mem_cons_self | apply List.mem_cons_of_mem))
  obtain ⟨e18, s18⟩ := sent18 hL (by unfold Rows.verifyMoreUptoRow; repeat (first | exact List.mem_cons_self | apply List.mem_cons_of_mem))
  obtain ⟨e19, s19⟩ := sent19 hL (by unfold Rows.verifyMoreUptoRow; repeat (first | exact List.mem_cons_self | apply List.mem_cons_of_mem))
  obtain ⟨e35, s35⟩ := sent35 hL (by unfold Rows.verifyMoreUptoRow; repeat (first | exact List.mem_cons_self | apply List.mem_cons_of_mem))
  refine (more_walk pX aAX aCX aNX aDX aOX aY aT cAX cCX cNX cDX cOX capY capT LY KT dv (fun i => [e0, e1, e2, e3, e4, e5, e6, e7, e8, e9, e10, e11, e12, e13, e14, e15, e16, e17, e18, e19, e35].getD i e0) W hPX hOX ⟨⟨⟨⟨s0, s1, s2, s3, s4, s5, s6, s7, s8, s9, s10, s11, s12, s13⟩, s14, s15⟩, s16, s17, s18, s19, s35⟩, ops_at hL (by unfold Rows.verifyMoreUptoRow; repeat (first | exact List.mem_cons_self | apply List.mem_cons_of_mem)), takes_at hL (by unfold Rows.verifyMoreUptoRow; repeat (first | exact List.mem_cons_self | apply List.mem_cons_of_mem))⟩ hPY (by omega) hIY hPT (by have := szT_len KT; omega) (by omega)).mono fun e W' ⟨he, kept⟩ => ?_
  subst he
  have bel : Below W.heap.size W W' := kept.below (Nat.le_refl _) (fun _ _ f => f)
  exact ⟨_, rfl, _, _, _, [], _, [], hW', trodAll_cons_mk (shut_bool Tryd.underlying4 _) trodAll_mk0, (trodAll_cons_mk (Below.trod laidOut (by kernel_rfl) (of_decide_eq_true (by kernel_rfl)) k0 bel lt0) (trodAll_cons_mk (Below.trod laidOut (by kernel_rfl) (of_decide_eq_true (by kernel_rfl)) k1 bel lt1) (trodAll_cons_mk (Below.trod laidOut (by kernel_rfl) (of_decide_eq_true (by kernel_rfl)) k2 bel lt2) (trodAll_cons_mk (shut_int Tryd.underlying3 w3) trodAll_mk0)))), rfl, bel.frame _, fun h => by cases h⟩

/-- The witness's arguments. -/
def verifyMoreArgs : Array Value := #[.agg #[.slice none 0 0, .slice none 0 0, .slice none 0 0, .bool false, .slice none 0 0, .slice none 0 0], .slice none 0 0, .slice none 0 0, .int .i64 0]
theorem verifyMore_reads (os : Os) {H : Type} (enc : TypeId × Value → H) : ∃ places, DataW.whole enc Tryd.prog ((World.laidAll Tryd.prog os Rows.verifyMoreUptoRow.laid).forCall (fun _ _ => 0) ⟨#[], verifyMoreArgs, []⟩).memory Tryd.f4.params.toList Rows.verifyMoreSpec.vars false verifyMoreArgs.toList 8 = some ([.agg [.nil, .nil, .nil, .lit (.bool false), .nil, .nil], .nil, .nil, .lit (.int .i64 0)], [], places) :=
  ⟨[], by kernel_rfl⟩
set_option maxRecDepth 100000 in
theorem verifyMore_lifted (os : Os) (started : os.Started) (H : Type) (enc : TypeId × Value → H) (F : Stop.Interp) :
    ReturnsInHanded {} Tryd.checked os 4 .any ((Rows.OpenSpec.upto Rows.verifyMoreSpec).preRow enc Tryd.prog Tryd.f4 Rows.verifyMoreUptoRow.domain false Rows.verifyMoreUptoRow.laid) (((Rows.OpenSpec.upto Rows.verifyMoreSpec).at F).post enc Tryd.prog Tryd.f4 false true false false) := by
  obtain ⟨places, hx⟩ := verifyMore_reads os enc
  refine returnsInHanded_of_row (C := Tryd.checked) (s := Rows.OpenSpec.upto Rows.verifyMoreSpec) ownK started (by kernel_rfl) Tryd.func4
    (row_witness (enc := enc) (C := Tryd.checked) (World.laidAll Tryd.prog os Rows.verifyMoreUptoRow.laid) verifyMoreArgs (World.laidAll_os _ _ _) (World.shaped_of_ZipB (by kernel_rfl) (by kernel_rfl)) (by kernel_rfl)
      (OpenSpec.preRow_of_cond 8 hx (by kernel_rfl) (fun k hk => by cases hk; kernel_rfl) (by kernel_rfl) (by rw [MakeChecks.laidMetH_plain _ _ _ (by kernel_rfl)]; exact laidMet_laidAll _ (by kernel_rfl) (by kernel_rfl)))) ?_
  intro W base args ds gs before hval hW _ hcond _ hL _ _
  exact verifyMore_contract H enc W base args ds gs before hval hW (hcond _ rfl) hL

theorem verifyMore_said : Rows.VerifyMoreUptoSaid :=
  OpenClaim.holds_of_cond 4 Tryd.f4 rfl rfl rfl rfl rfl rfl rfl ⟨rfl, rfl, rfl, rfl, rfl⟩ rfl rfl rfl rfl rfl (by kernel_rfl) Tryd.func4 (by kernel_rfl)
    (of_decide_eq_true (by kernel_rfl)) (by unfold Func.isWrapper; first | (rw [if_pos (by decide +kernel)]; kernel_rfl) | (rw [if_neg (by decide +kernel)]; exact ⟨rfl, rfl⟩))
    (fun os started H enc _ F => by rw [OpenClaim.pre_eq_preRow]; exact verifyMore_lifted os started H enc F)
theorem verifyMore_plain (f : FuncId) (fn : Func) (hf : Tryd.pinned.checked.prog.funcNamed "concord/concordlaw21.VerifyMore" = some f) (hfn : Tryd.pinned.checked.prog.funcs[f]? = some fn) :
    true = Tryd.pinned.checked.prog.looks [] ∧ ∀ (j : Nat) t, fn.params[j]? = some t → Tryd.pinned.checked.prog.wantsStandIn t = false := by
  obtain rfl : f = 4 := Option.some.inj ((show Tryd.prog.funcNamed "concord/concordlaw21.VerifyMore" = some 4 by kernel_rfl).symm.trans hf) |>.symm
  obtain rfl : fn = Tryd.f4 := (Option.some.inj (Tryd.func4.symm.trans hfn)).symm
  refine ⟨by kernel_rfl, fun j t ht => ?_⟩
  rw [Tryd.params4] at ht
  have hm : t ∈ [27, 22, 46, 3] := by simpa using Array.mem_of_getElem? ht
  have hall : ([27, 22, 46, 3].all fun u => !Tryd.prog.wantsStandIn u) = true := by kernel_rfl
  exact (show Tryd.prog.wantsStandIn t = false by simpa using List.all_eq_true.1 hall t hm)
theorem verifyMore_holds : Rows.VerifyMoreUptoCardSaid :=
  Claim7.holds_tied_plain_at .later [] _ _ _ _ verifyMore_said (fun _ h => by cases h) (by kernel_rfl) (fun _ h => by cases h) verifyMoreUpto_row_tie rfl ⟨rfl, rfl⟩ (by kernel_rfl) rfl verifyMore_plain (by kernel_rfl)
#print axioms verifyMore_holds
end Go.Proofs.YtiebmmpnmklpnaaDoor
