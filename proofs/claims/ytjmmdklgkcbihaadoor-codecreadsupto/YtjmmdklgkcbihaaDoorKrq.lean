import Derived.Test.YtjmmdklgkcbihaaDoorKrp
import Derived.Test.YtjmmdklgkcbihaaDoorErrs
import Derived.Test.YtjmmdklgkcbihaaDoorCards
import Derived.Test.YtjmmdklgkcbihaaDoorTie
import Derived.Test.YtjmmdklgkcbihaaDoorFrm
namespace Go.Proofs.YtjmmdklgkcbihaaDoor
open Go.ChangeShapes Go.WideShapes Go.ChangeAt Go.RowKit

set_option maxRecDepth 20000 in
set_option maxHeartbeats 1000000 in
theorem codecReads_contract (H : Type) (enc : TypeId × Value → H) (W : World) (base : Nat) (args : Array Value) (ds gs : List (DataW H)) (before : List MemPlace)
    (hval : ∀ (j : Nat) t v, Tryd.f4.params[j]? = some t → args[j]? = some v → Value.okWide Tryd.prog W .any base t v)
    (hW : DataW.Whole enc Tryd.prog Tryd.f4.params.toList Rows.codecReadsSpec.vars false W args.toList ds gs before) (hk : Rows.uptoSmall H (ds ++ gs) = true) (hL0 : laidMetH Tryd.prog Rows.codecReadsUptoRow.laid W) :
    Calls Tryd.prog 4 args W fun e W' => ∃ v, e = .returned v ∧ Rows.codecReadsSpec.post enc Tryd.prog Tryd.f4 false true false false W args v W' := by
  have hL : laidMet Tryd.prog Rows.codecReadsUptoRow.laid W := hL0
  have hW' := hW
  obtain ⟨p, q, hA0, hV, rfl, _, _⟩ := hW
  have hA : DataW.TrodAll enc Tryd.prog W 0 (fun _ => true) true Tryd.f4.params.toList args.toList ds p := hA0
  rw [Tryd.params4] at hA hval
  obtain ⟨v0, vs0, d0, ds0, p0, q0, hargs, rfl, rfl, h0, r0⟩ := trodAll_cons hA
  obtain ⟨v1, vs1, d1, ds1, p1, q1, rfl, rfl, rfl, h1, r1⟩ := trodAll_cons r0
  obtain ⟨v2, vs2, d2, ds2, p2, q2, rfl, rfl, rfl, h2, r2⟩ := trodAll_cons r1
  obtain ⟨rfl, rfl, rfl⟩ := trodAll_nil r2
  obtain rfl : args = #[v0, v1, v2] := by cases args; simp_all
  obtain ⟨rfl, rfl⟩ := trodVars_none hV
  have hb := of_decide_eq_true hk
  simp only [List.append_nil, Rows.uptoBulkAll] at hb
  have k0 := h0
  have lt0 : ∀ x ∈ p0, x.block < W.heap.size := by obtain ⟨m, hm⟩ := k0; exact DataW.trod_lt m _ _ _ hm
  obtain ⟨aB, lenB, capB, rfl⟩ := okWide_slice Tryd.underlying26 (hval 0 26 v0 rfl rfl)
  obtain ⟨fuel0, hf0⟩ := h0
  obtain ⟨taB, tcB, TB, htsB, hBB, hbB, haB, hqB, hdB⟩ := bytes_in hf0
  simp only [Value.cells, List.cons.injEq, Value.slice.injEq, and_true] at htsB
  obtain ⟨rfl, rfl, rfl⟩ := htsB
  have hlB : TB.length < Rows.uptoBulk d0 := hqB
  have k1 := h1
  have lt1 : ∀ x ∈ p1, x.block < W.heap.size := by obtain ⟨m, hm⟩ := k1; exact DataW.trod_lt m _ _ _ hm
  obtain ⟨aC, lenC, capC, rfl⟩ := okWide_slice Tryd.underlying26 (hval 1 26 v1 rfl rfl)
  obtain ⟨fuel1, hf1⟩ := h1
  obtain ⟨taC, tcC, TC, htsC, hBC, hbC, haC, hqC, hdC⟩ := bytes_in hf1
  simp only [Value.cells, List.cons.injEq, Value.slice.injEq, and_true] at htsC
  obtain ⟨rfl, rfl, rfl⟩ := htsC
  have hlC : TC.length < Rows.uptoBulk d1 := hqC
  have k2 := h2
  have lt2 : ∀ x ∈ p2, x.block < W.heap.size := by obtain ⟨m, hm⟩ := k2; exact DataW.trod_lt m _ _ _ hm
  obtain ⟨aS, lenS, capS, rfl⟩ := okWide_slice Tryd.underlying22 (hval 2 22 v2 rfl rfl)
  obtain ⟨fuel2, hf2⟩ := h2
  obtain ⟨taS, tcS, S, htsS, hS, hO, htot⟩ := ops_ofR hf2 (by show Rows.uptoBulk d2 ≤ _; omega)
  simp only [Value.cells, List.cons.injEq, Value.slice.injEq, and_true] at htsS
  obtain ⟨rfl, rfl, rfl⟩ := htsS
  have htot' : total S < Rows.uptoBulk d2 := htot
  clear hA0 hval
  simp only [List.append_nil] at hW'
  obtain ⟨e0, s0⟩ := sent0 hL (by unfold Rows.codecReadsUptoRow; repeat (first | exact List.mem_cons_self | apply List.mem_cons_of_mem))
  obtain ⟨e1, s1⟩ := sent1 hL (by unfold Rows.codecReadsUptoRow; repeat (first | exact List.mem_cons_self | apply List.mem_cons_of_mem))
  obtain ⟨e2, s2⟩ := sent2 hL (by unfold Rows.codecReadsUptoRow; repeat (first | exact List.mem_cons_self | apply List.mem_cons_of_mem))
  obtain ⟨e3, s3⟩ := sent3 hL (by unfold Rows.codecReadsUptoRow; repeat (first | exact List.mem_cons_self | apply List.mem_cons_of_mem))
  obtain ⟨e4, s4⟩ := sent4 hL (by unfold Rows.codecReadsUptoRow; repeat (first | exact List.mem_cons_self | apply List.mem_cons_of_mem))
  obtain ⟨e5, s5⟩ := sent5 hL (by unfold Rows.codecReadsUptoRow; repeat (first | exact List.mem_cons_self | apply List.mem_cons_of_mem))
  obtain ⟨e6, s6⟩ := sent6 hL (by unfold Rows.codecReadsUptoRow; repeat (first | exact List.mem_cons_self | apply List.mem_cons_of_mem))
  obtain ⟨e7, s7⟩ := sent7 hL (by unfold Rows.codecReadsUptoRow; repeat (first | exact List.mem_cons_self | apply List.mem_cons_of_mem))
  refine (reads_all TB aB capB TC aC capC S aS capS e0 e1 e2 e3 e4 e5 e6 e7 W hBB hbB (by omega) haB hBC hbC (by omega) haC hS hO (by omega) s0 s1 s2 s3 s4 s5 s6 s7).mono fun e W' ⟨he, kept⟩ => ?_
  subst he
  have bel : Below W.heap.size W W' := kept.below (Nat.le_refl _) (fun _ _ f => f)
  exact ⟨_, rfl, _, _, _, [], _, [], hW', trodAll_cons_mk (shut_bool Tryd.underlying4 _) trodAll_mk0, (trodAll_cons_mk (Below.trod laidOut (by kernel_rfl) (of_decide_eq_true (by kernel_rfl)) k0 bel lt0) (trodAll_cons_mk (Below.trod laidOut (by kernel_rfl) (of_decide_eq_true (by kernel_rfl)) k1 bel lt1) (trodAll_cons_mk (Below.trod laidOut (by kernel_rfl) (of_decide_eq_true (by kernel_rfl)) k2 bel lt2) trodAll_mk0))), rfl, bel.frame _, fun h => by cases h⟩

/-- The witness's arguments. -/
def codecReadsArgs : Array Value := #[.slice none 0 0, .slice none 0 0, .slice none 0 0]
theorem codecReads_reads (os : Os) {H : Type} (enc : TypeId × Value → H) : ∃ places, DataW.whole enc Tryd.prog ((World.laidAll Tryd.prog os Rows.codecReadsUptoRow.laid).forCall (fun _ _ => 0) ⟨#[], codecReadsArgs, []⟩).memory Tryd.f4.params.toList Rows.codecReadsSpec.vars false codecReadsArgs.toList 8 = some ([.nil, .nil, .nil], [], places) :=
  ⟨[], by kernel_rfl⟩
set_option maxRecDepth 100000 in
theorem codecReads_lifted (os : Os) (started : os.Started) (H : Type) (enc : TypeId × Value → H) (F : Stop.Interp) :
    ReturnsInHanded {} Tryd.checked os 4 .any ((Rows.OpenSpec.upto Rows.codecReadsSpec).preRow enc Tryd.prog Tryd.f4 Rows.codecReadsUptoRow.domain false Rows.codecReadsUptoRow.laid) (((Rows.OpenSpec.upto Rows.codecReadsSpec).at F).post enc Tryd.prog Tryd.f4 false true false false) := by
  obtain ⟨places, hx⟩ := codecReads_reads os enc
  refine returnsInHanded_of_row (C := Tryd.checked) (s := Rows.OpenSpec.upto Rows.codecReadsSpec) ownK started (by kernel_rfl) Tryd.func4
    (row_witness (enc := enc) (C := Tryd.checked) (World.laidAll Tryd.prog os Rows.codecReadsUptoRow.laid) codecReadsArgs (World.laidAll_os _ _ _) (World.shaped_of_ZipB (by kernel_rfl) (by kernel_rfl)) (by kernel_rfl)
      (OpenSpec.preRow_of_cond 8 hx (by kernel_rfl) (fun k hk => by cases hk; kernel_rfl) (by kernel_rfl) (by rw [MakeChecks.laidMetH_plain _ _ _ (by kernel_rfl)]; exact laidMet_laidAll _ (by kernel_rfl) (by kernel_rfl)))) ?_
  intro W base args ds gs before hval hW _ hcond _ hL _ _
  exact codecReads_contract H enc W base args ds gs before hval hW (hcond _ rfl) hL

theorem codecReads_said : Rows.CodecReadsUptoSaid :=
  OpenClaim.holds_of_cond 4 Tryd.f4 rfl rfl rfl rfl rfl rfl rfl ⟨rfl, rfl, rfl, rfl, rfl⟩ rfl rfl rfl rfl rfl (by kernel_rfl) Tryd.func4 (by kernel_rfl)
    (of_decide_eq_true (by kernel_rfl)) (by unfold Func.isWrapper; first | (rw [if_pos (by decide +kernel)]; kernel_rfl) | (rw [if_neg (by decide +kernel)]; exact ⟨rfl, rfl⟩))
    (fun os started H enc _ F => by rw [OpenClaim.pre_eq_preRow]; exact codecReads_lifted os started H enc F)
theorem codecReads_plain (f : FuncId) (fn : Func) (hf : Tryd.pinned.checked.prog.funcNamed "concord/concordlaw01.CodecReads" = some f) (hfn : Tryd.pinned.checked.prog.funcs[f]? = some fn) :
    true = Tryd.pinned.checked.prog.looks [] ∧ ∀ (j : Nat) t, fn.params[j]? = some t → Tryd.pinned.checked.prog.wantsStandIn t = false := by
  obtain rfl : f = 4 := Option.some.inj ((show Tryd.prog.funcNamed "concord/concordlaw01.CodecReads" = some 4 by kernel_rfl).symm.trans hf) |>.symm
  obtain rfl : fn = Tryd.f4 := (Option.some.inj (Tryd.func4.symm.trans hfn)).symm
  refine ⟨by kernel_rfl, fun j t ht => ?_⟩
  rw [Tryd.params4] at ht
  have hm : t ∈ [26, 26, 22] := by simpa using Array.mem_of_getElem? ht
  have hall : ([26, 26, 22].all fun u => !Tryd.prog.wantsStandIn u) = true := by kernel_rfl
  exact (show Tryd.prog.wantsStandIn t = false by simpa using List.all_eq_true.1 hall t hm)
theorem codecReads_holds : Rows.CodecReadsUptoCardSaid :=
  Claim7.holds_tied_plain_at .later [] _ _ _ _ codecReads_said (fun _ h => by cases h) (by kernel_rfl) (fun _ h => by cases h) codecReadsUpto_row_tie rfl ⟨rfl, rfl⟩ (by kernel_rfl) rfl codecReads_plain (by kernel_rfl)
#print axioms codecReads_holds
end Go.Proofs.YtjmmdklgkcbihaaDoor
