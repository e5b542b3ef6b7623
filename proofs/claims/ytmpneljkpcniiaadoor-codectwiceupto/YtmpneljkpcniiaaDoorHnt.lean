import Derived.Test.YtmpneljkpcniiaaDoorHns
import Derived.Test.YtmpneljkpcniiaaDoorErrs
import Derived.Test.YtmpneljkpcniiaaDoorCards
import Derived.Test.YtmpneljkpcniiaaDoorTie
import Derived.Test.YtmpneljkpcniiaaDoorFrm
namespace Go.Proofs.YtmpneljkpcniiaaDoor
open Go.ChangeShapes Go.WideShapes Go.ChangeAt Go.RowKit

set_option maxRecDepth 20000 in
set_option maxHeartbeats 1000000 in
theorem codecTwice_contract (H : Type) (enc : TypeId × Value → H) (W : World) (base : Nat) (args : Array Value) (ds gs : List (DataW H)) (before : List MemPlace)
    (hval : ∀ (j : Nat) t v, Tryd.f3.params[j]? = some t → args[j]? = some v → Value.okWide Tryd.prog W .any base t v)
    (hW : DataW.Whole enc Tryd.prog Tryd.f3.params.toList Rows.codecTwiceSpec.vars false W args.toList ds gs before) (hk : Rows.uptoSmall H (ds ++ gs) = true) (hL0 : laidMetH Tryd.prog Rows.codecTwiceUptoRow.laid W) :
    Calls Tryd.prog 3 args W fun e W' => ∃ v, e = .returned v ∧ Rows.codecTwiceSpec.post enc Tryd.prog Tryd.f3 false true false false W args v W' := by
  have hL : laidMet Tryd.prog Rows.codecTwiceUptoRow.laid W := hL0
  have hW' := hW
  obtain ⟨p, q, hA0, hV, rfl, _, _⟩ := hW
  have hA : DataW.TrodAll enc Tryd.prog W 0 (fun _ => true) true Tryd.f3.params.toList args.toList ds p := hA0
  rw [Tryd.params3] at hA hval
  obtain ⟨v0, vs0, d0, ds0, p0, q0, hargs, rfl, rfl, h0, r0⟩ := trodAll_cons hA
  obtain ⟨v1, vs1, d1, ds1, p1, q1, rfl, rfl, rfl, h1, r1⟩ := trodAll_cons r0
  obtain ⟨rfl, rfl, rfl⟩ := trodAll_nil r1
  obtain rfl : args = #[v0, v1] := by cases args; simp_all
  obtain ⟨rfl, rfl⟩ := trodVars_none hV
  have hb := of_decide_eq_true hk
  simp only [List.append_nil, Rows.uptoBulkAll] at hb
  have k0 := h0
  have lt0 : ∀ x ∈ p0, x.block < W.heap.size := by obtain ⟨m, hm⟩ := k0; exact DataW.trod_lt m _ _ _ hm
  obtain ⟨aL, lenL, capL, rfl⟩ := okWide_slice Tryd.underlying22 (hval 0 22 v0 rfl rfl)
  obtain ⟨fuel0, hf0⟩ := h0
  obtain ⟨taL, tcL, LL, htsL, hPL, hIL, hlL⟩ := ints_inQ hf0
  simp only [Value.cells, List.cons.injEq, Value.slice.injEq, and_true] at htsL
  obtain ⟨rfl, rfl, rfl⟩ := htsL
  have hbL : LL.length < Rows.uptoBulk d0 := hlL
  have k1 := h1
  have lt1 : ∀ x ∈ p1, x.block < W.heap.size := by obtain ⟨m, hm⟩ := k1; exact DataW.trod_lt m _ _ _ hm
  obtain ⟨aB, lenB, capB, rfl⟩ := okWide_slice Tryd.underlying23 (hval 1 23 v1 rfl rfl)
  obtain ⟨fuel1, hf1⟩ := h1
  obtain ⟨taB, tcB, TB, htsB, hBB, hbB, haB, hqB, hdB⟩ := bytes_in hf1
  simp only [Value.cells, List.cons.injEq, Value.slice.injEq, and_true] at htsB
  obtain ⟨rfl, rfl, rfl⟩ := htsB
  have hlB : TB.length < Rows.uptoBulk d1 := hqB
  clear hA0 hval
  simp only [List.append_nil] at hW'
  obtain ⟨e0, s0⟩ := sent0 hL (by unfold Rows.codecTwiceUptoRow; repeat (first | exact List.mem_cons_self | apply List.mem_cons_of_mem))
  obtain ⟨e1, s1⟩ := sent1 hL (by unfold Rows.codecTwiceUptoRow; repeat (first | exact List.mem_cons_self | apply List.mem_cons_of_mem))
  obtain ⟨e2, s2⟩ := sent2 hL (by unfold Rows.codecTwiceUptoRow; repeat (first | exact List.mem_cons_self | apply List.mem_cons_of_mem))
  obtain ⟨e3, s3⟩ := sent3 hL (by unfold Rows.codecTwiceUptoRow; repeat (first | exact List.mem_cons_self | apply List.mem_cons_of_mem))
  obtain ⟨e7, s7⟩ := sent7 hL (by unfold Rows.codecTwiceUptoRow; repeat (first | exact List.mem_cons_self | apply List.mem_cons_of_mem))
  refine (twice_all LL aL capL TB aB capB e0 e1 e2 e3 e7 W hPL hIL (by omega) hBB hbB (by omega) haB s0.var s1.var s2.var s3.var s7.var).mono fun e W' ⟨he, kept⟩ => ?_
  subst he
  have bel : Below W.heap.size W W' := kept.below (Nat.le_refl _) (fun _ _ f => f)
  exact ⟨_, rfl, _, _, _, [], _, [], hW', trodAll_cons_mk (shut_bool Tryd.underlying4 _) trodAll_mk0, (trodAll_cons_mk (Below.trod laidOut (by kernel_rfl) (of_decide_eq_true (by kernel_rfl)) k0 bel lt0) (trodAll_cons_mk (Below.trod laidOut (by kernel_rfl) (of_decide_eq_true (by kernel_rfl)) k1 bel lt1) trodAll_mk0)), rfl, bel.frame _, fun h => by cases h⟩

/-- The witness's arguments. -/
def codecTwiceArgs : Array Value := #[.slice none 0 0, .slice none 0 0]
theorem codecTwice_reads (os : Os) {H : Type} (enc : TypeId × Value → H) : ∃ places, DataW.whole enc Tryd.prog ((World.laidAll Tryd.prog os Rows.codecTwiceUptoRow.laid).forCall (fun _ _ => 0) ⟨#[], codecTwiceArgs, []⟩).memory Tryd.f3.params.toList Rows.codecTwiceSpec.vars false codecTwiceArgs.toList 8 = some ([.nil, .nil], [], places) :=
  ⟨[], by kernel_rfl⟩
set_option maxRecDepth 100000 in
theorem codecTwice_lifted (os : Os) (started : os.Started) (H : Type) (enc : TypeId × Value → H) (F : Stop.Interp) :
    ReturnsInHanded {} Tryd.checked os 3 .any ((Rows.OpenSpec.upto Rows.codecTwiceSpec).preRow enc Tryd.prog Tryd.f3 Rows.codecTwiceUptoRow.domain false Rows.codecTwiceUptoRow.laid) (((Rows.OpenSpec.upto Rows.codecTwiceSpec).at F).post enc Tryd.prog Tryd.f3 false true false false) := by
  obtain ⟨places, hx⟩ := codecTwice_reads os enc
  refine returnsInHanded_of_row (C := Tryd.checked) (s := Rows.OpenSpec.upto Rows.codecTwiceSpec) ownK started (by kernel_rfl) Tryd.func3
    (row_witness (enc := enc) (C := Tryd.checked) (World.laidAll Tryd.prog os Rows.codecTwiceUptoRow.laid) codecTwiceArgs (World.laidAll_os _ _ _) (World.shaped_of_ZipB (by kernel_rfl) (by kernel_rfl)) (by kernel_rfl)
      (OpenSpec.preRow_of_cond 8 hx (by kernel_rfl) (fun k hk => by cases hk; kernel_rfl) (by kernel_rfl) (by rw [MakeChecks.laidMetH_plain _ _ _ (by kernel_rfl)]; exact laidMet_laidAll _ (by kernel_rfl) (by kernel_rfl)))) ?_
  intro W base args ds gs before hval hW _ hcond _ hL _ _
  exact codecTwice_contract H enc W base args ds gs before hval hW (hcond _ rfl) hL

theorem codecTwice_said : Rows.CodecTwiceUptoSaid :=
  OpenClaim.holds_of_cond 3 Tryd.f3 rfl rfl rfl rfl rfl rfl rfl ⟨rfl, rfl, rfl, rfl, rfl⟩ rfl rfl rfl rfl rfl (by kernel_rfl) Tryd.func3 (by kernel_rfl)
    (of_decide_eq_true (by kernel_rfl)) (by unfold Func.isWrapper; first | (rw [if_pos (by decide +kernel)]; kernel_rfl) | (rw [if_neg (by decide +kernel)]; exact ⟨rfl, rfl⟩))
    (fun os started H enc _ F => by rw [OpenClaim.pre_eq_preRow]; exact codecTwice_lifted os started H enc F)
theorem codecTwice_plain (f : FuncId) (fn : Func) (hf : Tryd.pinned.checked.prog.funcNamed "concord/concordlaw01.CodecTwice" = some f) (hfn : Tryd.pinned.checked.prog.funcs[f]? = some fn) :
    false = Tryd.pinned.checked.prog.looks [] ∧ ∀ (j : Nat) t, fn.params[j]? = some t → Tryd.pinned.checked.prog.wantsStandIn t = false := by
  obtain rfl : f = 3 := Option.some.inj ((show Tryd.prog.funcNamed "concord/concordlaw01.CodecTwice" = some 3 by kernel_rfl).symm.trans hf) |>.symm
  obtain rfl : fn = Tryd.f3 := (Option.some.inj (Tryd.func3.symm.trans hfn)).symm
  refine ⟨by kernel_rfl, fun j t ht => ?_⟩
  rw [Tryd.params3] at ht
  have hm : t ∈ [22, 23] := by simpa using Array.mem_of_getElem? ht
  have hall : ([22, 23].all fun u => !Tryd.prog.wantsStandIn u) = true := by kernel_rfl
  exact (show Tryd.prog.wantsStandIn t = false by simpa using List.all_eq_true.1 hall t hm)
theorem codecTwice_holds : Rows.CodecTwiceUptoCardSaid :=
  Claim7.holds_tied_plain_at .later [] _ _ _ _ codecTwice_said (fun _ h => by cases h) (by kernel_rfl) (fun _ h => by cases h) codecTwiceUpto_row_tie rfl ⟨rfl, rfl⟩ (by kernel_rfl) rfl codecTwice_plain (by kernel_rfl)
#print axioms codecTwice_holds
end Go.Proofs.YtmpneljkpcniiaaDoor
