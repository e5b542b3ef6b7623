import Derived.Test.YtfdbdkcifjpdaaaGreatDoorScn
import Derived.Test.YtfdbdkcifjpdaaaGreatDoorMrg8
import Derived.Test.YtfdbdkcifjpdaaaGreatDoorPwa
import Derived.Test.YtfdbdkcifjpdaaaGreatDoorErx
import Derived.Test.YtfdbdkcifjpdaaaGreatDoorCards
import Derived.Test.YtfdbdkcifjpdaaaGreatDoorTie
import Derived.Test.YtfdbdkcifjpdaaaGreatDoorFrm
namespace Go.Proofs.YtfdbdkcifjpdaaaGreatDoor
open Go.ChangeShapes Go.WideShapes Go.ChangeAt Go.RowKit

set_option maxRecDepth 20000 in
set_option maxHeartbeats 1000000 in
theorem cursorScan_contract (H : Type) (enc : TypeId × Value → H) (W : World) (base : Nat) (args : Array Value) (ds gs : List (DataW H)) (before : List MemPlace)
    (hval : ∀ (j : Nat) t v, Tryz.f3.params[j]? = some t → args[j]? = some v → Value.okWide Tryz.prog W .any base t v)
    (hW : DataW.Whole enc Tryz.prog Tryz.f3.params.toList Rows.cursorScanSpec.vars false W args.toList ds gs before) (hk : Rows.uptoSmall H (ds ++ gs) = true) (hL0 : laidMetH Tryz.prog Rows.cursorScanUptoRow.laid W) :
    Calls Tryz.prog 3 args W fun e W' => ∃ v, e = .returned v ∧ Rows.cursorScanSpec.post enc Tryz.prog Tryz.f3 false true false false W args v W' := by
  have hL : laidMet Tryz.prog Rows.cursorScanUptoRow.laid W := hL0
  have hW' := hW
  obtain ⟨p, q, hA0, hV, rfl, _, _⟩ := hW
  have hA : DataW.TrodAll enc Tryz.prog W 0 (fun _ => true) true Tryz.f3.params.toList args.toList ds p := hA0
  rw [Tryz.params3] at hA hval
  obtain ⟨v0, vs0, d0, ds0, p0, q0, hargs, rfl, rfl, h0, r0⟩ := trodAll_cons hA
  obtain ⟨v1, vs1, d1, ds1, p1, q1, rfl, rfl, rfl, h1, r1⟩ := trodAll_cons r0
  obtain ⟨v2, vs2, d2, ds2, p2, q2, rfl, rfl, rfl, h2, r2⟩ := trodAll_cons r1
  obtain ⟨rfl, rfl, rfl⟩ := trodAll_nil r2
  obtain rfl : args = #[v0, v1, v2] := by cases args; simp_all
  obtain ⟨rfl, rfl⟩ := trodVars_none hV
  have hb := of_decide_eq_true hk
  simp only [List.append_nil, Rows.uptoBulkAll] at hb
  have k0 := h0
  have lt0 : ∀ x ∈ p0, x.block < W.heap.size := by obtain ⟨m, hm⟩ := k0; exact DataW.trod_lt m _ _ _ hm
  obtain ⟨aG, lenG, capG, rfl⟩ := okWide_slice Tryz.underlying22 (hval 0 22 v0 rfl rfl)
  obtain ⟨fuel0, hf0⟩ := h0
  obtain ⟨taG, tcG, LG, htsG, hPG, hIG, hlG⟩ := ints_inP hf0
  simp only [Value.cells, List.cons.injEq, Value.slice.injEq, and_true] at htsG
  obtain ⟨rfl, rfl, rfl⟩ := htsG
  have hbG : LG.length < Rows.uptoBulk d0 := hlG
  have k1 := h1
  have lt1 : ∀ x ∈ p1, x.block < W.heap.size := by obtain ⟨m, hm⟩ := k1; exact DataW.trod_lt m _ _ _ hm
  obtain ⟨aF, lenF, capF, rfl⟩ := okWide_slice Tryz.underlying22 (hval 1 22 v1 rfl rfl)
  obtain ⟨fuel1, hf1⟩ := h1
  obtain ⟨taF, tcF, LF, htsF, hPF, hIF, hlF⟩ := ints_inP hf1
  simp only [Value.cells, List.cons.injEq, Value.slice.injEq, and_true] at htsF
  obtain ⟨rfl, rfl, rfl⟩ := htsF
  have hbF : LF.length < Rows.uptoBulk d1 := hlF
  have k2 := h2
  have lt2 : ∀ x ∈ p2, x.block < W.heap.size := by obtain ⟨m, hm⟩ := k2; exact DataW.trod_lt m _ _ _ hm
  obtain ⟨aT, lenT, capT, rfl⟩ := okWide_slice Tryz.underlying22 (hval 2 22 v2 rfl rfl)
  obtain ⟨fuel2, hf2⟩ := h2
  obtain ⟨taT, tcT, LT, htsT, hPT, hIT, hlT⟩ := ints_inP hf2
  simp only [Value.cells, List.cons.injEq, Value.slice.injEq, and_true] at htsT
  obtain ⟨rfl, rfl, rfl⟩ := htsT
  have hbT : LT.length < Rows.uptoBulk d2 := hlT
  clear hA0 hval
  simp only [List.append_nil] at hW'
  obtain ⟨e0, s0⟩ := sent0 hL (by unfold Rows.cursorScanUptoRow; repeat (first | exact List.mem_cons_self | apply List.mem_cons_of_mem))
  obtain ⟨e1, s1⟩ := sent1 hL (by unfold Rows.cursorScanUptoRow; repeat (first | exact List.mem_cons_self | apply List.mem_cons_of_mem))
  obtain ⟨e2, s2⟩ := sent2 hL (by unfold Rows.cursorScanUptoRow; repeat (first | exact List.mem_cons_self | apply List.mem_cons_of_mem))
  obtain ⟨e3, s3⟩ := sent3 hL (by unfold Rows.cursorScanUptoRow; repeat (first | exact List.mem_cons_self | apply List.mem_cons_of_mem))
  obtain ⟨e4, s4⟩ := sent4 hL (by unfold Rows.cursorScanUptoRow; repeat (first | exact List.mem_cons_self | apply List.mem_cons_of_mem))
  obtain ⟨e7, s7⟩ := sent7 hL (by unfold Rows.cursorScanUptoRow; repeat (first | exact List.mem_cons_self | apply List.mem_cons_of_mem))
  obtain ⟨e9, s9⟩ := sent9 hL (by unfold Rows.cursorScanUptoRow; repeat (first | exact List.mem_cons_self | apply List.mem_cons_of_mem))
  refine (scan_walk fixed_any LG LF LT aG aF aT capG capF capT (fun i => [e0, e1, e2, e3, e4, e0, e0, e7, e0, e9].getD i e0) W hPG hPF hPT (by omega) (by omega) (by omega) hIT ⟨⟨s0.var, s1.var, s2.var, s3.var, s4.var⟩, s7.var, s9.var⟩).mono fun e W' ⟨he, kept⟩ => ?_
  subst he
  have bel : Below W.heap.size W W' := kept.below (Nat.le_refl _) (fun _ _ f => f)
  exact ⟨_, rfl, _, _, _, [], _, [], hW', trodAll_cons_mk (shut_bool Tryz.underlying4 _) trodAll_mk0, (trodAll_cons_mk (Below.trod laidOut (by kernel_rfl) (of_decide_eq_true (by kernel_rfl)) k0 bel lt0) (trodAll_cons_mk (Below.trod laidOut (by kernel_rfl) (of_decide_eq_true (by kernel_rfl)) k1 bel lt1) (trodAll_cons_mk (Below.trod laidOut (by kernel_rfl) (of_decide_eq_true (by kernel_rfl)) k2 bel lt2) trodAll_mk0))), rfl, bel.frame _, fun h => by cases h⟩

/-- The witness's arguments. -/
def cursorScanArgs : Array Value := #[.slice none 0 0, .slice none 0 0, .slice none 0 0]
theorem cursorScan_reads (os : Os) {H : Type} (enc : TypeId × Value → H) : ∃ places, DataW.whole enc Tryz.prog ((World.laidAll Tryz.prog os Rows.cursorScanUptoRow.laid).forCall (fun _ _ => 0) ⟨#[], cursorScanArgs, []⟩).memory Tryz.f3.params.toList Rows.cursorScanSpec.vars false cursorScanArgs.toList 8 = some ([.nil, .nil, .nil], [], places) :=
  ⟨[], by kernel_rfl⟩
set_option maxRecDepth 100000 in
theorem cursorScan_lifted (os : Os) (started : os.Started) (H : Type) (enc : TypeId × Value → H) (F : Stop.Interp) :
    ReturnsInHanded {} Tryz.checked os 3 .any ((Rows.OpenSpec.upto Rows.cursorScanSpec).preRow enc Tryz.prog Tryz.f3 Rows.cursorScanUptoRow.domain false Rows.cursorScanUptoRow.laid) (((Rows.OpenSpec.upto Rows.cursorScanSpec).at F).post enc Tryz.prog Tryz.f3 false true false false) := by
  obtain ⟨places, hx⟩ := cursorScan_reads os enc
  refine returnsInHanded_of_row (C := Tryz.checked) (s := Rows.OpenSpec.upto Rows.cursorScanSpec) ownK started (by kernel_rfl) Tryz.func3
    (row_witness (enc := enc) (C := Tryz.checked) (World.laidAll Tryz.prog os Rows.cursorScanUptoRow.laid) cursorScanArgs (World.laidAll_os _ _ _) (World.shaped_of_ZipB (by kernel_rfl) (by kernel_rfl)) (by kernel_rfl)
      (OpenSpec.preRow_of_cond 8 hx (by kernel_rfl) (fun k hk => by cases hk; kernel_rfl) (by kernel_rfl) (by rw [MakeChecks.laidMetH_plain _ _ _ (by kernel_rfl)]; exact laidMet_laidAll _ (by kernel_rfl) (by kernel_rfl)))) ?_
  intro W base args ds gs before hval hW _ hcond _ hL _ _
  exact cursorScan_contract H enc W base args ds gs before hval hW (hcond _ rfl) hL

theorem cursorScan_said : Rows.CursorScanUptoSaid :=
  OpenClaim.holds_of_cond 3 Tryz.f3 rfl rfl rfl rfl rfl rfl rfl ⟨rfl, rfl, rfl, rfl, rfl⟩ rfl rfl rfl rfl rfl (by kernel_rfl) Tryz.func3 (by kernel_rfl)
    (of_decide_eq_true (by kernel_rfl)) (by unfold Func.isWrapper; first | (rw [if_pos (by decide +kernel)]; kernel_rfl) | (rw [if_neg (by decide +kernel)]; exact ⟨rfl, rfl⟩))
    (fun os started H enc _ F => by rw [OpenClaim.pre_eq_preRow]; exact cursorScan_lifted os started H enc F)
theorem cursorScan_plain (f : FuncId) (fn : Func) (hf : Tryz.pinned.checked.prog.funcNamed "concord/concordlaw09.CursorScan" = some f) (hfn : Tryz.pinned.checked.prog.funcs[f]? = some fn) :
    false = Tryz.pinned.checked.prog.looks [] ∧ ∀ (j : Nat) t, fn.params[j]? = some t → Tryz.pinned.checked.prog.wantsStandIn t = false := by
  obtain rfl : f = 3 := Option.some.inj ((show Tryz.prog.funcNamed "concord/concordlaw09.CursorScan" = some 3 by kernel_rfl).symm.trans hf) |>.symm
  obtain rfl : fn = Tryz.f3 := (Option.some.inj (Tryz.func3.symm.trans hfn)).symm
  refine ⟨by kernel_rfl, fun j t ht => ?_⟩
  rw [Tryz.params3] at ht
  have hm : t ∈ [22, 22, 22] := by simpa using Array.mem_of_getElem? ht
  have hall : ([22, 22, 22].all fun u => !Tryz.prog.wantsStandIn u) = true := by kernel_rfl
  exact (show Tryz.prog.wantsStandIn t = false by simpa using List.all_eq_true.1 hall t hm)
theorem cursorScan_holds : Rows.CursorScanUptoCardSaid :=
  Claim7.holds_tied_plain_at .later [] _ _ _ _ cursorScan_said (fun _ h => by cases h) (by kernel_rfl) (fun _ h => by cases h) cursorScanUpto_row_tie rfl ⟨rfl, rfl⟩ (by kernel_rfl) rfl cursorScan_plain (by kernel_rfl)
#print axioms cursorScan_holds
end Go.Proofs.YtfdbdkcifjpdaaaGreatDoor
