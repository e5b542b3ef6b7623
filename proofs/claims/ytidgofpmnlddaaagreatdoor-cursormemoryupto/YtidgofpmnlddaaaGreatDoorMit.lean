import Derived.Test.YtidgofpmnlddaaaGreatDoorMis
import Derived.Test.YtidgofpmnlddaaaGreatDoorMrg5
import Derived.Test.YtidgofpmnlddaaaGreatDoorErx
import Derived.Test.YtidgofpmnlddaaaGreatDoorCards
import Derived.Test.YtidgofpmnlddaaaGreatDoorTie
import Derived.Test.YtidgofpmnlddaaaGreatDoorFrm
namespace Go.Proofs.YtidgofpmnlddaaaGreatDoor
open Go.ChangeShapes Go.WideShapes Go.ChangeAt Go.RowKit

set_option maxRecDepth 20000 in
set_option maxHeartbeats 1000000 in
theorem cursorMemory_contract (H : Type) (enc : TypeId × Value → H) (W : World) (base : Nat) (args : Array Value) (ds gs : List (DataW H)) (before : List MemPlace)
    (hval : ∀ (j : Nat) t v, Tryz.f3.params[j]? = some t → args[j]? = some v → Value.okWide Tryz.prog W .any base t v)
    (hW : DataW.Whole enc Tryz.prog Tryz.f3.params.toList Rows.cursorMemorySpec.vars false W args.toList ds gs before) (hk : Rows.uptoSmall H (ds ++ gs) = true) (hL0 : laidMetH Tryz.prog Rows.cursorMemoryUptoRow.laid W) :
    Calls Tryz.prog 3 args W fun e W' => ∃ v, e = .returned v ∧ Rows.cursorMemorySpec.post enc Tryz.prog Tryz.f3 false true false false W args v W' := by
  have hL : laidMet Tryz.prog Rows.cursorMemoryUptoRow.laid W := hL0
  have hW' := hW
  obtain ⟨p, q, hA0, hV, rfl, _, _⟩ := hW
  have hA : DataW.TrodAll enc Tryz.prog W 0 (fun _ => true) true Tryz.f3.params.toList args.toList ds p := hA0
  rw [Tryz.params3] at hA hval
  obtain ⟨v0, vs0, d0, ds0, p0, q0, hargs, rfl, rfl, h0, r0⟩ := trodAll_cons hA
  obtain ⟨v1, vs1, d1, ds1, p1, q1, rfl, rfl, rfl, h1, r1⟩ := trodAll_cons r0
  obtain ⟨v2, vs2, d2, ds2, p2, q2, rfl, rfl, rfl, h2, r2⟩ := trodAll_cons r1
  obtain ⟨rfl, rfl, rfl⟩ := trodAll_nil r2
  obtain rfl : args = #[v0, v1, v2] := by cases args; simp_all
  obtain ⟨rfl, rfl⟩ := trodVars_none hV
  have hb := of_decide_eq_true hk
  simp only [List.append_nil, Rows.uptoBulkAll] at hb
  have k0 := h0
  have lt0 : ∀ x ∈ p0, x.block < W.heap.size := by obtain ⟨m, hm⟩ := k0; exact DataW.trod_lt m _ _ _ hm
  obtain ⟨aN, lenN, capN, rfl⟩ := okWide_slice Tryz.underlying22 (hval 0 22 v0 rfl rfl)
  obtain ⟨fuel0, hf0⟩ := h0
  obtain ⟨taN, tcN, LN, htsN, hPN, hIN, hcN, hlN⟩ := postings_of hf0
  simp only [Value.cells, List.cons.injEq, Value.slice.injEq, and_true] at htsN
  obtain ⟨rfl, rfl, rfl⟩ := htsN
  have hbN : tot (pol LN) + LN.length < Rows.uptoBulk d0 := hlN
  have k1 := h1
  have lt1 : ∀ x ∈ p1, x.block < W.heap.size := by obtain ⟨m, hm⟩ := k1; exact DataW.trod_lt m _ _ _ hm
  obtain ⟨aL, lenL, capL, rfl⟩ := okWide_slice Tryz.underlying23 (hval 1 23 v1 rfl rfl)
  obtain ⟨fuel1, hf1⟩ := h1
  obtain ⟨taL, tcL, LL, htsL, hPL, hRL, hIL, hcL, hlL⟩ := lists_ofM hf1
  simp only [Value.cells, List.cons.injEq, Value.slice.injEq, and_true] at htsL
  obtain ⟨rfl, rfl, rfl⟩ := htsL
  have hbL : ltot LL + LL.length < Rows.uptoBulk d1 := hlL
  have k2 := h2
  have lt2 : ∀ x ∈ p2, x.block < W.heap.size := by obtain ⟨m, hm⟩ := k2; exact DataW.trod_lt m _ _ _ hm
  obtain ⟨aO, lenO, capO, rfl⟩ := okWide_slice Tryz.underlying24 (hval 2 24 v2 rfl rfl)
  obtain ⟨fuel2, hf2⟩ := h2
  obtain ⟨taO, tcO, LO, htsO, hPO, hIO, hcO, hlO⟩ := ints_inM hf2
  simp only [Value.cells, List.cons.injEq, Value.slice.injEq, and_true] at htsO
  obtain ⟨rfl, rfl, rfl⟩ := htsO
  have hbO : LO.length < Rows.uptoBulk d2 := hlO
  clear hA0 hval
  simp only [List.append_nil] at hW'
  obtain ⟨e0, s0⟩ := sent0 hL (by unfold Rows.cursorMemoryUptoRow; repeat (first | exact List.mem_cons_self | apply List.mem_cons_of_mem))
  obtain ⟨e1, s1⟩ := sent1 hL (by unfold Rows.cursorMemoryUptoRow; repeat (first | exact List.mem_cons_self | apply List.mem_cons_of_mem))
  obtain ⟨e2, s2⟩ := sent2 hL (by unfold Rows.cursorMemoryUptoRow; repeat (first | exact List.mem_cons_self | apply List.mem_cons_of_mem))
  obtain ⟨e3, s3⟩ := sent3 hL (by unfold Rows.cursorMemoryUptoRow; repeat (first | exact List.mem_cons_self | apply List.mem_cons_of_mem))
  obtain ⟨e4, s4⟩ := sent4 hL (by unfold Rows.cursorMemoryUptoRow; repeat (first | exact List.mem_cons_self | apply List.mem_cons_of_mem))
  obtain ⟨e5, s5⟩ := sent5 hL (by unfold Rows.cursorMemoryUptoRow; repeat (first | exact List.mem_cons_self | apply List.mem_cons_of_mem))
  obtain ⟨e6, s6⟩ := sent6 hL (by unfold Rows.cursorMemoryUptoRow; repeat (first | exact List.mem_cons_self | apply List.mem_cons_of_mem))
  obtain ⟨e7, s7⟩ := sent7 hL (by unfold Rows.cursorMemoryUptoRow; repeat (first | exact List.mem_cons_self | apply List.mem_cons_of_mem))
  obtain ⟨e8, s8⟩ := sent8 hL (by unfold Rows.cursorMemoryUptoRow; repeat (first | exact List.mem_cons_self | apply List.mem_cons_of_mem))
  obtain ⟨e9, s9⟩ := sent9 hL (by unfold Rows.cursorMemoryUptoRow; repeat (first | exact List.mem_cons_self | apply List.mem_cons_of_mem))
  obtain ⟨e10, s10⟩ := sent10 hL (by unfold Rows.cursorMemoryUptoRow; repeat (first | exact List.mem_cons_self | apply List.mem_cons_of_mem))
  obtain ⟨e11, s11⟩ := sent11 hL (by unfold Rows.cursorMemoryUptoRow; repeat (first | exact List.mem_cons_self | apply List.mem_cons_of_mem))
  obtain ⟨e12, s12⟩ := sent12 hL (by unfold Rows.cursorMemoryUptoRow; repeat (first | exact List.mem_cons_self | apply List.mem_cons_of_mem))
  refine (memory_all LN LL LO aN aL aO capN capL capO (fun i => [e0, e1, e2, e3, e4, e5, e6, e7, e8, e9, e10, e11, e12].getD i e0) W hPN hIN (by omega) hcN (by omega) hPL hPO (by omega) (by omega) hRL hcO.2 (by omega) ⟨s0, s1, s2, s3, s4, s5, s6, s7, s8, s9, s10, s11, s12⟩).mono fun e W' ⟨he, kept⟩ => ?_
  subst he
  have bel : Below W.heap.size W W' := kept.below (Nat.le_refl _) (fun _ _ f => f)
  exact ⟨_, rfl, _, _, _, [], _, [], hW', trodAll_cons_mk (shut_bool Tryz.underlying4 _) trodAll_mk0, (trodAll_cons_mk (Below.trod laidOut (by kernel_rfl) (of_decide_eq_true (by kernel_rfl)) k0 bel lt0) (trodAll_cons_mk (Below.trod laidOut (by kernel_rfl) (of_decide_eq_true (by kernel_rfl)) k1 bel lt1) (trodAll_cons_mk (Below.trod laidOut (by kernel_rfl) (of_decide_eq_true (by kernel_rfl)) k2 bel lt2) trodAll_mk0))), rfl, bel.frame _, fun h => by cases h⟩

/-- The witness's arguments. -/
def cursorMemoryArgs : Array Value := #[.slice none 0 0, .slice none 0 0, .slice none 0 0]
theorem cursorMemory_reads (os : Os) {H : Type} (enc : TypeId × Value → H) : ∃ places, DataW.whole enc Tryz.prog ((World.laidAll Tryz.prog os Rows.cursorMemoryUptoRow.laid).forCall (fun _ _ => 0) ⟨#[], cursorMemoryArgs, []⟩).memory Tryz.f3.params.toList Rows.cursorMemorySpec.vars false cursorMemoryArgs.toList 8 = some ([.nil, .nil, .nil], [], places) :=
  ⟨[], by kernel_rfl⟩
set_option maxRecDepth 100000 in
theorem cursorMemory_lifted (os : Os) (started : os.Started) (H : Type) (enc : TypeId × Value → H) (F : Stop.Interp) :
    ReturnsInHanded {} Tryz.checked os 3 .any ((Rows.OpenSpec.upto Rows.cursorMemorySpec).preRow enc Tryz.prog Tryz.f3 Rows.cursorMemoryUptoRow.domain false Rows.cursorMemoryUptoRow.laid) (((Rows.OpenSpec.upto Rows.cursorMemorySpec).at F).post enc Tryz.prog Tryz.f3 false true false false) := by
  obtain ⟨places, hx⟩ := cursorMemory_reads os enc
  refine returnsInHanded_of_row (C := Tryz.checked) (s := Rows.OpenSpec.upto Rows.cursorMemorySpec) ownK started (by kernel_rfl) Tryz.func3
    (row_witness (enc := enc) (C := Tryz.checked) (World.laidAll Tryz.prog os Rows.cursorMemoryUptoRow.laid) cursorMemoryArgs (World.laidAll_os _ _ _) (World.shaped_of_ZipB (by kernel_rfl) (by kernel_rfl)) (by kernel_rfl)
      (OpenSpec.preRow_of_cond 8 hx (by kernel_rfl) (fun k hk => by cases hk; kernel_rfl) (by kernel_rfl) (by rw [MakeChecks.laidMetH_plain _ _ _ (by kernel_rfl)]; exact laidMet_laidAll _ (by kernel_rfl) (by kernel_rfl)))) ?_
  intro W base args ds gs before hval hW _ hcond _ hL _ _
  exact cursorMemory_contract H enc W base args ds gs before hval hW (hcond _ rfl) hL

theorem cursorMemory_said : Rows.CursorMemoryUptoSaid :=
  OpenClaim.holds_of_cond 3 Tryz.f3 rfl rfl rfl rfl rfl rfl rfl ⟨rfl, rfl, rfl, rfl, rfl⟩ rfl rfl rfl rfl rfl (by kernel_rfl) Tryz.func3 (by kernel_rfl)
    (of_decide_eq_true (by kernel_rfl)) (by unfold Func.isWrapper; first | (rw [if_pos (by decide +kernel)]; kernel_rfl) | (rw [if_neg (by decide +kernel)]; exact ⟨rfl, rfl⟩))
    (fun os started H enc _ F => by rw [OpenClaim.pre_eq_preRow]; exact cursorMemory_lifted os started H enc F)
theorem cursorMemory_plain (f : FuncId) (fn : Func) (hf : Tryz.pinned.checked.prog.funcNamed "concord/concordlaw09.CursorMemory" = some f) (hfn : Tryz.pinned.checked.prog.funcs[f]? = some fn) :
    true = Tryz.pinned.checked.prog.looks [] ∧ ∀ (j : Nat) t, fn.params[j]? = some t → Tryz.pinned.checked.prog.wantsStandIn t = false := by
  obtain rfl : f = 3 := Option.some.inj ((show Tryz.prog.funcNamed "concord/concordlaw09.CursorMemory" = some 3 by kernel_rfl).symm.trans hf) |>.symm
  obtain rfl : fn = Tryz.f3 := (Option.some.inj (Tryz.func3.symm.trans hfn)).symm
  refine ⟨by kernel_rfl, fun j t ht => ?_⟩
  rw [Tryz.params3] at ht
  have hm : t ∈ [22, 23, 24] := by simpa using Array.mem_of_getElem? ht
  have hall : ([22, 23, 24].all fun u => !Tryz.prog.wantsStandIn u) = true := by kernel_rfl
  exact (show Tryz.prog.wantsStandIn t = false by simpa using List.all_eq_true.1 hall t hm)
theorem cursorMemory_holds : Rows.CursorMemoryUptoCardSaid :=
  Claim7.holds_tied_plain_at .later [] _ _ _ _ cursorMemory_said (fun _ h => by cases h) (by kernel_rfl) (fun _ h => by cases h) cursorMemoryUpto_row_tie rfl ⟨rfl, rfl⟩ (by kernel_rfl) rfl cursorMemory_plain (by kernel_rfl)
#print axioms cursorMemory_holds
end Go.Proofs.YtidgofpmnlddaaaGreatDoor
