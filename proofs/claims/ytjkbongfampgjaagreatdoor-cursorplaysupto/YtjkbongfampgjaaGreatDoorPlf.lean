import Derived.Test.YtjkbongfampgjaaGreatDoorPly
import Derived.Test.YtjkbongfampgjaaGreatDoorOcs
import Derived.Test.YtjkbongfampgjaaGreatDoorPwa
import Derived.Test.YtjkbongfampgjaaGreatDoorErx
import Derived.Test.YtjkbongfampgjaaGreatDoorCards
import Derived.Test.YtjkbongfampgjaaGreatDoorTie
import Derived.Test.YtjkbongfampgjaaGreatDoorFrm
namespace Go.Proofs.YtjkbongfampgjaaGreatDoor
open Go.ChangeShapes Go.WideShapes Go.ChangeAt Go.RowKit

set_option maxRecDepth 20000 in
set_option maxHeartbeats 1000000 in
theorem cursorPlays_contract (H : Type) (enc : TypeId × Value → H) (W : World) (base : Nat) (args : Array Value) (ds gs : List (DataW H)) (before : List MemPlace)
    (hval : ∀ (j : Nat) t v, Tryz.f3.params[j]? = some t → args[j]? = some v → Value.okWide Tryz.prog W .any base t v)
    (hW : DataW.Whole enc Tryz.prog Tryz.f3.params.toList Rows.cursorPlaysSpec.vars false W args.toList ds gs before) (hk : Rows.uptoSmall H (ds ++ gs) = true) (hL0 : laidMetH Tryz.prog Rows.cursorPlaysUptoRow.laid W) :
    Calls Tryz.prog 3 args W fun e W' => ∃ v, e = .returned v ∧ Rows.cursorPlaysSpec.post enc Tryz.prog Tryz.f3 false true false false W args v W' := by
  have hL : laidMet Tryz.prog Rows.cursorPlaysUptoRow.laid W := hL0
  have hW' := hW
  obtain ⟨p, q, hA0, hV, rfl, _, _⟩ := hW
  have hA : DataW.TrodAll enc Tryz.prog W 0 (fun _ => true) true Tryz.f3.params.toList args.toList ds p := hA0
  rw [Tryz.params3] at hA hval
  obtain ⟨v0, vs0, d0, ds0, p0, q0, hargs, rfl, rfl, h0, r0⟩ := trodAll_cons hA
  obtain ⟨v1, vs1, d1, ds1, p1, q1, rfl, rfl, rfl, h1, r1⟩ := trodAll_cons r0
  obtain ⟨rfl, rfl, rfl⟩ := trodAll_nil r1
  obtain rfl : args = #[v0, v1] := by cases args; simp_all
  obtain ⟨rfl, rfl⟩ := trodVars_none hV
  have hb := of_decide_eq_true hk
  simp only [List.append_nil, Rows.uptoBulkAll] at hb
  have k0 := h0
  have lt0 : ∀ x ∈ p0, x.block < W.heap.size := by obtain ⟨m, hm⟩ := k0; exact DataW.trod_lt m _ _ _ hm
  obtain ⟨aN, lenN, capN, rfl⟩ := okWide_slice Tryz.underlying22 (hval 0 22 v0 rfl rfl)
  obtain ⟨fuel0, hf0⟩ := h0
  obtain ⟨taN, tcN, LN, htsN, hPN, hIN, hcN, hlN⟩ := postings_of hf0
  simp only [Value.cells, List.cons.injEq, Value.slice.injEq, and_true] at htsN
  obtain ⟨rfl, rfl, rfl⟩ := htsN
  have hbN : tot (pol LN) + LN.length < Rows.uptoBulk d0 := hlN
  have k1 := h1
  have lt1 : ∀ x ∈ p1, x.block < W.heap.size := by obtain ⟨m, hm⟩ := k1; exact DataW.trod_lt m _ _ _ hm
  obtain ⟨aM, lenM, capM, rfl⟩ := okWide_slice Tryz.underlying23 (hval 1 23 v1 rfl rfl)
  obtain ⟨fuel1, hf1⟩ := h1
  obtain ⟨taM, tcM, OM, htsM, hOM, hlM⟩ := script_of hf1
  simp only [Value.cells, List.cons.injEq, Value.slice.injEq, and_true] at htsM
  obtain ⟨rfl, rfl, rfl⟩ := htsM
  have hbM : OM.length < Rows.uptoBulk d1 := hlM
  clear hA0 hval
  simp only [List.append_nil] at hW'
  obtain ⟨e0, s0⟩ := sent0 hL (by unfold Rows.cursorPlaysUptoRow; repeat (first | exact List.mem_cons_self | apply List.mem_cons_of_mem))
  obtain ⟨e1, s1⟩ := sent1 hL (by unfold Rows.cursorPlaysUptoRow; repeat (first | exact List.mem_cons_self | apply List.mem_cons_of_mem))
  obtain ⟨e2, s2⟩ := sent2 hL (by unfold Rows.cursorPlaysUptoRow; repeat (first | exact List.mem_cons_self | apply List.mem_cons_of_mem))
  obtain ⟨e3, s3⟩ := sent3 hL (by unfold Rows.cursorPlaysUptoRow; repeat (first | exact List.mem_cons_self | apply List.mem_cons_of_mem))
  obtain ⟨e4, s4⟩ := sent4 hL (by unfold Rows.cursorPlaysUptoRow; repeat (first | exact List.mem_cons_self | apply List.mem_cons_of_mem))
  obtain ⟨e7, s7⟩ := sent7 hL (by unfold Rows.cursorPlaysUptoRow; repeat (first | exact List.mem_cons_self | apply List.mem_cons_of_mem))
  obtain ⟨e9, s9⟩ := sent9 hL (by unfold Rows.cursorPlaysUptoRow; repeat (first | exact List.mem_cons_self | apply List.mem_cons_of_mem))
  refine (plays_walk LN aN capN OM aM capM (fun i => [e0, e1, e2, e3, e4, e0, e0, e7, e0, e9].getD i e0) W hPN hIN (by omega) hcN (by omega) hOM (by omega) ⟨⟨s0.var, s1.var, s2.var, s3.var, s4.var⟩, s7.var, s9.var⟩).mono fun e W' ⟨he, kept⟩ => ?_
  subst he
  have bel : Below W.heap.size W W' := kept.below (Nat.le_refl _) (fun _ _ f => f)
  exact ⟨_, rfl, _, _, _, [], _, [], hW', trodAll_cons_mk (shut_bool Tryz.underlying4 _) trodAll_mk0, (trodAll_cons_mk (Below.trod laidOut (by kernel_rfl) (of_decide_eq_true (by kernel_rfl)) k0 bel lt0) (trodAll_cons_mk (Below.trod laidOut (by kernel_rfl) (of_decide_eq_true (by kernel_rfl)) k1 bel lt1) trodAll_mk0)), rfl, bel.frame _, fun h => by cases h⟩

/-- The witness's arguments. -/
def cursorPlaysArgs : Array Value := #[.slice none 0 0, .slice none 0 0]
theorem cursorPlays_reads (os : Os) {H : Type} (enc : TypeId × Value → H) : ∃ places, DataW.whole enc Tryz.prog ((World.laidAll Tryz.prog os Rows.cursorPlaysUptoRow.laid).forCall (fun _ _ => 0) ⟨#[], cursorPlaysArgs, []⟩).memory Tryz.f3.params.toList Rows.cursorPlaysSpec.vars false cursorPlaysArgs.toList 8 = some ([.nil, .nil], [], places) :=
  ⟨[], by kernel_rfl⟩
set_option maxRecDepth 100000 in
theorem cursorPlays_lifted (os : Os) (started : os.Started) (H : Type) (enc : TypeId × Value → H) (F : Stop.Interp) :
    ReturnsInHanded {} Tryz.checked os 3 .any ((Rows.OpenSpec.upto Rows.cursorPlaysSpec).preRow enc Tryz.prog Tryz.f3 Rows.cursorPlaysUptoRow.domain false Rows.cursorPlaysUptoRow.laid) (((Rows.OpenSpec.upto Rows.cursorPlaysSpec).at F).post enc Tryz.prog Tryz.f3 false true false false) := by
  obtain ⟨places, hx⟩ := cursorPlays_reads os enc
  refine returnsInHanded_of_row (C := Tryz.checked) (s := Rows.OpenSpec.upto Rows.cursorPlaysSpec) ownK started (by kernel_rfl) Tryz.func3
    (row_witness (enc := enc) (C := Tryz.checked) (World.laidAll Tryz.prog os Rows.cursorPlaysUptoRow.laid) cursorPlaysArgs (World.laidAll_os _ _ _) (World.shaped_of_ZipB (by kernel_rfl) (by kernel_rfl)) (by kernel_rfl)
      (OpenSpec.preRow_of_cond 8 hx (by kernel_rfl) (fun k hk => by cases hk; kernel_rfl) (by kernel_rfl) (by rw [MakeChecks.laidMetH_plain _ _ _ (by kernel_rfl)]; exact laidMet_laidAll _ (by kernel_rfl) (by kernel_rfl)))) ?_
  intro W base args ds gs before hval hW _ hcond _ hL _ _
  exact cursorPlays_contract H enc W base args ds gs before hval hW (hcond _ rfl) hL

theorem cursorPlays_said : Rows.CursorPlaysUptoSaid :=
  OpenClaim.holds_of_cond 3 Tryz.f3 rfl rfl rfl rfl rfl rfl rfl ⟨rfl, rfl, rfl, rfl, rfl⟩ rfl rfl rfl rfl rfl (by kernel_rfl) Tryz.func3 (by kernel_rfl)
    (of_decide_eq_true (by kernel_rfl)) (by unfold Func.isWrapper; first | (rw [if_pos (by decide +kernel)]; kernel_rfl) | (rw [if_neg (by decide +kernel)]; exact ⟨rfl, rfl⟩))
    (fun os started H enc _ F => by rw [OpenClaim.pre_eq_preRow]; exact cursorPlays_lifted os started H enc F)
theorem cursorPlays_plain (f : FuncId) (fn : Func) (hf : Tryz.pinned.checked.prog.funcNamed "concord/concordlaw09.CursorPlays" = some f) (hfn : Tryz.pinned.checked.prog.funcs[f]? = some fn) :
    false = Tryz.pinned.checked.prog.looks [] ∧ ∀ (j : Nat) t, fn.params[j]? = some t → Tryz.pinned.checked.prog.wantsStandIn t = false := by
  obtain rfl : f = 3 := Option.some.inj ((show Tryz.prog.funcNamed "concord/concordlaw09.CursorPlays" = some 3 by kernel_rfl).symm.trans hf) |>.symm
  obtain rfl : fn = Tryz.f3 := (Option.some.inj (Tryz.func3.symm.trans hfn)).symm
  refine ⟨by kernel_rfl, fun j t ht => ?_⟩
  rw [Tryz.params3] at ht
  have hm : t ∈ [22, 23] := by simpa using Array.mem_of_getElem? ht
  have hall : ([22, 23].all fun u => !Tryz.prog.wantsStandIn u) = true := by kernel_rfl
  exact (show Tryz.prog.wantsStandIn t = false by simpa using List.all_eq_true.1 hall t hm)
theorem cursorPlays_holds : Rows.CursorPlaysUptoCardSaid :=
  Claim7.holds_tied_plain_at .later [] _ _ _ _ cursorPlays_said (fun _ h => by cases h) (by kernel_rfl) (fun _ h => by cases h) cursorPlaysUpto_row_tie rfl ⟨rfl, rfl⟩ (by kernel_rfl) rfl cursorPlays_plain (by kernel_rfl)
#print axioms cursorPlays_holds
end Go.Proofs.YtjkbongfampgjaaGreatDoor
