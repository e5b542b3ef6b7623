import Derived.Test.YtopmdpfnigceeaaDoorPfx
import Derived.Test.YtopmdpfnigceeaaDoorOpn
import Derived.Test.YtopmdpfnigceeaaDoorErrs
import Derived.Test.YtopmdpfnigceeaaDoorCards
import Derived.Test.YtopmdpfnigceeaaDoorTie
import Derived.Test.YtopmdpfnigceeaaDoorFrm
namespace Go.Proofs.YtopmdpfnigceeaaDoor
open Go.ChangeShapes Go.WideShapes Go.ChangeAt Go.RowKit

set_option maxRecDepth 20000 in
set_option maxHeartbeats 1000000 in
theorem prefix_contract (H : Type) (enc : TypeId × Value → H) (W : World) (base : Nat) (args : Array Value) (ds gs : List (DataW H)) (before : List MemPlace)
    (hval : ∀ (j : Nat) t v, Tryd.f5.params[j]? = some t → args[j]? = some v → Value.okWide Tryd.prog W .any base t v)
    (hW : DataW.Whole enc Tryd.prog Tryd.f5.params.toList Rows.codecPrefixSpec.vars false W args.toList ds gs before) (hk : Rows.uptoSmall H (ds ++ gs) = true) (hL0 : laidMetH Tryd.prog Rows.codecPrefixUptoRow.laid W) :
    Calls Tryd.prog 5 args W fun e W' => ∃ v, e = .returned v ∧ Rows.codecPrefixSpec.post enc Tryd.prog Tryd.f5 false true false false W args v W' := by
  have hL : laidMet Tryd.prog Rows.codecPrefixUptoRow.laid W := hL0
  have hW' := hW
  obtain ⟨p, q, hA0, hV, rfl, _, _⟩ := hW
  have hA : DataW.TrodAll enc Tryd.prog W 0 (fun _ => true) true Tryd.f5.params.toList args.toList ds p := hA0
  rw [Tryd.params5] at hA hval
  obtain ⟨v0, vs0, d0, ds0, p0, q0, hargs, rfl, rfl, h0, r0⟩ := trodAll_cons hA
  obtain ⟨v1, vs1, d1, ds1, p1, q1, rfl, rfl, rfl, h1, r1⟩ := trodAll_cons r0
  obtain ⟨v2, vs2, d2, ds2, p2, q2, rfl, rfl, rfl, h2, r2⟩ := trodAll_cons r1
  obtain ⟨rfl, rfl, rfl⟩ := trodAll_nil r2
  obtain rfl : args = #[v0, v1, v2] := by cases args; simp_all
  obtain ⟨rfl, rfl⟩ := trodVars_none hV
  have hb := of_decide_eq_true hk
  simp only [List.append_nil, Rows.uptoBulkAll] at hb
  have k0 := h0
  have lt0 : ∀ x ∈ p0, x.block < W.heap.size := by obtain ⟨m, hm⟩ := k0; exact DataW.trod_lt m _ _ _ hm
  have k1 := h1
  have lt1 : ∀ x ∈ p1, x.block < W.heap.size := by obtain ⟨m, hm⟩ := k1; exact DataW.trod_lt m _ _ _ hm
  obtain ⟨cs, rfl, -⟩ := okWide_struct Tryd.underlying30 (hval 0 30 v0 rfl rfl)
  obtain ⟨fuel, hf⟩ := h0
  obtain ⟨kd, sec, nn, U, ii, ba, bc, B, s, la, lc, L, hcs, ho, -, -⟩ := op_of hf (by show Rows.uptoBulk d0 ≤ _; omega)
  obtain rfl : cs = #[.int .i64 kd, .bool sec, .int .i64 nn, .int .u64 U, .int .i64 ii, .slice ba B.length bc, .string s, .slice la L.length lc] := by
    have e : cs.toList = opRow kd sec nn U ii ba B.length bc s la L.length lc := hcs
    cases cs
    simp only [opRow] at e
    rw [e]
  obtain ⟨a1, len1, cap1, rfl⟩ := okWide_slice Tryd.underlying27 (hval 1 27 v1 rfl rfl)
  obtain ⟨fuel1, hf1⟩ := h1
  obtain ⟨ta, tc, T, hts, hT1, hT2, -, hT4⟩ := bytes_of hf1
  simp only [Value.cells, List.cons.injEq, Value.slice.injEq, and_true] at hts
  obtain ⟨rfl, rfl, rfl⟩ := hts
  obtain ⟨n, rfl, rfl, rfl, w2⟩ := open_int Tryd.underlying3 (hval 2 3 v2 rfl rfl) h2
  clear hA0 hval
  simp only [List.append_nil] at hW'
  obtain ⟨e0, s0⟩ := sent0 hL (by unfold Rows.codecPrefixUptoRow; repeat (first | exact List.mem_cons_self | apply List.mem_cons_of_mem))
  obtain ⟨e1, s1⟩ := sent1 hL (by unfold Rows.codecPrefixUptoRow; repeat (first | exact List.mem_cons_self | apply List.mem_cons_of_mem))
  obtain ⟨e2, s2⟩ := sent2 hL (by unfold Rows.codecPrefixUptoRow; repeat (first | exact List.mem_cons_self | apply List.mem_cons_of_mem))
  obtain ⟨e3, s3⟩ := sent3 hL (by unfold Rows.codecPrefixUptoRow; repeat (first | exact List.mem_cons_self | apply List.mem_cons_of_mem))
  obtain ⟨e7, s7⟩ := sent7 hL (by unfold Rows.codecPrefixUptoRow; repeat (first | exact List.mem_cons_self | apply List.mem_cons_of_mem))
  have hsz : 0 < W.heap.size := World.block_lt_of_cell? W _ s2.var
  have hT4' : T.length < Rows.uptoBulk d1 := hT4
  refine (prefix_walk kd sec nn ii U ba bc B s la lc L a1 cap1 T n e0 e1 e2 e3 e7 W ho hT1 hT2 (by omega) (fun hne => bytesAt_lt ho.b hne) (fun hne => intsAt_lt ho.l hne) hsz s0.var s1.var s2.var s3.var s7.var).mono fun e W' ⟨he, kept⟩ => ?_
  subst he
  have bel : Below W.heap.size W W' := kept.below (Nat.le_refl _) (fun _ _ f => f)
  exact ⟨_, rfl, _, _, _, [], _, [], hW', trodAll_cons_mk (shut_bool Tryd.underlying4 _) trodAll_mk0, (trodAll_cons_mk (Below.trod laidOut (by kernel_rfl) (of_decide_eq_true (by kernel_rfl)) k0 bel lt0) (trodAll_cons_mk (Below.trod laidOut (by kernel_rfl) (of_decide_eq_true (by kernel_rfl)) k1 bel lt1) (trodAll_cons_mk (shut_int Tryd.underlying3 w2) trodAll_mk0))), rfl, bel.frame _, fun h => by cases h⟩

/-- The witness's arguments. -/
def prefixArgs : Array Value := #[.agg #[.int .i64 0, .bool false, .int .i64 0, .int .u64 0, .int .i64 0, .slice none 0 0, .string ⟨#[]⟩, .slice none 0 0], .slice none 0 0, .int .i64 0]
theorem prefix_reads (os : Os) {H : Type} (enc : TypeId × Value → H) : ∃ places, DataW.whole enc Tryd.prog ((World.laidAll Tryd.prog os Rows.codecPrefixUptoRow.laid).forCall (fun _ _ => 0) ⟨#[], prefixArgs, []⟩).memory Tryd.f5.params.toList Rows.codecPrefixSpec.vars false prefixArgs.toList 8 = some ([.agg [.lit (.int .i64 0), .lit (.bool false), .lit (.int .i64 0), .lit (.int .u64 0), .lit (.int .i64 0), .nil, .lit (.string []), .nil], .nil, .lit (.int .i64 0)], [], places) :=
  ⟨[], by kernel_rfl⟩
set_option maxRecDepth 100000 in
theorem prefix_upto (os : Os) (started : os.Started) (H : Type) (enc : TypeId × Value → H) (F : Stop.Interp) :
    ReturnsInHanded {} Tryd.checked os 5 .any ((Rows.OpenSpec.upto Rows.codecPrefixSpec).preRow enc Tryd.prog Tryd.f5 Rows.codecPrefixUptoRow.domain false Rows.codecPrefixUptoRow.laid) (((Rows.OpenSpec.upto Rows.codecPrefixSpec).at F).post enc Tryd.prog Tryd.f5 false true false false) := by
  obtain ⟨places, hx⟩ := prefix_reads os enc
  refine returnsInHanded_of_row (C := Tryd.checked) (s := Rows.OpenSpec.upto Rows.codecPrefixSpec) ownK started (by kernel_rfl) Tryd.func5
    (row_witness (enc := enc) (C := Tryd.checked) (World.laidAll Tryd.prog os Rows.codecPrefixUptoRow.laid) prefixArgs (World.laidAll_os _ _ _) (World.shaped_of_ZipB (by kernel_rfl) (by kernel_rfl)) (by kernel_rfl)
      (OpenSpec.preRow_of_cond 8 hx (by kernel_rfl) (fun k hk => by cases hk; kernel_rfl) (by kernel_rfl) (by rw [MakeChecks.laidMetH_plain _ _ _ (by kernel_rfl)]; exact laidMet_laidAll _ (by kernel_rfl) (by kernel_rfl)))) ?_
  intro W base args ds gs before hval hW _ hcond _ hL _ _
  exact prefix_contract H enc W base args ds gs before hval hW (hcond _ rfl) hL

theorem prefix_said : Rows.CodecPrefixUptoSaid :=
  OpenClaim.holds_of_cond 5 Tryd.f5 rfl rfl rfl rfl rfl rfl rfl ⟨rfl, rfl, rfl, rfl, rfl⟩ rfl rfl rfl rfl rfl (by kernel_rfl) Tryd.func5 (by kernel_rfl)
    (of_decide_eq_true (by kernel_rfl)) (by unfold Func.isWrapper; first | (rw [if_pos (by decide +kernel)]; kernel_rfl) | (rw [if_neg (by decide +kernel)]; exact ⟨rfl, rfl⟩))
    (fun os started H enc _ F => by rw [OpenClaim.pre_eq_preRow]; exact prefix_upto os started H enc F)
theorem prefix_plain (f : FuncId) (fn : Func) (hf : Tryd.pinned.checked.prog.funcNamed "concord/concordlaw01.CodecPrefix" = some f) (hfn : Tryd.pinned.checked.prog.funcs[f]? = some fn) :
    true = Tryd.pinned.checked.prog.looks [] ∧ ∀ (j : Nat) t, fn.params[j]? = some t → Tryd.pinned.checked.prog.wantsStandIn t = false := by
  obtain rfl : f = 5 := Option.some.inj ((show Tryd.prog.funcNamed "concord/concordlaw01.CodecPrefix" = some 5 by kernel_rfl).symm.trans hf) |>.symm
  obtain rfl : fn = Tryd.f5 := (Option.some.inj (Tryd.func5.symm.trans hfn)).symm
  refine ⟨by kernel_rfl, fun j t ht => ?_⟩
  rw [Tryd.params5] at ht
  have hm : t ∈ [30, 27, 3] := by simpa using Array.mem_of_getElem? ht
  have hall : ([30, 27, 3].all fun u => !Tryd.prog.wantsStandIn u) = true := by kernel_rfl
  exact (show Tryd.prog.wantsStandIn t = false by simpa using List.all_eq_true.1 hall t hm)
theorem codecPrefix_holds : Rows.CodecPrefixUptoCardSaid :=
  Claim7.holds_tied_plain_at .later [] _ _ _ _ prefix_said (fun _ h => by cases h) (by kernel_rfl) (fun _ h => by cases h) codecPrefixUpto_row_tie rfl ⟨rfl, rfl⟩ (by kernel_rfl) rfl prefix_plain (by kernel_rfl)
#print axioms codecPrefix_holds
end Go.Proofs.YtopmdpfnigceeaaDoor
