import Derived.Test.YtkgcafomlhfonaaTki
namespace Go.Proofs.Ytkgcafomlhfonaa.Tk
open Go.ChangeShapes Go.WideShapes Go.ChangeAt Go.RowKit

/-- What Offer answers. -/
def offB (k : Int) (K : List Ht) (h : Ht) : Bool := decide ((K.length : Int) < k) || (decide (K ≠ []) && decide (Bt h (K.getLast?.getD (0, 0))))
theorem tail_perm {H d : List Ht} {w : Ht} (hne : H ≠ []) (h : H.Perm (d ++ [w])) (h0 : g H 0 = w) : H.tail.Perm d := by
  cases H with
  | nil => exact absurd rfl hne
  | cons y t =>
    have : y = w := h0
    subst this
    have h2 : (y :: t).Perm (y :: d) := h.trans List.perm_append_comm
    exact (List.perm_cons y).1 h2
set_option maxRecDepth 20000 in
set_option maxHeartbeats 8000000 in
theorem offer_any {B p : Nat} {k : Int} {v : Value} {K : List Ht} {w : World} (x : Ht) (h : Keep B w p k v K) (hlim : K.length + 1 ≤ 8796093022208) : Calls Try.prog 23 #[.pointer (some ⟨p, 0, none⟩), .agg #[.int .i64 x.1, .int .u64 x.2]] w fun e w' => e = .returned (.bool (offB k K x)) ∧ ∃ v', Keep B w' p k v' (off k.toNat K x) ∧ KStep w w' p v v' := by
  have HK := hideT h
  obtain ⟨H, h1, h2, h3⟩ := h.at'
  have hl := h3.length_eq
  obtain ⟨a, c, hv⟩ := h1.row.shape
  obtain ⟨hpl, hvl⟩ := h1.lt
  obtain ⟨n, hn⟩ : ∃ n, n = H.length := ⟨_, rfl⟩
  have hnK : K.length = n := by omega
  obtain ⟨V, hV⟩ : ∃ V, V = w.alloc (.cells #[.int .i64 x.1, .int .u64 x.2] 29) := ⟨_, rfl⟩
  have kV : Kept (fun _ => False) w V := by rw [hV]; exact Kept.alloc _ _
  have LN := hideT (fun W (hW : Kept (fun _ => False) w W) => len_any p _ v a H.length c k W hv ((h1.same hW).box))
  rw [← hn] at LN
  have HKV := hideT (h1.same kV)
  have HkV := hideT kV
  have HP := hideT h2
  have HPM := hideT h3
  have HN := hideT hn
  have HNK := hideT hnK
  have HCK := hideT (h1.same kV).cells.1
  have bV : V.heap[w.heap.size]? = some (.cells #[.int .i64 x.1, .int .u64 x.2] 29 (0, 0)) := by rw [hV]; exact heap_alloc_new w _
  obtain ⟨b3, hb3⟩ : ∃ b3, b3 = w.heap.size := ⟨_, rfl⟩
  rw [← hb3] at bV
  have HX := hideT (And.intro ((cell_of_row _ _ _ _ _ _ bV : V.cell? ⟨b3, 0, none⟩ = _).trans rfl : V.cell? ⟨b3, 0, none⟩ = some (.int .i64 x.1)) ((cell_of_row _ _ _ _ _ _ bV : V.cell? ⟨b3, 1, none⟩ = _).trans rfl : V.cell? ⟨b3, 1, none⟩ = some (.int .u64 x.2)))
  have HB3 := hideT (show b3 ≠ p ∧ ∀ i, v.ownBlock = some i → i ≠ b3 from ⟨by omega, fun i hi => by have := (hvl i hi).2; omega⟩)
  have hVn : b3 = w.heap.size := hb3
  have HB0 := hideT (show ∀ W, Kept (fun _ => False) V W → B ≤ W.heap.size from fun W hW => by have := h.old; have := kV.size; have := hW.size; omega)
  rw [hnK] at hlim
  have PT := hideT (fun W (hW : Kept (fun _ => False) V W) => put_any B p k v H x W (h1.same (kV.trans hW (fun _ f => f.elim))) h2 (HB0.out W hW) (by omega))
  have WT := hideT (fun W (hW : Kept (fun _ => False) V W) => worst_any (h.same (kV.trans hW (fun _ f => f.elim))) (by omega))
  obtain ⟨wl, hwl⟩ : ∃ wl, wl = K.getLast?.getD (0, 0) := ⟨_, rfl⟩
  have HWL := hideT hwl
  rw [← hwl] at WT
  obtain ⟨eb, heb⟩ : ∃ eb, eb = decide (K ≠ []) := ⟨_, rfl⟩
  have HEB := hideT heb
  rw [← heb] at WT
  have RT := hideT (fun (hne : K ≠ []) W (hW : Kept (fun _ => False) V W) => replaceTop_any B p k v H x W (h1.same (kV.trans hW (fun _ f => f.elim))) h2 (by rw [hl]; exact List.length_pos_iff.2 hne) (by omega))
  have BT := hideT (fun W => better_any x wl W)
  obtain ⟨ob, hob⟩ : ∃ ob, ob = offB k K x := ⟨_, rfl⟩
  have HOB := hideT hob
  rw [← hob]
  have hVI := hV
  clear h1 h2 h3 hl hn hnK kV h bV hvl hpl hv hwl heb hob hb3 hVI
  go_enter Try.func23, Try.ntmps23
  go_upto_region 1 with fail
  rw [← hV, ← hVn]
  clear hV hVn
  have S0 : Kept (fun _ => False) V V.drew := Kept.drew V
  refine wp_region_held (S := fun W' => Kept (fun _ => False) V W') (by kernel_rfl) ?_
  change wpAnyH _ _ _ _ _ _ _ _ (World.drew _)
  refine wpAnyH_take (i := 0) (v := .pointer (some ⟨p, 0, none⟩)) rfl (by kernel_rfl) (by kernel_rfl) (by kernel_rfl) (fun _ _ _ h => h) (Or.inl ⟨by kernel_rfl, fun W' hW => ?_⟩) S0 ?_
  · go_simp
  refine wpAnyH_take (i := 2) (v := .pointer (some ⟨p, 0, none⟩)) rfl (by kernel_rfl) (by kernel_rfl) (by kernel_rfl) (fun _ _ _ h => h) (Or.inl ⟨by kernel_rfl, fun W' hW => ?_⟩) S0 ?_
  · go_simp
  refine wpAnyH_take (i := 3) (v := .pointer (some ⟨p, 0, none⟩)) rfl (by kernel_rfl) (by kernel_rfl) (by kernel_rfl) (fun _ _ _ h => h) (Or.inl ⟨by kernel_rfl, fun W' hW => ?_⟩) S0 ?_
  · go_simp
  refine wpAnyH_take (i := 4) (v := .pointer (some ⟨p, 0, none⟩)) rfl (by kernel_rfl) (by kernel_rfl) (by kernel_rfl) (fun _ _ _ h => h) (Or.inl ⟨by kernel_rfl, fun W' hW => ?_⟩) S0 ?_
  · go_simp
  refine wpAnyH_take (i := 5) (v := .int .i64 k) rfl (by kernel_rfl) (by kernel_rfl) (by kernel_rfl) (fun _ _ _ h => h) (Or.inl ⟨by kernel_rfl, fun W' hW => ?_⟩) S0 ?_
  · have e := hW.cell HCK.out (fun f => f)
    go_simp
  refine wpAnyH_all (rs := [1]) (by kernel_rfl) (by simp) ?_
  intro i hi
  obtain rfl : i = 1 := by simpa using hi
  have E1 := hideT (LN.out _ (HkV.out.trans S0 (fun _ f => f.elim)))
  unfold wpOp
  go_simp
  first | refine E1.out.mono ?_ | refine Or.inl (E1.out.mono ?_)
  rintro e W1 ⟨rfl, rfl⟩
  first | (change wpAnyH _ _ _ _ _ _ _ _ _) | refine ⟨S0, ?_⟩ | refine Or.inl ⟨S0, ?_⟩
  refine wpAnyH_all (rs := [6]) (by kernel_rfl) (by simp) ?_
  intro i hi
  obtain rfl : i = 6 := by simpa using hi
  unfold wpOp
  go_simp
  first | (change wpAnyH _ _ _ _ _ _ _ _ _) | (refine Or.inl ?_; change wpAnyH _ _ _ _ _ _ _ _ _) | refine Or.inl ⟨S0, ?_⟩ | refine ⟨S0, ?_⟩
  refine wpAnyH_done (by kernel_rfl) ?_ _
  have K1 := hideT S0
  obtain ⟨V1, hV1⟩ : ∃ V1, V1 = V.drew := ⟨_, rfl⟩
  change Exit.then _ _ _ _ (V.drew)
  rw [← hV1] at K1 ⊢
  clear hV1 S0
  by_cases hlt : (n : Int) < k
  · go_upto_region 2 with fail
    have hoff := hideT (show off k.toNat K x = ins x K from off_less x (by have := HNK.out; omega))
    have DX := hideT (And.intro (K1.out.cell HX.out.1 (fun f => f)) (K1.out.cell HX.out.2 (fun f => f)))
    have S0 : Kept (fun i => i = p ∨ v.ownBlock = some i) V1 (World.drew V1) := (Kept.drew _).mono (fun _ f => f.elim)
    refine wp_region_held (S := fun W' => Kept (fun i => i = p ∨ v.ownBlock = some i) V1 W') (by kernel_rfl) ?_
    change wpAnyH _ _ _ _ _ _ _ _ (World.drew _)
    refine wpAnyH_take (i := 0) (v := .pointer (some ⟨p, 0, none⟩)) rfl (by kernel_rfl) (by kernel_rfl) (by kernel_rfl) (fun _ _ _ h => h) (Or.inl ⟨by kernel_rfl, fun W' hW => ?_⟩) S0 ?_
    · go_simp
    refine wpAnyH_take (i := 1) (v := .pointer (some ⟨p, 0, none⟩)) rfl (by kernel_rfl) (by kernel_rfl) (by kernel_rfl) (fun _ _ _ h => h) (Or.inl ⟨by kernel_rfl, fun W' hW => ?_⟩) S0 ?_
    · go_simp
    refine wpAnyH_take (i := 2) (v := .pointer (some ⟨p, 1, none⟩)) rfl (by kernel_rfl) (by kernel_rfl) (by kernel_rfl) (fun _ _ _ h => h) (Or.inl ⟨by kernel_rfl, fun W' hW => ?_⟩) S0 ?_
    · go_simp
    refine wpAnyH_take (i := 3) (v := .agg #[.int .i64 x.1, .int .u64 x.2]) rfl (by kernel_rfl) (by kernel_rfl) (by kernel_rfl) (fun _ _ _ h => h) (Or.inl ⟨by kernel_rfl, fun W' hW => ?_⟩) S0 ?_
    · exact load_hit (x := .tmp 3) (b := b3) (off := 0) (y := x) rfl (by go_simp) (hW.cell DX.out.1 (by rintro (e | e); exact HB3.out.1 e; exact HB3.out.2 _ e rfl)) (hW.cell DX.out.2 (by rintro (e | e); exact HB3.out.1 e; exact HB3.out.2 _ e rfl))
    refine wpAnyH_all (rs := [4]) (by kernel_rfl) (by simp) ?_
    intro i hi
    obtain rfl : i = 4 := by simpa using hi
    have E4 := hideT (PT.out _ (K1.out.trans (Kept.drew V1) (fun _ f => f.elim)))
    unfold wpOp
    go_simp
    first | refine E4.out.mono ?_ | refine Or.inl (E4.out.mono ?_)
    rintro e W2 ⟨v', H', rfl, a1, a2, a3, a4⟩
    have S2 : Kept (fun i => i = p ∨ v.ownBlock = some i) V1 W2 := ((Kept.drew V1).mono (fun _ f => f.elim)).trans a2.kept (fun i e => .inl e)
    first | (change wpAnyH _ _ _ _ _ _ _ _ _) | refine ⟨S2, ?_⟩ | refine Or.inl ⟨S2, ?_⟩
    refine wpAnyH_done (by kernel_rfl) ?_ _
    have A2 := hideT (KStep.ahead (HkV.out.trans (K1.out.trans (Kept.drew V1) (fun _ f => f.elim)) (fun _ f => f.elim)) a2)
    have KP := hideT (show Keep B W2 p k v' (off k.toNat K x) from ⟨⟨H', a1, a3, by rw [hoff.out]; exact (a4.trans (HPM.out.cons x)).trans (ins_perm x K).symm⟩, by rw [hoff.out]; exact ins_srt x K HK.out.srt, by unfold off; rw [List.length_take]; exact Nat.min_le_left _ _, Nat.le_trans HK.out.old A2.out.kept.size, fun e => by rw [hoff.out] at e; have := ins_len x K; rw [e] at this; simp at this⟩)
    clear a1 a2 a3 a4 S0 S2
    go_wp2
    go_ret
    refine ⟨?_, v', KP.out, A2.out⟩
    rw [HOB.out]
    unfold offB
    rw [HNK.out]
    simp [hlt]
  · go_upto_region 5 with (go_at_call 27; refine (WT.out _ K1.out).mono ?_; rintro e W2 ⟨rfl, h5⟩)
    have K2' := K1.out.trans h5 (fun _ f => f.elim)
    have ka := Kept.alloc W2 (.cells #[.int .i64 wl.1, .int .u64 wl.2] 29)
    have cw := heap_alloc_new W2 (.cells #[.int .i64 wl.1, .int .u64 wl.2] 29)
    obtain ⟨V2, hV2⟩ : ∃ V2, V2 = W2.alloc (.cells #[.int .i64 wl.1, .int .u64 wl.2] 29) := ⟨_, rfl⟩
    obtain ⟨b5, hb5⟩ : ∃ b5, b5 = W2.heap.size := ⟨_, rfl⟩
    rw [← hV2] at ka cw
    rw [← hb5] at cw
    have K2 := hideT (K2'.trans ka (fun _ f => f.elim))
    have x0 := K2.out.cell HX.out.1 (fun f => f)
    have x1 := K2.out.cell HX.out.2 (fun f => f)
    have z0 : V2.cell? ⟨b5, 0, none⟩ = some (.int .i64 wl.1) := (cell_of_row _ _ _ _ _ _ cw).trans rfl
    have z1 : V2.cell? ⟨b5, 1, none⟩ = some (.int .u64 wl.2) := (cell_of_row _ _ _ _ _ _ cw).trans rfl
    rw [← hV2, ← hb5]
    clear hV2 hb5 K2' ka cw h5
    cases eb with
    | false =>
      have hK : K = [] := by have := HEB.out; simpa using this
      have hn0 : n = 0 := by have := HNK.out; rw [hK] at this; simpa using this.symm
      have hk0 : k.toNat = 0 := by omega
      have HFIN := hideT (show ob = false ∧ off k.toNat K x = K from ⟨by rw [HOB.out]; unfold offB; rw [hK]; simp; omega, by rw [hk0, hK, off_zero]⟩)
      clear hK hn0 hk0
      go_wp2
      go_ret
      refine ⟨by rw [HFIN.out.1]; rfl, v, ?_, KStep.ahead (HkV.out.trans K2.out (fun _ f => f.elim)) (KStep.refl _ p v)⟩
      rw [HFIN.out.2]
      exact HK.out.same (HkV.out.trans K2.out (fun _ f => f.elim))
    | true =>
      have hK : K ≠ [] := by have := HEB.out; simpa using this
      have HKn := hideT hK
      have hn1 : 0 < n := by rw [← HNK.out]; exact List.length_pos_iff.2 hK
      have hkn : k.toNat = n := by have := HK.out.len; rw [HNK.out] at this; omega
      obtain ⟨d, hd⟩ : ∃ d, K = d ++ [wl] := ⟨K.dropLast, by rw [HWL.out]; rw [List.getLast?_eq_some_getLast hK]; exact (List.dropLast_concat_getLast hK).symm⟩
      have hgl : K.getLast? = some wl := by rw [hd, List.getLast?_concat]
      by_cases hb : Bt x wl
      · have HFIN := hideT (show ob = true ∧ off k.toNat K x = ins x d from ⟨by rw [HOB.out]; unfold offB; rw [← HWL.out]; simp [hK, hb], by rw [hd]; exact off_in (by rw [hkn, ← HNK.out, hd]; simp) hb⟩)
        have HH0 := hideT (show H.tail.Perm d from tail_perm (by intro e; have := HN.out; rw [e] at this; simp at this; omega) (hd ▸ HPM.out) (by have := top_last HP.out HPM.out HK.out.srt hK; rw [hgl] at this; exact (Option.some.inj this).symm))
        have BT1 := BT.out
        rw [decide_eq_true hb] at BT1
        have BT2 := hideT BT1
        clear BT BT1 hK hn1 hkn hd hgl hb
        go_upto_region 7 with (go_at_call 19; refine (BT2.out _).mono ?_; rintro e W3 ⟨rfl, h6⟩)
        have K3 := hideT (K2.out.trans (gw_kept h6) (fun _ f => f.elim))
        have DX := hideT (And.intro (K3.out.cell HX.out.1 (fun f => f)) (K3.out.cell HX.out.2 (fun f => f)))
        clear h6
        have S0 : Kept (fun i => i = p ∨ v.ownBlock = some i) W3 (World.drew W3) := (Kept.drew _).mono (fun _ f => f.elim)
        refine wp_region_held (S := fun W' => Kept (fun i => i = p ∨ v.ownBlock = some i) W3 W') (by kernel_rfl) ?_
        change wpAnyH _ _ _ _ _ _ _ _ (World.drew _)
        refine wpAnyH_take (i := 0) (v := .pointer (some ⟨p, 0, none⟩)) rfl (by kernel_rfl) (by kernel_rfl) (by kernel_rfl) (fun _ _ _ h => h) (Or.inl ⟨by kernel_rfl, fun W' hW => ?_⟩) S0 ?_
        · go_simp
        refine wpAnyH_take (i := 1) (v := .pointer (some ⟨p, 0, none⟩)) rfl (by kernel_rfl) (by kernel_rfl) (by kernel_rfl) (fun _ _ _ h => h) (Or.inl ⟨by kernel_rfl, fun W' hW => ?_⟩) S0 ?_
        · go_simp
        refine wpAnyH_take (i := 2) (v := .pointer (some ⟨p, 1, none⟩)) rfl (by kernel_rfl) (by kernel_rfl) (by kernel_rfl) (fun _ _ _ h => h) (Or.inl ⟨by kernel_rfl, fun W' hW => ?_⟩) S0 ?_
        · go_simp
        refine wpAnyH_take (i := 3) (v := .agg #[.int .i64 x.1, .int .u64 x.2]) rfl (by kernel_rfl) (by kernel_rfl) (by kernel_rfl) (fun _ _ _ h => h) (Or.inl ⟨by kernel_rfl, fun W' hW => ?_⟩) S0 ?_
        · exact load_hit (x := .tmp 3) (b := b3) (off := 0) (y := x) rfl (by go_simp) (hW.cell DX.out.1 (by rintro (e | e); exact HB3.out.1 e; exact HB3.out.2 _ e rfl)) (hW.cell DX.out.2 (by rintro (e | e); exact HB3.out.1 e; exact HB3.out.2 _ e rfl))
        refine wpAnyH_all (rs := [4]) (by kernel_rfl) (by simp) ?_
        intro i hi
        obtain rfl : i = 4 := by simpa using hi
        have E4 := hideT (RT.out HKn.out _ (K3.out.trans (Kept.drew W3) (fun _ f => f.elim)))
        unfold wpOp
        go_simp
        first | refine E4.out.mono ?_ | refine Or.inl (E4.out.mono ?_)
        rintro e W4 ⟨rfl, H', a1, a2, a3, a4⟩
        have S2 : Kept (fun i => i = p ∨ v.ownBlock = some i) W3 W4 := ((Kept.drew W3).mono (fun _ f => f.elim)).trans a2 (fun i e => .inl (.inr e))
        first | (change wpAnyH _ _ _ _ _ _ _ _ _) | refine ⟨S2, ?_⟩ | refine Or.inl ⟨S2, ?_⟩
        refine wpAnyH_done (by kernel_rfl) ?_ _
        have A2 := hideT (KStep.ahead (HkV.out.trans (K3.out.trans (Kept.drew W3) (fun _ f => f.elim)) (fun _ f => f.elim)) (⟨a2.mono (fun i e => .inl (.inr e)), fun _ h => .inl h⟩ : KStep _ W4 p v v))
        have KP := hideT (show Keep B W4 p k v (off k.toNat K x) from ⟨⟨H', a1, a3, by rw [HFIN.out.2]; exact (a4.trans (HH0.out.cons x)).trans (ins_perm x d).symm⟩, by unfold off; exact List.Pairwise.sublist (List.take_sublist _ _) (ins_srt x K HK.out.srt), by unfold off; rw [List.length_take]; exact Nat.min_le_left _ _, Nat.le_trans HK.out.old A2.out.kept.size, fun e => by rw [HFIN.out.2] at e; have := ins_len x d; rw [e] at this; simp at this⟩)
        clear a1 a2 a3 a4 S0 S2
        go_wp2
        go_ret
        exact ⟨by rw [HFIN.out.1]; rfl, v, KP.out, A2.out⟩
      · have HFIN := hideT (show ob = false ∧ off k.toNat K x = K from ⟨by rw [HOB.out]; unfold offB; rw [← HWL.out, HNK.out]; simp [hb]; omega, off_not HK.out.srt (by rw [HNK.out, hkn]) hgl hb⟩)
        have BT1 := BT.out
        rw [decide_eq_false hb] at BT1
        have BT2 := hideT BT1
        clear BT BT1 hK hn1 hkn hd hgl hb
        go_wp2_with (go_at_call 19; refine (BT2.out _).mono ?_; rintro e W3 ⟨rfl, h6⟩)
        have K3 := hideT (K2.out.trans (gw_kept h6) (fun _ f => f.elim))
        clear h6
        go_wp2
        go_ret
        refine ⟨by rw [HFIN.out.1]; rfl, v, ?_, KStep.ahead (HkV.out.trans K3.out (fun _ f => f.elim)) (KStep.refl _ p v)⟩
        rw [HFIN.out.2]
        exact HK.out.same (HkV.out.trans K3.out (fun _ f => f.elim))
end Go.Proofs.Ytkgcafomlhfonaa.Tk
