import Derived.Test.YtkgcafomlhfonaaTkq
import Derived.Deep.DeepCutAuto
namespace Go.Proofs.Ytkgcafomlhfonaa.Tk
open Go.ChangeShapes Go.WideShapes Go.ChangeAt Go.RowKit

theorem rot_best (T k : Nat) (l : List Ht) (hT : l ≠ [] → T < l.length) : best k (rot T l l.length) = best k l := by
  by_cases h : l = []
  · rw [h]; rfl
  · exact best_congr k (rot_perm T l (hT h))
set_option maxRecDepth 20000 in
set_option maxHeartbeats 8000000 in
theorem best_walk (l : List Ht) (a : Option Addr) (c : Nat) (turn k : Int) (w : World) (ha : HsAt w a l) (hlim : l.length ≤ 8796093022207) : Calls Try.prog 5 #[.slice a l.length c, .int .i64 turn, .int .i64 k] w fun e w' => e = .returned (.bool true) ∧ Kept (fun _ => False) w w' := by
  have HA := hideT ha
  obtain ⟨n, hn⟩ : ∃ n, n = l.length := ⟨_, rfl⟩
  have HN := hideT hn
  rw [← hn] at hlim ⊢
  have FX := hideT (fixed_any w)
  obtain ⟨T, hT⟩ : ∃ T, T = (turn % 18446744073709551616).toNat % n := ⟨_, rfl⟩
  have HTT := hideT hT
  clear ha hn hT
  go_enter Try.func5, Try.ntmps5
  go_upto_region 3 with (go_at_call 9; refine FX.out.mono ?_; rintro e W1 ⟨rfl, q1⟩)
  have NA := hideT (new_any k W1)
  obtain ⟨pa, hpa⟩ : ∃ p, p = W1.heap.size := ⟨_, rfl⟩
  have HPA := hideT hpa
  rw [← hpa] at NA
  have NB := hideT (fun W2 => new_any k W2)
  have Q1 := hideT q1
  clear hpa q1
  go_upto_region 4 with (go_at_call 10; first
    | (refine (NB.out W2).mono ?_; rintro e W3 ⟨rfl, n2, m2⟩)
    | (refine NA.out.mono ?_; rintro e W2 ⟨rfl, n1, m1⟩))
  obtain ⟨pb, hpb⟩ : ∃ p, p = W2.heap.size := ⟨_, rfl⟩
  rw [← hpb] at n2 ⊢
  have HT0 := hideT (two_start Q1.out HPA.out n1 m1 hpb n2 m2)
  clear n1 m1 n2 m2 hpb
  go_wp2
  go_loopw [38] (fun s38 wr => ∃ (i : Nat) (va vb : Value), i ≤ n ∧ s38 = .int .i64 i ∧ Hid (Two w wr pa pb k k va vb (best k.toNat (l.take i)) (best k.toNat (rot T l i)))) (fun s38 _ => n - (intOf s38).toNat)
  case atStart => exact ⟨0, .slice none 0 0, .slice none 0 0, by omega, by go_num, hideT (by simp only [List.take_zero, rot, List.range_zero, List.map_nil, best_nil]; exact HT0.out)⟩
  case round =>
    obtain ⟨i, va, vb, hi, rfl, HT⟩ := hrel
    by_cases hlt : i < n
    · have hil : i < l.length := by rw [← HN.out]; exact hlt
      have hii : (i : Int) < (n : Int) := by omega
      have hn0 : 0 < n := by omega
      obtain ⟨x, hx⟩ : ∃ x, x = l[i] := ⟨_, rfl⟩
      have HX := hideT (show l.take (i + 1) = l.take i ++ [x] by rw [hx]; exact List.take_succ_eq_append_getElem hil)
      have hTn : T < n := by rw [HTT.out]; exact Nat.mod_lt _ hn0
      have hbl : bidx T n i < n := by unfold bidx; split <;> omega
      obtain ⟨j, hj⟩ : ∃ j, j = bidx T n i := ⟨_, rfl⟩
      have HJ := hideT hj
      rw [← hj] at hbl
      have hjl : j < l.length := by rw [← HN.out]; exact hbl
      obtain ⟨y, hy⟩ : ∃ y, y = l[j] := ⟨_, rfl⟩
      have HY := hideT (show rot T l (i + 1) = rot T l i ++ [y] by rw [rot_succ, ← HN.out, ← hj, g_eq hjl, hy])
      obtain ⟨gb, go, rfl, hc⟩ := HA.out (by intro e; rw [e] at hil; simp at hil)
      obtain ⟨x0, x1⟩ := hc i hil
      obtain ⟨y0, y1⟩ := hc j hjl
      rw [← hx] at x0 x1
      rw [← hy] at y0 y1
      have HYC := hideT (And.intro y0 y1)
      have x0 := HT.out.old.cell x0 (fun f => f)
      have x1 := HT.out.old.cell x1 (fun f => f)
      have OA := hideT (offer_any x HT.out.a (by have h1 := best_le k.toNat (l.take i); rw [List.length_take] at h1; omega))
      clear hx hj hy hc y0 y1
      go_upto_region 11 with (go_at_call 23; refine OA.out.mono ?_; rintro e W5 ⟨rfl, va2, k5, s5⟩)
      have HT2 := hideT (show Two w W5 pa pb k k va2 vb (best k.toNat (l.take (i + 1))) (best k.toNat (rot T l i)) from HT.out.stepA (by rw [HX.out, best_snoc]; exact k5) s5)
      have y0 := HT2.out.old.cell HYC.out.1 (fun f => f)
      have y1 := HT2.out.old.cell HYC.out.2 (fun f => f)
      have OB := hideT (offer_any y HT2.out.b (by have h1 := best_le k.toNat (rot T l i); rw [rot_len] at h1; omega))
      clear k5 s5
      have eT : (IntKind.u64.wrap turn).tmod (n : Int) = (T : Int) := by
        have hb : 0 ≤ turn % 18446744073709551616 := Int.emod_nonneg _ (by decide)
        rw [IntKind.wrap_u64, Int.tmod_eq_emod_of_nonneg hb, HTT.out]
        obtain ⟨z, hz⟩ : ∃ z : Nat, turn % 18446744073709551616 = z := ⟨(turn % 18446744073709551616).toNat, by omega⟩
        rw [hz, Int.toNat_natCast]
        rfl
      have HOB := hideT (show ∀ (W' : World) (v' : Value), Keep pb W' pb k v' (off k.toNat (best k.toNat (rot T l i)) y) → KStep W5 W' pb vb v' → Two w W' pa pb k k va2 v' (best k.toNat (l.take (i + 1))) (best k.toNat (rot T l (i + 1))) from fun W' v' k' s' => HT2.out.stepB (by rw [HY.out, best_snoc]; exact k') s')
      have hjn : (j : Int) < (n : Int) := by omega
      by_cases hiT : i ≤ T
      · have ej : (T : Int) - (i : Int) = (j : Int) := by have := HJ.out; unfold bidx at this; rw [if_pos hiT] at this; omega
        go_upto_region 15 with (go_at_call 23; refine OB.out.mono ?_; rintro e W6 ⟨rfl, vb2, k6, s6⟩)
        have HT3 := hideT (HOB.out _ _ k6 s6)
        clear k6 s6
        go_wp2
        go_round
        case rel => exact ⟨i + 1, va2, vb2, by omega, by go_num, HT3⟩
        case measure => simp [intOf]; omega
      · have hneg : (T : Int) - (i : Int) < 0 := by omega
        have ej : (T : Int) - (i : Int) + (n : Int) = (j : Int) := by have := HJ.out; unfold bidx at this; rw [if_neg hiT] at this; omega
        go_upto_region 15 with (go_at_call 23; refine OB.out.mono ?_; rintro e W6 ⟨rfl, vb2, k6, s6⟩)
        have HT3 := hideT (HOB.out _ _ k6 s6)
        clear k6 s6
        go_wp2
        go_round
        case rel => exact ⟨i + 1, va2, vb2, by omega, by go_num, HT3⟩
        case measure => simp [intOf]; omega
    · obtain rfl : i = n := by omega
      obtain ⟨K, hK⟩ : ∃ K, K = best k.toNat l := ⟨_, rfl⟩
      have HKK := hideT hK
      have HTW : Hid (Two w wr pa pb k k va vb K K) := hideT (by
        have h1 := HT.out
        rw [show l.take i = l from List.take_of_length_le (by rw [HN.out]; exact Nat.le_refl _)] at h1
        rw [show rot T l i = rot T l l.length by rw [← HN.out], rot_best T k.toNat l (fun hne => by rw [← HN.out, HTT.out]; exact Nat.mod_lt _ (by have := List.length_pos_iff.2 hne; rw [HN.out]; exact this)), ← hK] at h1
        exact h1)
      have hKl : K.length = min k.toNat i := by rw [hK, best_len, HN.out]
      obtain ⟨m, hm⟩ : ∃ m, m = K.length := ⟨_, rfl⟩
      have HM := hideT hm
      have hmi : m ≤ i := by omega
      have hwant : max 0 (min k (i : Int)) = (m : Int) := by rw [want_val, hm, hKl]
      have HA2 := hideT (hits_any HTW.out.a (by omega))
      rw [← hm] at HA2
      clear hK hKl hm
      go_upto_region 18 with (go_at_call 13; refine HA2.out.mono ?_; rintro e W5 ⟨a', c', rfl, r5, k5⟩)
      have HR := hideT r5
      have K5 := hideT (HTW.out.old.trans k5 (fun _ f => f.elim))
      have K5' := hideT k5
      have HM' := HM.out
      have SO := hideT (fun W (hW : Kept (fun _ => False) W5 W) => sorted_any K a' c' W (HR.out.hs.same hW) (by rw [HKK.out]; exact best_srt _ _) (by omega))
      have HB := hideT (fun W (hW : Kept (fun _ => False) W5 W) => hits_any (HTW.out.b.same (K5'.out.trans hW (fun _ f => f.elim))) (by omega))
      have EQ := hideT (fun W b d (hW : Kept (fun _ => False) W5 W) (hb : HsAt W b K) => equal_same K a' b c' d W (HR.out.hs.same hW) hb (by omega))
      have SE := hideT (fun W (hW : Kept (fun _ => False) W5 W) => select_any l a c k W (HA.out.same (K5.out.trans hW (fun _ f => f.elim))) (by have := HN.out; omega))
      rw [← HM.out] at SO HB EQ
      unfold Ans at SE
      rw [← HKK.out, ← HN.out, ← HM.out] at SE
      clear r5 k5 HM'
      go_upto_region 20 with (first
        | (go_at_call 24; refine (SO.out _ (Kept.refl _ _)).mono ?_; rintro e W6 ⟨rfl, k6⟩)
        | (go_at_call 13; refine (HB.out _ k6).mono ?_; rintro e W7 ⟨b7, d7, rfl, r7, k7⟩)
        | (go_at_call 15; refine (SE.out W8 (k6.trans (k7.trans k8 (fun _ f => f.elim)) (fun _ f => f.elim))).mono ?_; rintro e W9 ⟨a9, c9, rfl, r9, k9⟩)
        | (go_at_call 12; refine (EQ.out W9 a9 c9 (k6.trans (k7.trans (k8.trans k9 (fun _ f => f.elim)) (fun _ f => f.elim)) (fun _ f => f.elim)) (by have := r9.hs; exact this)).mono ?_; rintro e W10 ⟨rfl, k10⟩)
        | (go_at_call 12; refine (EQ.out W7 b7 d7 (k6.trans k7 (fun _ f => f.elim)) (by have := r7.hs; exact this)).mono ?_; rintro e W8 ⟨rfl, k8⟩))
      have K10' := k6.trans (k7.trans (k8.trans (k9.trans k10 (fun _ f => f.elim)) (fun _ f => f.elim)) (fun _ f => f.elim)) (fun _ f => f.elim)
      have K10 := hideT K10'
      have HKW := hideT (K5.out.trans K10' (fun _ f => f.elim))
      clear k6 r7 k7 k8 r9 k9 k10 K10' SO HB EQ SE
      by_cases h0 : m = 0
      · have h0' : (m : Int) = 0 := by omega
        go_wp2
        go_ret
        exact ⟨rfl, HKW.out⟩
      · obtain ⟨m1, rfl⟩ : ∃ m1, m = m1 + 1 := ⟨m - 1, by omega⟩
        have hKm : m1 < K.length := by have := HM.out; omega
        have HRK := hideT (HR.out.hs.same K10.out)
        obtain ⟨ga, oa, rfl, hck⟩ := HRK.out (by intro e; rw [e] at hKm; simp at hKm)
        have HCK := hideT hck
        obtain ⟨y, hy⟩ : ∃ y, y = K[m1] := ⟨_, rfl⟩
        obtain ⟨y0, y1⟩ := hck m1 hKm
        rw [← hy] at y0 y1
        have HY := hideT (And.intro y0 y1)
        have HYM := hideT (show y ∈ K by rw [hy]; exact List.getElem_mem hKm)
        have HYL := hideT (show K.getLast?.getD (0, 0) = y by
          have : K.getLast? = some K[m1] := by
            rw [List.getLast?_eq_getElem?, List.getElem?_eq_getElem (by have := HM.out; omega)]
            congr 2
            have := HM.out; omega
          rw [this, hy]; rfl)
        have WO := hideT (fun W (hW : Kept (fun _ => False) W10 W) => worst_any (HTW.out.a.same (K5'.out.trans (K10.out.trans hW (fun _ f => f.elim)) (fun _ f => f.elim))) (by have := HM.out; omega))
        have HKN := hideT (show K ≠ [] by intro e; rw [e] at hKm; simp at hKm)
        rw [HYL.out, decide_eq_true HKN.out] at WO
        clear hck y0 y1 hy hKm
        go_wp2
        go_loopw [101] (fun s101 w2 => ∃ j : Nat, j ≤ i ∧ s101 = .int .i64 j ∧ Hid (Kept (fun _ => False) W10 w2)) (fun s101 _ => i - (intOf s101).toNat)
        case atStart => exact ⟨0, by omega, by go_num, hideT (Kept.refl _ _)⟩
        case round =>
          obtain ⟨j, hj, rfl, HW⟩ := hrel
          by_cases hlt : j < i
          · have hjl : j < l.length := by rw [← HN.out]; exact hlt
            have hji : (j : Int) < (i : Int) := by omega
            obtain ⟨gb, go, rfl, hc⟩ := HA.out (by intro e; rw [e] at hjl; simp at hjl)
            obtain ⟨x0, x1⟩ := hc j hjl
            obtain ⟨x, hx⟩ : ∃ x, x = l[j] := ⟨_, rfl⟩
            rw [← hx] at x0 x1
            have KW := hideT (HKW.out.trans HW.out (fun _ f => f.elim))
            have x0 := KW.out.cell x0 (fun f => f)
            have x1 := KW.out.cell x1 (fun f => f)
            obtain ⟨b15, hb15⟩ : ∃ b, b = wr.heap.size := ⟨_, rfl⟩
            obtain ⟨V, hV⟩ : ∃ V, V = wr.alloc (.cells #[.int .i64 x.1, .int .u64 x.2] 29) := ⟨_, rfl⟩
            have kV : Kept (fun _ => False) wr V := by rw [hV]; exact Kept.alloc _ _
            have bV : V.heap[b15]? = some (.cells #[.int .i64 x.1, .int .u64 x.2] 29 (0, 0)) := by rw [hV, hb15]; exact heap_alloc_new wr _
            have HX := hideT (And.intro ((cell_of_row _ _ _ _ _ _ bV : V.cell? ⟨b15, 0, none⟩ = _).trans rfl : V.cell? ⟨b15, 0, none⟩ = some (.int .i64 x.1)) ((cell_of_row _ _ _ _ _ _ bV : V.cell? ⟨b15, 1, none⟩ = _).trans rfl : V.cell? ⟨b15, 1, none⟩ = some (.int .u64 x.2)))
            have HKV := hideT kV
            have C1 := hideT (fun W (hW : Gw V W) => count_any K x (some ⟨ga, oa, none⟩) c' W (HRK.out.same (HW.out.trans (kV.trans (gw_kept hW) (fun _ f => f.elim)) (fun _ f => f.elim))) (by have := HM.out; omega))
            have C2 := hideT (fun W (hW : Gw V W) => count_any l x (some ⟨gb, go, none⟩) c W (HA.out.same (KW.out.trans (kV.trans (gw_kept hW) (fun _ f => f.elim)) (fun _ f => f.elim))) (by have := HN.out; omega))
            rw [← HM.out] at C1
            rw [← HN.out] at C2
            have hpq0 := best_cnt k.toNat x l
            have hout := best_out k.toNat x l
            rw [← HKK.out] at hpq0 hout
            have hql := cnt_le x l
            rw [← HN.out] at hql
            obtain ⟨p, hp⟩ : ∃ p, p = cnt x K := ⟨_, rfl⟩
            obtain ⟨q, hq⟩ : ∃ q, q = cnt x l := ⟨_, rfl⟩
            rw [← hp] at C1 hpq0 hout
            rw [← hq] at C2 hpq0 hout hql
            have HOUT := hideT hout
            clear hp hq hc hx kV bV hout
            go_upto_region 25 with fail
            rw [← hV, ← hb15]
            clear hV hb15
            have S0 : Gw V V.drew := (Gw.refl V).drew
            refine wp_region_held (S := fun W' => Gw V W') (by kernel_rfl) ?_
            change wpAnyH _ _ _ _ _ _ _ _ (World.drew _)
            refine wpAnyH_take (i := 0) (v := .slice (some ⟨ga, oa, none⟩) (m1 + 1) c') rfl (by kernel_rfl) (by kernel_rfl) (by kernel_rfl) (fun _ _ _ h => h) (Or.inl ⟨by kernel_rfl, fun W' hW => ?_⟩) S0 ?_
            · go_simp
            refine wpAnyH_take (i := 1) (v := .agg #[.int .i64 x.1, .int .u64 x.2]) rfl (by kernel_rfl) (by kernel_rfl) (by kernel_rfl) (fun _ _ _ h => h) (Or.inl ⟨by kernel_rfl, fun W' hW => ?_⟩) S0 ?_
            · exact load_hit (x := .tmp 15) (b := b15) (off := 0) (y := x) rfl (by go_simp) ((gw_kept hW).cell HX.out.1 (fun f => f)) ((gw_kept hW).cell HX.out.2 (fun f => f))
            refine wpAnyH_take (i := 3) (v := .slice (some ⟨gb, go, none⟩) i c) rfl (by kernel_rfl) (by kernel_rfl) (by kernel_rfl) (fun _ _ _ h => h) (Or.inl ⟨by kernel_rfl, fun W' hW => ?_⟩) S0 ?_
            · go_simp
            refine wpAnyH_take (i := 4) (v := .agg #[.int .i64 x.1, .int .u64 x.2]) rfl (by kernel_rfl) (by kernel_rfl) (by kernel_rfl) (fun _ _ _ h => h) (Or.inl ⟨by kernel_rfl, fun W' hW => ?_⟩) S0 ?_
            · exact load_hit (x := .tmp 15) (b := b15) (off := 0) (y := x) rfl (by go_simp) ((gw_kept hW).cell HX.out.1 (fun f => f)) ((gw_kept hW).cell HX.out.2 (fun f => f))
            refine wpAnyH_all (rs := [2]) (by kernel_rfl) (by simp) ?_
            intro i hi
            obtain rfl : i = 2 := by simpa using hi
            have E2 := hideT (C1.out _ S0)
            unfold wpOp
            go_simp
            first | refine E2.out.mono ?_ | refine Or.inl (E2.out.mono ?_)
            rintro e W11 ⟨rfl, h2⟩
            have h2 := S0.trans h2
            first | refine ⟨h2, ?_⟩ | refine Or.inl ⟨h2, ?_⟩
            refine wpAnyH_all (rs := [5]) (by kernel_rfl) (by simp) ?_
            intro i hi
            obtain rfl : i = 5 := by simpa using hi
            have E5 := hideT (C2.out _ h2)
            unfold wpOp
            go_simp
            first | refine E5.out.mono ?_ | refine Or.inl (E5.out.mono ?_)
            rintro e W12 ⟨rfl, h5⟩
            have h5 := h2.trans h5
            first | refine ⟨h5, ?_⟩ | refine Or.inl ⟨h5, ?_⟩
            refine wpAnyH_all (rs := [6]) (by kernel_rfl) (by simp) ?_
            intro i hi
            obtain rfl : i = 6 := by simpa using hi
            unfold wpOp
            go_simp
            first | (change wpAnyH _ _ _ _ _ _ _ _ _) | (refine Or.inl ?_; change wpAnyH _ _ _ _ _ _ _ _ _) | refine Or.inl ⟨h5, ?_⟩ | refine ⟨h5, ?_⟩
            refine wpAnyH_all (rs := [7]) (by kernel_rfl) (by simp) ?_
            intro i hi
            obtain rfl : i = 7 := by simpa using hi
            unfold wpOp
            go_simp
            first | (change wpAnyH _ _ _ _ _ _ _ _ _) | (refine Or.inl ?_; change wpAnyH _ _ _ _ _ _ _ _ _) | refine Or.inl ⟨h5, ?_⟩ | refine ⟨h5, ?_⟩
            refine wpAnyH_done (by kernel_rfl) ?_ _
            have H12 := hideT h5
            have HW12 := hideT (HW.out.trans (HKV.out.trans (gw_kept h5) (fun _ f => f.elim)) (fun _ f => f.elim))
            have HX2 := hideT (And.intro ((gw_kept h5).cell HX.out.1 (fun f => f)) ((gw_kept h5).cell HX.out.2 (fun f => f)))
            have HY2 := hideT (And.intro (HW12.out.cell HY.out.1 (fun f => f)) (HW12.out.cell HY.out.2 (fun f => f)))
            clear h5 S0
            have hpq1 : ¬ (q : Int) < (p : Int) := by omega
            by_cases hpq : p < q
            · have hpq2 : (p : Int) < (q : Int) := by omega
              have AH := hideT (fun W => ahead_any x y W)
              rw [decide_eq_false (HOUT.out hpq y HYM.out)] at AH
              go_upto_region 26 with fail
              have U0 : Gw W12 W12.drew := (Gw.refl W12).drew
              refine wp_region_held (S := fun W' => Gw W12 W') (by kernel_rfl) ?_
              change wpAnyH _ _ _ _ _ _ _ _ (World.drew _)
              refine wpAnyH_take (i := 0) (v := .int .i64 (p : Nat)) rfl (by kernel_rfl) (by kernel_rfl) (by kernel_rfl) (fun _ _ _ h => h) (Or.inl ⟨by kernel_rfl, fun W' hW => ?_⟩) U0 ?_
              · go_simp
              refine wpAnyH_take (i := 1) (v := .int .i64 (q : Nat)) rfl (by kernel_rfl) (by kernel_rfl) (by kernel_rfl) (fun _ _ _ h => h) (Or.inl ⟨by kernel_rfl, fun W' hW => ?_⟩) U0 ?_
              · go_simp
              refine wpAnyH_take (i := 2) (v := .bool false) rfl (by kernel_rfl) (by kernel_rfl) (by kernel_rfl) (fun _ _ _ h => h) (Or.inl ⟨by kernel_rfl, fun W' hW => ?_⟩) U0 ?_
              · go_simp
              refine wpAnyH_take (i := 3) (v := .bool false) rfl (by kernel_rfl) (by kernel_rfl) (by kernel_rfl) (fun _ _ _ h => h) (Or.inl ⟨by kernel_rfl, fun W' hW => ?_⟩) U0 ?_
              · go_simp
              refine wpAnyH_take (i := 4) (v := .int .i64 (p : Nat)) rfl (by kernel_rfl) (by kernel_rfl) (by kernel_rfl) (fun _ _ _ h => h) (Or.inl ⟨by kernel_rfl, fun W' hW => ?_⟩) U0 ?_
              · go_simp
              refine wpAnyH_take (i := 5) (v := .int .i64 (q : Nat)) rfl (by kernel_rfl) (by kernel_rfl) (by kernel_rfl) (fun _ _ _ h => h) (Or.inl ⟨by kernel_rfl, fun W' hW => ?_⟩) U0 ?_
              · go_simp
              refine wpAnyH_take (i := 6) (v := .bool true) rfl (by kernel_rfl) (by kernel_rfl) (by kernel_rfl) (fun _ _ _ h => h) (Or.inl ⟨by kernel_rfl, fun W' hW => ?_⟩) U0 ?_
              · go_simp
              refine wpAnyH_take (i := 7) (v := .bool true) rfl (by kernel_rfl) (by kernel_rfl) (by kernel_rfl) (fun _ _ _ h => h) (Or.inl ⟨by kernel_rfl, fun W' hW => ?_⟩) U0 ?_
              · go_simp
              refine wpAnyH_take (i := 8) (v := .agg #[.int .i64 x.1, .int .u64 x.2]) rfl (by kernel_rfl) (by kernel_rfl) (by kernel_rfl) (fun _ _ _ h => h) (Or.inl ⟨by kernel_rfl, fun W' hW => ?_⟩) U0 ?_
              · exact load_hit (x := .tmp 15) (b := b15) (off := 0) (y := x) rfl (by go_simp) ((gw_kept hW).cell HX2.out.1 (fun f => f)) ((gw_kept hW).cell HX2.out.2 (fun f => f))
              refine wpAnyH_take (i := 9) (v := .slice (some ⟨ga, oa, none⟩) (m1 + 1) c') rfl (by kernel_rfl) (by kernel_rfl) (by kernel_rfl) (fun _ _ _ h => h) (Or.inl ⟨by kernel_rfl, fun W' hW => ?_⟩) U0 ?_
              · go_simp
              refine wpAnyH_take (i := 10) (v := .int .i64 ((m1 : Int) + 1)) rfl (by kernel_rfl) (by kernel_rfl) (by kernel_rfl) (fun _ _ _ h => h) (Or.inl ⟨by kernel_rfl, fun W' hW => ?_⟩) U0 ?_
              · go_simp
              refine wpAnyH_take (i := 11) (v := .int .i64 (m1 : Nat)) rfl (by kernel_rfl) (by kernel_rfl) (by kernel_rfl) (fun _ _ _ h => h) (Or.inl ⟨by kernel_rfl, fun W' hW => ?_⟩) U0 ?_
              · go_simp
                try (simp [IntKind.wrap, IntKind.bits, IntKind.signed]; omega)
              refine wpAnyH_take (i := 12) (v := .pointer (some ⟨ga, oa + m1 * 2, none⟩)) rfl (by kernel_rfl) (by kernel_rfl) (by kernel_rfl) (fun _ _ _ h => h) (Or.inl ⟨by kernel_rfl, fun W' hW => ?_⟩) U0 ?_
              · go_simp
                all_goals (intro h; omega)
              refine wpAnyH_take (i := 13) (v := .agg #[.int .i64 y.1, .int .u64 y.2]) rfl (by kernel_rfl) (by kernel_rfl) (by kernel_rfl) (fun _ _ _ h => h) (Or.inl ⟨by kernel_rfl, fun W' hW => ?_⟩) U0 ?_
              · exact load_hit (x := .tmp 123) (b := ga) (off := oa + m1 * 2) (y := y) rfl (by go_simp) ((gw_kept hW).cell HY2.out.1 (fun f => f)) ((gw_kept hW).cell HY2.out.2 (fun f => f))
              refine wpAnyH_all (rs := [14]) (by kernel_rfl) (by simp) ?_
              intro i hi
              obtain rfl : i = 14 := by simpa using hi
              have E14 := hideT (AH.out W12.drew)
              unfold wpOp
              go_simp
              first | refine E14.out.mono ?_ | refine Or.inl (E14.out.mono ?_)
              rintro e W13 ⟨rfl, h14⟩
              have h14 := U0.trans h14
              first | refine ⟨h14, ?_⟩ | refine Or.inl ⟨h14, ?_⟩
              refine wpAnyH_all (rs := [15]) (by kernel_rfl) (by simp) ?_
              intro i hi
              obtain rfl : i = 15 := by simpa using hi
              unfold wpOp
              go_simp
              first | (change wpAnyH _ _ _ _ _ _ _ _ _) | (refine Or.inl ?_; change wpAnyH _ _ _ _ _ _ _ _ _) | refine Or.inl ⟨h14, ?_⟩ | refine ⟨h14, ?_⟩
              refine wpAnyH_all (rs := [16]) (by kernel_rfl) (by simp) ?_
              intro i hi
              obtain rfl : i = 16 := by simpa using hi
              unfold wpOp
              go_simp
              first | (change wpAnyH _ _ _ _ _ _ _ _ _) | (refine Or.inl ?_; change wpAnyH _ _ _ _ _ _ _ _ _) | refine Or.inl ⟨h14, ?_⟩ | refine ⟨h14, ?_⟩
              refine wpAnyH_done (by kernel_rfl) ?_ _
              have HW13 := hideT (HW12.out.trans (gw_kept h14) (fun _ f => f.elim))
              clear h14 U0
              go_wp2
              go_round
              case rel => exact ⟨j + 1, by omega, by go_num, HW13⟩
              case measure => simp [intOf]; omega
            · have hpq2 : ¬ (p : Int) < (q : Int) := by omega
              have HW13 := hideT (HW12.out.trans (Kept.drew W12) (fun _ f => f.elim))
              go_upto_region 26 with fail
              have U0 : Gw W12 W12.drew := (Gw.refl W12).drew
              refine wp_region_held (S := fun W' => Gw W12 W') (by kernel_rfl) ?_
              change wpAnyH _ _ _ _ _ _ _ _ (World.drew _)
              refine wpAnyH_take (i := 0) (v := .int .i64 (p : Nat)) rfl (by kernel_rfl) (by kernel_rfl) (by kernel_rfl) (fun _ _ _ h => h) (Or.inl ⟨by kernel_rfl, fun W' hW => ?_⟩) U0 ?_
              · go_simp
              refine wpAnyH_take (i := 1) (v := .int .i64 (q : Nat)) rfl (by kernel_rfl) (by kernel_rfl) (by kernel_rfl) (fun _ _ _ h => h) (Or.inl ⟨by kernel_rfl, fun W' hW => ?_⟩) U0 ?_
              · go_simp
              refine wpAnyH_take (i := 2) (v := .bool false) rfl (by kernel_rfl) (by kernel_rfl) (by kernel_rfl) (fun _ _ _ h => h) (Or.inl ⟨by kernel_rfl, fun W' hW => ?_⟩) U0 ?_
              · go_simp
              refine wpAnyH_take (i := 3) (v := .bool false) rfl (by kernel_rfl) (by kernel_rfl) (by kernel_rfl) (fun _ _ _ h => h) (Or.inl ⟨by kernel_rfl, fun W' hW => ?_⟩) U0 ?_
              · go_simp
              refine wpAnyH_take (i := 4) (v := .int .i64 (p : Nat)) rfl (by kernel_rfl) (by kernel_rfl) (by kernel_rfl) (fun _ _ _ h => h) (Or.inl ⟨by kernel_rfl, fun W' hW => ?_⟩) U0 ?_
              · go_simp
              refine wpAnyH_take (i := 5) (v := .int .i64 (q : Nat)) rfl (by kernel_rfl) (by kernel_rfl) (by kernel_rfl) (fun _ _ _ h => h) (Or.inl ⟨by kernel_rfl, fun W' hW => ?_⟩) U0 ?_
              · go_simp
              refine wpAnyH_take (i := 6) (v := .bool false) rfl (by kernel_rfl) (by kernel_rfl) (by kernel_rfl) (fun _ _ _ h => h) (Or.inl ⟨by kernel_rfl, fun W' hW => ?_⟩) U0 ?_
              · go_simp
              refine wpAnyH_take (i := 7) (v := .bool false) rfl (by kernel_rfl) (by kernel_rfl) (by kernel_rfl) (fun _ _ _ h => h) (Or.inl ⟨by kernel_rfl, fun W' hW => ?_⟩) U0 ?_
              · go_simp
              refine wpAnyH_take (i := 8) (v := undef) rfl (by kernel_rfl) (by kernel_rfl) (by kernel_rfl) (fun _ _ _ h => h) (Or.inr ⟨by kernel_rfl, rfl⟩) U0 ?_
              refine wpAnyH_take (i := 9) (v := undef) rfl (by kernel_rfl) (by kernel_rfl) (by kernel_rfl) (fun _ _ _ h => h) (Or.inr ⟨by kernel_rfl, rfl⟩) U0 ?_
              refine wpAnyH_take (i := 10) (v := undef) rfl (by kernel_rfl) (by kernel_rfl) (by kernel_rfl) (fun _ _ _ h => h) (Or.inr ⟨by kernel_rfl, rfl⟩) U0 ?_
              refine wpAnyH_take (i := 11) (v := undef) rfl (by kernel_rfl) (by kernel_rfl) (by kernel_rfl) (fun _ _ _ h => h) (Or.inr ⟨by kernel_rfl, rfl⟩) U0 ?_
              refine wpAnyH_take (i := 12) (v := undef) rfl (by kernel_rfl) (by kernel_rfl) (by kernel_rfl) (fun _ _ _ h => h) (Or.inr ⟨by kernel_rfl, rfl⟩) U0 ?_
              refine wpAnyH_take (i := 13) (v := undef) rfl (by kernel_rfl) (by kernel_rfl) (by kernel_rfl) (fun _ _ _ h => h) (Or.inr ⟨by kernel_rfl, rfl⟩) U0 ?_
              refine wpAnyH_take (i := 14) (v := undef) rfl (by kernel_rfl) (by kernel_rfl) (by kernel_rfl) (fun _ _ _ h => h) (Or.inr ⟨by kernel_rfl, rfl⟩) U0 ?_
              refine wpAnyH_all (rs := [15]) (by kernel_rfl) (by simp) ?_
              intro i hi
              obtain rfl : i = 15 := by simpa using hi
              unfold wpOp
              go_simp
              first | (change wpAnyH _ _ _ _ _ _ _ _ _) | (refine Or.inl ?_; change wpAnyH _ _ _ _ _ _ _ _ _) | refine Or.inl ⟨U0, ?_⟩ | refine ⟨U0, ?_⟩
              refine wpAnyH_all (rs := [16]) (by kernel_rfl) (by simp) ?_
              intro i hi
              obtain rfl : i = 16 := by simpa using hi
              unfold wpOp
              go_simp
              first | (change wpAnyH _ _ _ _ _ _ _ _ _) | (refine Or.inl ?_; change wpAnyH _ _ _ _ _ _ _ _ _) | refine Or.inl ⟨U0, ?_⟩ | refine ⟨U0, ?_⟩
              refine wpAnyH_done (by kernel_rfl) ?_ _
              go_wp2
              go_round
              case rel => exact ⟨j + 1, by omega, by go_num, HW13⟩
              case measure => simp [intOf]; omega
          · obtain rfl : j = i := by omega
            go_wp2
            go_loopw [131] (fun s131 w3 => ∃ q : Nat, q ≤ m1 + 1 ∧ s131 = .int .i64 q ∧ Hid (Kept (fun _ => False) W10 w3)) (fun s131 _ => m1 + 1 - (intOf s131).toNat)
            case atStart => exact ⟨0, by omega, by go_num, HW⟩
            case round =>
              obtain ⟨q, hq, rfl, HW3⟩ := hrel
              by_cases hqm : q < m1 + 1
              · have hqK : q < K.length := by rw [← HM.out]; exact hqm
                have hqi : (q : Int) < (m1 : Int) + 1 := by omega
                obtain ⟨x0, x1⟩ := HCK.out q hqK
                obtain ⟨x, hx⟩ : ∃ x, x = K[q] := ⟨_, rfl⟩
                rw [← hx] at x0 x1
                have x0 := HW3.out.cell x0 (fun f => f)
                have x1 := HW3.out.cell x1 (fun f => f)
                have hpos := best_mem k.toNat l (x := x) (by rw [← HKK.out, hx]; exact List.getElem_mem hqK)
                have hcl := cnt_le x l
                have ka := Kept.alloc wr (.cells #[.int .i64 x.1, .int .u64 x.2] 29)
                have CN := hideT (count_any l x a c _ (HA.out.same (HKW.out.trans (HW3.out.trans ka (fun _ f => f.elim)) (fun _ f => f.elim))) (by have := HN.out; omega))
                rw [← HN.out] at CN hcl
                obtain ⟨z, hz⟩ : ∃ z, z = cnt x l := ⟨_, rfl⟩
                rw [← hz] at CN hpos hcl
                have HKA := hideT (HW3.out.trans ka (fun _ f => f.elim))
                have hz0 : ¬ (z : Int) = 0 := by omega
                clear hx ka hz
                go_wp2_with (go_at_call 25; refine CN.out.mono ?_; rintro e W14 ⟨rfl, h14⟩)
                have HW4 := hideT (HKA.out.trans (gw_kept h14) (fun _ f => f.elim))
                clear h14
                go_wp2
                go_round
                case rel => exact ⟨q + 1, by omega, by go_num, HW4⟩
                case measure => simp [intOf]; omega
              · obtain rfl : q = m1 + 1 := by omega
                go_upto_region 36 with (go_at_call 27; refine (WO.out _ HW3.out).mono ?_; rintro e W15 ⟨rfl, k15⟩)
                have K15 := hideT (HW3.out.trans k15 (fun _ f => f.elim))
                have ka := Kept.alloc W15 (.cells #[.int .i64 y.1, .int .u64 y.2] 29)
                have e0 := ka.cell (K15.out.cell HY.out.1 (fun f => f)) (fun f => f)
                have e1 := ka.cell (K15.out.cell HY.out.2 (fun f => f)) (fun f => f)
                have HFIN := hideT (show ∀ nq, Kept (fun _ => False) w ((W15.alloc (.cells #[.int .i64 y.1, .int .u64 y.2] 29)).drewN nq) from fun nq => HKW.out.trans (K15.out.trans (ka.trans (gw_kept ((Gw.refl _).drewN nq)) (fun _ f => f.elim)) (fun _ f => f.elim)) (fun _ f => f.elim))
                have hmm : (m1 : Int) < (m1 : Int) + 1 := by omega
                clear k15 ka
                go_wp2
                go_quiet (fail)
                go_wp2
                go_ret
                exact ⟨rfl, HFIN.out _⟩
end Go.Proofs.Ytkgcafomlhfonaa.Tk
