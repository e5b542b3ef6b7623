import Derived.Test.YtiiokafjfapnpaaDoorPbb
import Derived.Test.YtiiokafjfapnpaaDoorPoh
import Derived.Test.YtiiokafjfapnpaaDoorPov
namespace Go.Proofs.YtiiokafjfapnpaaDoor
open Go.ChangeShapes Go.WideShapes Go.ChangeAt Go.RowKit

theorem lastd_get : ∀ (F : List Po) (b : Int) (h : F.length - 1 < F.length), lastd b F = (F[F.length - 1]'h).d
  | [], _, h => by simp at h
  | [p], b, _ => rfl
  | p :: q :: F, b, _ => by
    rw [lastd, lastd_get (q :: F) p.d (by simp)]
    simp
theorem pol_get {L : List Pg} {k : Nat} (h : k < L.length) (h' : k < (pol L).length) : (pol L)[k] = (L[k]).po := by simp [pol]
theorem pol_drop (L : List Pg) (k : Nat) : pol (L.drop k) = (pol L).drop k := by simp [pol]
theorem tot_dropN (L : List Po) (k : Nat) : tot (blN L k) + tot (L.drop (16 * (k + 1))) = tot (L.drop (16 * k)) := by
  have h := tot_append ((L.drop (16 * k)).take 16) ((L.drop (16 * k)).drop 16)
  rw [List.take_append_drop, List.drop_drop] at h
  rw [h, show 16 * (k + 1) = 16 * k + 16 by omega]
  rfl
theorem atN_le {L : List Po} {k : Nat} (hk : k ≤ nbp L.length) : atN L k ≤ (img L).length := by
  rw [img_hdl, atN, bkb_split k (nbp L.length) L (-1) hk, List.length_append]
  omega
theorem skip_outV (bl : Nat) (L : List Po) (k : Int) (w : World) (h : Opd w bl L) (hk : k < 0 ∨ (nbp L.length : Int) ≤ k) : Calls Tryd.prog 16 #[.pointer (some ⟨bl, 0, none⟩), .int .i64 k] w fun e w' => e = .returned (.tuple #[.agg #[.int .i64 0, .int .i64 0, .int .i64 0, .int .i64 0], .bool false]) ∧ Kept (fun _ => False) w w' := skip_out bl L k w h hk
/-- The numbers of block k. -/
structure BlF (P : List Po) (n k f a z x6 x7 : Nat) : Prop where
  f0 : 0 < f
  f16 : f ≤ 16
  z0 : 0 < z
  e6 : x6 = a + z
  e7 : x7 = 16 * k + f
  le : 16 * k + f ≤ n
theorem blF {P : List Po} {n k : Nat} (hg : gdl (-1) P) (hn : P.length = n) (hk : k < nbp n) : BlF P n k (blN P k).length (atN P k) (blk (bbN (-1) P k) (blN P k)).length (atN P (k + 1)) (min (16 * (k + 1)) n) := by
  have h1 := blN_len P k
  have h2 : 16 * k < n := by unfold nbp at hk; omega
  have h3 : blN P k ≠ [] := by intro e; rw [e] at h1; simp at h1; omega
  exact ⟨by omega, by omega, blk_pos (gdl_blN hg k) h3, atN_succ P k, by omega, by omega⟩
theorem blF16 {P : List Po} {n k : Nat} (hn : P.length = n) (hk : k + 1 < nbp n) : (blN P k).length = 16 := by
  have h1 := blN_len P k
  unfold nbp at hk
  omega
set_option maxRecDepth 20000 in
set_option maxHeartbeats 8000000 in
theorem blocks_walk (L : List Pg) (la : Option Addr) (lc : Nat) (ad : Nat → Addr) (w : World) (hP : PsAt w la L) (hI : ∀ g ∈ L, IsInts g.ps) (hl : L.length ≤ 1048576) (hlc : L.length ≤ lc) (ht : tot (pol L) ≤ 1048576) (hE : ErQ w ad) :
    Calls Tryd.prog 5 #[.slice la L.length lc] w fun e w' => e = .returned (.bool true) ∧ Kept (fun _ => False) w w' := by
  have HP := hideP hP
  have HI := hideP hI
  have HT := hideP ht
  have HE := hideP hE
  have CV := hideP (plives_any ad _ hE)
  obtain ⟨n, hn⟩ : ∃ n, n = L.length := ⟨_, rfl⟩
  rw [← hn] at hl hlc ⊢
  have HN := hideP hn
  clear hP hI ht hE hn
  go_enter Tryd.func5, Tryd.ntmps5
  go_wp2_with (first
    | (go_at_call 6; refine CV.out.mono ?_; clear CV; rintro e W1 ⟨rfl, k1⟩; have HK1 := hideP k1; clear k1)
    | (go_at_call 7; refine StpQ.go ?_))
  refine ⟨?_⟩
  have CE := pencode_any L la lc (ad 3) (ad 7) W1 (HP.out.kept HK1.out) HI.out (by rw [← HN.out]; omega) (by rw [← HN.out]; exact hlc) (by have := HT.out; omega) (HE.out.kept HK1.out).p.s3 (HE.out.kept HK1.out).v7
  rw [← HN.out] at CE
  refine CE.mono ?_
  clear CE
  rintro e W2 ⟨k2, hres⟩
  have HK2 := hideP (HK1.out.trans k2 (fun _ f => f.elim))
  clear k2 HK1
  rcases hres with ⟨h0, g, hg, rfl, ho⟩ | ⟨h0, rfl⟩ | ⟨h0, rfl⟩
  · have hgd := (flts_iff (fun p hp => by
      obtain ⟨g, hgm, rfl⟩ := List.mem_map.1 hp
      exact HI.out g hgm)).1 h0
    obtain ⟨P, hPe⟩ : ∃ P, P = pol L := ⟨_, rfl⟩
    have hPn : P.length = n := by rw [hPe, pol_len, HN.out]
    have HPe := hideP hPe
    rw [← hPe] at hgd ho
    have HT2 : Hid (tot P ≤ 1048576) := hideP (by rw [hPe]; exact HT.out)
    have hil := img_le hgd (by rw [hPn]; exact hl) HT2.out
    have CO := hideP (popen_good P (some ⟨g, 0, none⟩) (img P).length ad W2 (bytesAt_own ho) hgd (by omega) (HE.out.kept HK2.out))
    rw [← hPe]
    obtain ⟨N, hNe⟩ : ∃ N, N = (img P).length := ⟨_, rfl⟩
    rw [← hNe] at CO hil ⊢
    have HNe := hideP hNe
    have HGd := hideP hgd
    have HPn := hideP hPn
    clear h0 hgd ho hNe hg hPe hPn
    obtain ⟨m, hm⟩ : ∃ m, m = nbp n := ⟨_, rfl⟩
    have HM := hideP hm
    have hmq : ((n : Int) + 15).tdiv 16 = (m : Int) := by rw [hm]; unfold nbp; rw [Int.tdiv_eq_ediv_of_nonneg (by omega)]; omega
    have hml : m ≤ 1048576 := by rw [hm]; unfold nbp; omega
    clear hm
    go_wp2_with (first
      | (go_at_call 10; refine CO.out.mono ?_; clear CO; rintro e W3 ⟨bl, rfl, ho, k3⟩; have HK3 := hideP (HK2.out.trans k3 (fun _ f => f.elim)); have HO := hideP ho; have CB := hideP (blocks_of bl P W3 ho); have CD := hideP (docs_of bl P W3 ho); rw [HPn.out, ← HM.out] at CB; rw [HPn.out] at CD; clear ho k3)
      | (go_at_call 15; refine CB.out.mono ?_; rintro e W3 ⟨rfl, rfl⟩)
      | (go_at_call 12; refine CD.out.mono ?_; rintro e W3 ⟨rfl, rfl⟩))
    clear CB CD hmq
    go_loopw [6, 7, 8, 9] (fun v6 v7 v8 v9 wr => ∃ j x6 x7 x8 : Nat, j ≤ m ∧ v6 = .int .i64 x6 ∧ v7 = .int .i64 x7 ∧ v8 = .int .i64 x8 ∧ v9 = .int .i64 ((j : Int) - 1) ∧ Hid (x6 = atN P j) ∧ Hid (x7 = min (16 * j) n) ∧ Hid (x8 = tot (P.drop (16 * j))) ∧ Hid (Kept (fun _ => False) w wr) ∧ Hid (Opd wr bl P)) (fun _ _ _ v9 _ => (intOf v9 + 1).toNat)
    case atStart =>
      refine ⟨m, N, n, 0, Nat.le_refl _, rfl, rfl, rfl, rfl, hideP ?_, hideP ?_, hideP ?_, HK3, HO⟩
      · rw [HNe.out, HM.out, ← HPn.out, atN_end]
      · rw [HM.out]; unfold nbp; omega
      · rw [List.drop_of_length_le (by rw [HPn.out, HM.out]; unfold nbp; omega)]; rfl
    case round =>
      obtain ⟨j, x6, x7, x8, hj, rfl, rfl, rfl, rfl, H6, H7, H8, HK, HO2⟩ := hrel
      clear HO HK3 HK2
      rcases j with _ | k
      · rw [show (((0 : Nat) : Int) - 1) = -1 from rfl]
        have h6 : 2 ≤ x6 := by rw [H6.out, atN_zero]; exact hdl_two P
        obtain rfl : x7 = 0 := by rw [H7.out]; simp
        obtain rfl : x8 = tot P := by rw [H8.out]; simp
        have CB := blocks_of bl P wr HO2.out
        have CS := hideP (skip_outV bl P (m : Nat) wr HO2.out (.inr (by rw [HM.out, HPn.out]; exact Int.le_refl _)))
        rw [HPn.out, ← HM.out] at CB
        have HCB := hideP CB
        have h62 : (2 : Int) ≤ (x6 : Int) := by omega
        generalize hT : tot P = T at *
        have HTT := hideP hT
        clear CB hT
        go_wp2_with (first
          | (go_at_call 15; refine HCB.out.mono ?_; clear HCB; rintro e W4 ⟨rfl, rfl⟩)
          | (go_at_call 16; refine CS.out.mono ?_; clear CS; rintro e W5 ⟨rfl, k5⟩; have HK5 := hideP k5; clear k5)
          | (go_at_call 13; refine StpQ.go ?_))
        refine ⟨?_⟩
        have kA := Kept.alloc W5 (.cells #[.int .i64 0, .int .i64 0, .int .i64 0, .int .i64 0] 45)
        have hO6 := (HO2.out.kept HK5.out).kept kA
        have HK6 := hideP ((HK.out.trans HK5.out (fun _ f => f.elim)).trans kA (fun _ f => f.elim))
        have CT := total_of bl P _ hO6
        rw [HTT.out] at CT
        have CBk := hideP (block_out bl P (-1) _ hO6 (.inl (by decide)))
        refine CT.mono ?_
        clear CT kA hO6
        generalize W5.alloc (.cells #[.int .i64 0, .int .i64 0, .int .i64 0, .int .i64 0] 45) = W6 at *
        rintro e W7 ⟨rfl, rfl⟩
        go_wp2_with (go_at_call 18; refine CBk.out.mono ?_; clear CBk; rintro e W8 ⟨rfl, rfl⟩)
        go_ret
        exact ⟨rfl, HK6.out⟩
      · rw [show (((k + 1 : Nat) : Int) - 1) = (k : Int) by omega]
        have hkm : k < nbp n := by rw [← HM.out]; omega
        have F := blF HGd.out HPn.out hkm
        rw [← H6.out, ← H7.out] at F
        have hxN : x6 ≤ N := by rw [H6.out, HNe.out]; exact atN_le (by rw [HPn.out]; omega)
        have HF16 : Hid (k + 1 < m → (blN P k).length = 16) := hideP (fun h => blF16 HPn.out (by rw [← HM.out]; exact h))
        have CS := skip_in bl P k wr HO2.out (by rw [HPn.out]; exact hkm)
        have HT8 : Hid (x8 + tot (blN P k) = tot (P.drop (16 * k))) := hideP (by rw [H8.out]; have := tot_dropN P k; omega)
        have HL8 : x8 + tot (blN P k) ≤ 1048576 := by
          rw [HT8.out]
          have h1 := tot_append (P.take (16 * k)) (P.drop (16 * k))
          rw [List.take_append_drop] at h1
          have := HT2.out
          omega
        have HV0 : Hid (bbN (-1) P (k + 1) = lastd (bbN (-1) P k) (blN P k)) := hideP (bbN_succ _ _ _)
        have HA0 : Hid (atN P k = atN P k) := hideP rfl
        obtain ⟨f, hf⟩ : ∃ f, f = (blN P k).length := ⟨_, rfl⟩
        obtain ⟨a, ha⟩ : ∃ a, a = atN P k := ⟨_, rfl⟩
        obtain ⟨v0, hv0⟩ : ∃ v0, v0 = bbN (-1) P (k + 1) := ⟨_, rfl⟩
        rw [← hf, ← ha] at F
        rw [← hf, ← ha, ← hv0] at CS
        rw [← hf] at HF16
        rw [← hv0] at HV0
        have HF := hideP hf
        have HA := hideP ha
        generalize (blk (bbN (-1) P k) (blN P k)).length = z at *
        obtain ⟨f0, f16, z0, e6, e7, le7⟩ := F
        obtain ⟨nk, hnk⟩ : ∃ nk, nk = 16 * k := ⟨_, rfl⟩
        rw [← hnk] at e7 le7
        have HNK := hideP hnk
        have hs7 : IntKind.i64.wrap ((x7 : Int) - (f : Int)) = (nk : Int) := by rw [IntKind.wrap_i64]; omega
        have hwf : IntKind.i64.wrap ((nk : Int) + (f : Int)) = (x7 : Int) := by rw [IntKind.wrap_i64]; omega
        have hn0 : decide ((nk : Int) < 0) = false := by rw [decide_eq_false_iff_not]; omega
        have h7l : (x7 : Int) ≤ (lc : Int) := by omega
        have h7n : (nk : Int) ≤ (x7 : Int) := by omega
        have h7f : x7 - nk = f := by omega
        have HE7 := hideP e7
        obtain ⟨lb, lo, hla, -⟩ := HP.out (by intro e; have := HN.out; rw [e] at this; simp at this; omega)
        subst hla
        clear e7 hnk
        unfold skV at CS
        have HCS := hideP CS
        clear CS hf ha hv0 hkm HA0 H6 H7 H8
        have hk0 : (0 : Int) ≤ (k : Int) := by omega
        have hkj : k < m := by omega
        go_wp2_with (first
          | (go_at_call 16; refine HCS.out.mono ?_; clear HCS; rintro e W4 ⟨rfl, k4⟩; have HK4 := hideP k4; clear k4)
          | (go_at_call 18; refine StpQ.go ?_))
        refine ⟨?_⟩
        have kA := Kept.alloc W4 (.cells #[.int .i64 v0, .int .i64 (f : Int), .int .i64 (a : Int), .int .i64 (z : Int)] 45)
        have gA := skO_new W4 v0 (f : Int) (a : Int) (z : Int)
        have HKA := hideP ((HK.out.trans HK4.out (fun _ f => f.elim)).trans kA (fun _ f => f.elim))
        have hOA := (HO2.out.kept HK4.out).kept kA
        refine (block_in bl P k ad _ hOA HGd.out (by rw [← HNe.out]; omega) (by rw [HPn.out, ← HM.out]; exact hkj) (HE.out.kept HKA.out)).mono ?_
        rintro e W5 ⟨FL, pa, pc, hFL, rfl, hPs, hpc, hfar, k5⟩
        have HK5 := hideP (HKA.out.trans k5 (fun _ f => f.elim))
        have HO5 := hideP (hOA.kept k5)
        have hFn : FL.length = f := by rw [← pol_len, hFL, HF.out]
        obtain ⟨⟨y0, y1, y2, y3⟩, -⟩ := skO_cells (k5.heap gA (fun f => f))
        obtain ⟨pb, po, rfl, hc⟩ := id hPs (by intro e; rw [e] at hFn; simp at hFn; omega)
        obtain ⟨f1, hf1⟩ : ∃ f1, f = f1 + 1 := ⟨f - 1, by omega⟩
        have q0 := (hc f1 (by omega)).1
        have hlast : FL[f1].d = v0 := by
          have h1 := lastd_get (blN P k) (bbN (-1) P k) (by rw [← HF.out]; omega)
          have h2 := pol_get (L := FL) (k := f1) (by omega) (by rw [pol_len]; omega)
          rw [HV0.out, h1]
          have h3 : ∀ (X : List Po) (i j : Nat) (hi : i < X.length) (hj : j < (pol FL).length), X = pol FL → i = j → X[i].d = (pol FL)[j].d := by
            intro X i j hi hj e1 e2
            subst e1 e2
            rfl
          rw [h3 (blN P k) _ f1 (by rw [← HF.out]; omega) (by rw [pol_len]; omega) hFL.symm (by rw [← HF.out]; omega), h2]
          rfl
        rw [hlast] at q0
        have HPs := hideP hPs
        have HFL := hideP hFL
        have HFn := hideP hFn
        have CB : Hid (∀ n', Calls Tryd.prog 15 #[.pointer (some ⟨bl, 0, none⟩)] (W5.drewN n') fun e w' => e = .returned (.int .i64 (m : Int)) ∧ ∃ m', w' = W5.drewN m') := hideP (fun n' => by
          have h1 := blocks_of bl P (W5.drewN n') (HO5.out.kept (Kept.drewN W5 n'))
          rw [HPn.out, ← HM.out] at h1
          refine h1.mono ?_
          rintro e w' ⟨rfl, rfl⟩
          exact ⟨rfl, n', rfl⟩)
        rw [hFn]
        have hd1 : ((f : Int) != (f : Int)) = false := by simp
        have hd2 : (v0 != v0) = false := by simp
        have hd3 : ((a : Int) + (z : Int) != (a : Int) + (z : Int)) = false := by simp
        have hf0 : ((f : Int) == 0) = false := by rw [beq_eq_false_iff_ne]; omega
        have hsub : IntKind.i64.wrap ((f : Int) - 1) = (f1 : Int) := by rw [IntKind.wrap_i64]; omega
        have hkk : (f1 : Int) < (f : Int) := by omega
        have hz0 : decide ((z : Int) < 1) = false := by rw [decide_eq_false_iff_not]; omega
        have hwz : IntKind.i64.wrap ((a : Int) + (z : Int)) = (a : Int) + (z : Int) := by rw [IntKind.wrap_i64]; omega
        have hwm : IntKind.i64.wrap ((m : Int) - 1) = (m : Int) - 1 := by rw [IntKind.wrap_i64]; omega
        have hcase : (decide ((k : Int) < (m : Int) - 1) = true ∧ (((f : Int) != 16) = false)) ∨ (decide ((k : Int) < (m : Int) - 1) = false ∧ f ≤ 16) := by
          by_cases h : k + 1 < m
          · refine .inl ⟨by rw [decide_eq_true_iff]; omega, ?_⟩
            have := HF16.out h
            subst this
            rfl
          · exact .inr ⟨by rw [decide_eq_false_iff_not]; omega, f16⟩
        have HF1 := hideP hf1
        clear hf1 hlast hfar hPs hFL hc k5 gA kA hOA HV0 HF16 hFn hpc
        have CQ : Hid (∀ n', Calls Tryd.prog 17 #[.slice (some ⟨pb, po, none⟩) f pc, .slice (some ⟨lb, lo + nk * 2, none⟩) f (lc - nk)] (W5.drewN n') fun e w' => e = .returned (.bool true) ∧ Kept (fun _ => False) (W5.drewN n') w') := hideP (fun n' => by
          have kd := Kept.drewN W5 n'
          have h1 := (HP.out.kept (HK5.out.trans kd (fun _ f => f.elim))).cut nk f
          have h2 : pol FL = pol ((L.drop nk).take f) := by
            rw [HFL.out, pol_take, pol_drop, ← HPe.out, HNK.out]
            unfold blN
            rw [HF.out, blN_len]
            apply List.ext_getElem?
            intro i
            rw [List.getElem?_take, List.getElem?_take]
            by_cases hi : i < 16
            · rw [if_pos hi]
              by_cases hi2 : i < min 16 (P.length - 16 * k)
              · rw [if_pos hi2]
              · rw [if_neg hi2, List.getElem?_eq_none (by rw [List.length_drop]; omega)]
            · rw [if_neg hi, if_neg (by omega)]
          have h3 := psame_true FL ((L.drop nk).take f) (some ⟨pb, po, none⟩) _ pc (lc - nk) (W5.drewN n') (HPs.out.kept kd) h1 h2 (by rw [HFn.out]; omega) (by rw [HFL.out]; omega)
          rw [HFn.out, show ((L.drop nk).take f).length = f by rw [← pol_len, ← h2, pol_len, HFn.out]] at h3
          exact h3)
        have HTF : Hid (tot (pol FL) = tot (blN P k)) := hideP (by rw [HFL.out])
        rcases hcase with ⟨hl1, h16⟩ | ⟨hl1, h16⟩
        all_goals
          go_wp2_with fail
          go_quiet ((exact CB.out _))
          have HK6 := hideP (HK5.out.trans (Kept.drewN W5 nq) (fun _ f => f.elim))
          clear CB
          go_wp2_with (go_at_call 17; refine (CQ.out nq).mono ?_; clear CQ; rintro e W7 ⟨rfl, k7⟩; have HK7 := hideP (HK6.out.trans k7 (fun _ f => f.elim)); have HP7 := hideP ((HPs.out.kept (Kept.drewN W5 nq)).kept k7); have HO7 := hideP ((HO5.out.kept (Kept.drewN W5 nq)).kept k7); clear k7)
          clear y0 y1 y2 y3 q0 hd1 hd2 hd3 hf0 hsub hkk hz0 hwz hwm hl1 h16
          go_loopw [8, 150] (fun v8 v150 wr2 => ∃ (i t : Nat), i ≤ f ∧ x8 + t ≤ 1048576 ∧ v150 = .int .i64 i ∧ v8 = .int .i64 ((x8 + t : Nat) : Int) ∧ Hid (t = tot (pol (FL.take i))) ∧ Hid (Kept (fun _ => False) w wr2) ∧ Hid (Opd wr2 bl P) ∧ Hid (PsAt wr2 (some ⟨pb, po, none⟩) FL)) (fun _ v150 _ => f - (intOf v150).toNat)
          case atStart => exact ⟨0, 0, by omega, by omega, rfl, rfl, hideP rfl, HK7, HO7, HP7⟩
          case round =>
            obtain ⟨i, t, hi, htl, rfl, rfl, Ht, HK8, HO8, HP8⟩ := hrel
            by_cases hlt : i < f
            · have hii : (i : Int) < (f : Int) := by omega
              have hil2 : i < FL.length := by rw [HFn.out]; exact hlt
              obtain ⟨pb', po', e8, hc⟩ := HP8.out (by intro e; rw [e] at hil2; simp at hil2)
              cases e8
              obtain ⟨x0, x1, -⟩ := hc i hil2
              have h2 : t + FL[i].ps.length = tot (pol (FL.take (i + 1))) := by rw [pol_step hil2, tot_append, ← Ht.out]; simp [tot]
              have h3 : x8 + (t + FL[i].ps.length) ≤ 1048576 := by
                rw [h2, pol_take]
                have := tot_take_le (pol FL) (i + 1)
                have := HTF.out
                omega
              have HS2 := hideP h2
              clear h2 hc Ht
              generalize FL[i] = en at *
              obtain ⟨d, pa, pcc, ps⟩ := en
              simp only at x0 x1 h3 HS2
              generalize ps.length = pn at *
              have kA := Kept.alloc wr (.cells #[.int .i64 d, .slice pa pn pcc] 53)
              have HK9 := hideP (HK8.out.trans kA (fun _ f => f.elim))
              have HO9 := hideP (HO8.out.kept kA)
              have HP9 := hideP (HP8.out.kept kA)
              clear kA HK8 HO8 HP8
              go_wp2
              go_roundw
              case rel => exact ⟨i + 1, t + pn, by omega, h3, by go_num, by go_num, HS2, HK9, HO9, HP9⟩
              case measure => simp [intOf]; omega
            · have hii : ¬ (i : Int) < (f : Int) := by omega
              have HE8 : Hid (x8 + t = tot (P.drop (16 * k))) := hideP (by rw [Ht.out, List.take_of_length_le (by rw [HFn.out]; omega), HTF.out, HT8.out])
              go_wp2
              go_roundw
              case rel => exact ⟨k, a, nk, x8 + t, by omega, rfl, rfl, rfl, by go_num, HA, hideP (by rw [HNK.out]; have := HNK.out; omega), HE8, HK8, HO8⟩
              case measure => simp [intOf]
  · rw [show errV (ad 3) = .iface 120 (.pointer (some (ad 3))) from rfl]
    go_wp2
    go_ret
    exact ⟨rfl, HK2.out⟩
  · rw [show errV (ad 7) = .iface 120 (.pointer (some (ad 7))) from rfl]
    go_wp2
    go_ret
    exact ⟨rfl, HK2.out⟩
end Go.Proofs.YtiiokafjfapnpaaDoor
