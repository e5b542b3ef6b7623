import Derived.Test.YthbiblfpbifhhaaDoorPou
namespace Go.Proofs.YthbiblfpbifhhaaDoor
open Go.ChangeShapes Go.WideShapes Go.ChangeAt Go.RowKit

theorem own_capP {w : World} {base n c : Nat} {e : TypeId} {sz : Nat} {a : Option Addr} {xs : List Value} (h : w.ownsRow base e sz (.slice a n c) n xs) : n ≤ c := by
  rcases h.2 with ⟨e1, e2⟩ | ⟨g, cap, cur, e1, hg, hh, hnc, _⟩
  · simp only [Value.slice.injEq] at e1
    omega
  · simp only [Value.slice.injEq] at e1
    obtain ⟨_, _, rfl⟩ := e1
    exact hnc
theorem CallsArg8 {P : Program} {f : Nat} {a : Option Addr} {m n c : Nat} {w : World} {R : Ending → World → Prop} (h : m = n) (hc : Calls P f #[.slice a n c] w R) : Calls P f #[.slice a m c] w R := by rw [h]; exact hc
theorem wpOp_in {P : Program} {ops : Array Oper} {Q : Exit → Act → World → Prop} {i : Nat} {o : Oper} {K : Act → World → Prop} {a : Act} {w : World} (hi : ops[i]? = some o) (hgd : o.guard = none) (h : o.wp P a w K Q) : wpOp P ops Q i K a w := by
  have hw : Region.wanted o (yielded ops a.tmps) = true := by simp [Region.wanted, hgd]
  unfold wpOp
  rw [hi]
  simp only
  rw [if_pos hw]
  exact .inl h
theorem img_le {L : List Po} (hg : gdl (-1) L) (hl : L.length ≤ 1048576) (ht : tot L ≤ 1048576) : (img L).length ≤ 500000000 := by
  have h1 := bkb_le (m := nbp L.length) hg (by omega) (by omega)
  have u1 := uvb_le10P L.length (by omega)
  have u2 := uvb_le10P (tot L) (by omega)
  have hn : nbp L.length ≤ 65537 := by unfold nbp; omega
  unfold img
  rw [List.length_append, List.length_append, List.length_append]
  omega
theorem img_pos (L : List Po) : 0 < (img L).length := by
  have := uvb_pos L.length
  unfold img
  rw [List.length_append, List.length_append]
  omega
theorem bytesAt_own {W : World} {base g n c : Nat} {X : List Int} (h : W.ownsRow base 5 1 (.slice (some ⟨g, 0, none⟩) n c) n (bs X)) : BytesAt W (some ⟨g, 0, none⟩) X := by
  obtain ⟨a', c', e', h', -⟩ := bytes_of_own h
  simp only [Value.slice.injEq, true_and] at e'
  exact e'.1 ▸ h'
theorem BytesAt.headP {w : World} {a : Option Addr} {l : List Int} (h : BytesAt w a l) (n : Nat) : BytesAt w a (l.take n) := by
  intro hne
  have hl : l ≠ [] := by intro e; rw [e] at hne; simp at hne
  obtain ⟨b, off, e, hc⟩ := h hl
  refine ⟨b, off, e, fun k hk => ?_⟩
  rw [List.length_take] at hk
  rw [hc k (by omega), List.getElem?_take, if_pos (by omega)]
theorem conv_at (a : Option Addr) (n c : Nat) (W : World) (B : List Int) (hn : n = B.length) (h : BytesAt W a B) : (convert 24 9 (.slice a n c)).run Tryd.prog W = .ok (.string (strOfNums B)) W := by
  subst hn
  by_cases hne : B = []
  · subst hne
    cases a with
    | none => exact run_convert_bytes_nil W 24 5 Tryd.underlying24 Tryd.underlying5 0 c 9 Tryd.underlying9
    | some ad =>
      have hl : (loadCells ad 0).run Tryd.prog W = .ok (([] : List Int).map (Value.int .u8)).toArray W := by
        have := run_loadCells_list (P := Tryd.prog) W ad [] (fun j v hj => by simp at hj)
        simpa using this
      show (convert 24 9 (.slice (some ad) 0 c)).run Tryd.prog W = _
      rw [run_convert_bytes_string W 24 9 5 _ 0 c Tryd.underlying24 Tryd.underlying5 Tryd.underlying9, run_bytesToString W _ 0 c [] hl]
      rfl
  · obtain ⟨b, off, rfl, hc⟩ := h hne
    refine run_convert_bytes_arg W 24 5 Tryd.underlying24 Tryd.underlying5 b off B.length c B rfl (fun i hi => ?_) 9 Tryd.underlying9
    simpa [List.getD] using hc i hi
set_option maxRecDepth 20000 in
set_option maxHeartbeats 8000000 in
theorem there_walk (L : List Pg) (la : Option Addr) (lc : Nat) (cut : Int) (TM : List Int) (ma : Option Addr) (mc : Nat) (TB : List Int) (ba : Option Addr) (bc : Nat) (ad : Nat → Addr) (w : World) (hP : PsAt w la L) (hI : ∀ g ∈ L, IsInts g.ps) (hl : L.length ≤ 1048576) (hlc : L.length ≤ lc) (ht : tot (pol L) ≤ 1048576)
    (hM : BytesAt w ma TM) (hMI : IsBytes TM) (hMl : TM.length ≤ 1048576) (hB : BytesAt w ba TB) (hBI : IsBytes TB) (hBl : TB.length ≤ 1048576) (hBc : TB.length ≤ bc) (hE : Errs13 w ad) :
    Calls Tryd.prog 5 #[.agg #[.slice la L.length lc, .int .i64 cut, .slice ma TM.length mc, .slice ba TB.length bc]] w fun e w' => e = .returned (.bool true) ∧ Kept (fun _ => False) w w' := by
  have K0 := Kept.alloc w (.cells #[.slice la L.length lc, .int .i64 cut, .slice ma TM.length mc, .slice ba TB.length bc] 43)
  have g0 := heap_alloc_new w (.cells #[.slice la L.length lc, .int .i64 cut, .slice ma TM.length mc, .slice ba TB.length bc] 43)
  have HP := hideP hP
  have HI := hideP hI
  have HT := hideP ht
  have HM := hideP hM
  have HMI := hideP hMI
  have HB := hideP hB
  have HBI := hideP hBI
  have HE := hideP hE
  have CV := hideP (plives_any ad _ (hE.kept K0))
  obtain ⟨n, hn⟩ : ∃ n, n = L.length := ⟨_, rfl⟩
  obtain ⟨mn, hmn⟩ : ∃ mn, mn = TM.length := ⟨_, rfl⟩
  obtain ⟨bn, hbn⟩ : ∃ bn, bn = TB.length := ⟨_, rfl⟩
  rw [← hn] at hl hlc K0 g0 CV ⊢
  rw [← hmn] at hMl K0 g0 CV ⊢
  rw [← hbn] at hBl hBc K0 g0 CV ⊢
  have HN := hideP hn
  have HMN := hideP hmn
  have HBN := hideP hbn
  have HK0 := hideP K0
  have HG0 := hideP g0
  clear hP hI ht hM hMI hB hBI hE hn hmn hbn K0 g0
  go_enter Tryd.func5, Tryd.ntmps5
  go_wp2_with (go_at_call 9; refine CV.out.mono ?_; clear CV; rintro e W1 ⟨rfl, k1⟩; have HK1 := hideP (HK0.out.trans k1 (fun _ f => f.elim)); have HG1 := hideP (k1.heap HG0.out (fun f => f)); have x0 := cell_of_row _ _ 0 _ _ _ HG1.out; have x1 := cell_of_row _ _ 1 _ _ _ HG1.out; have x2 := cell_of_row _ _ 2 _ _ _ HG1.out; have x3 := cell_of_row _ _ 3 _ _ _ HG1.out; simp only [List.getElem?_toArray, List.getElem?_cons_zero, List.getElem?_cons_succ] at x0 x1 x2 x3; clear k1)
  go_quiet (fail)
  have HKd := hideP (HK1.out.trans (Kept.drewN W1 nq) (fun _ f => f.elim))
  have HGd := hideP ((Kept.drewN W1 nq).heap HG1.out (fun f => f))
  clear HK1 HG1 HK0 HG0 x0 x1 x2 x3
  generalize W1.drewN nq = V at *
  have CE := hideP (pencode_any L la lc (ad 3) (ad 7) V (HP.out.kept HKd.out) HI.out (by rw [← HN.out]; omega) (by rw [← HN.out]; exact hlc) (by have := HT.out; omega) (HE.out.kept HKd.out).s3.var (HE.out.kept HKd.out).s7.var)
  rw [← HN.out] at CE
  go_wp2_with (go_at_call 10; refine StpQ.go ?_)
  refine ⟨?_⟩
  refine CE.out.mono ?_
  clear CE
  rintro e W2 ⟨k2, hres⟩
  have HK2 := hideP (HKd.out.trans k2 (fun _ f => f.elim))
  have HG2 := hideP (k2.heap HGd.out (fun f => f))
  clear k2 HKd HGd
  rcases hres with ⟨h0, g, hg, rfl, ho⟩ | ⟨h0, rfl⟩ | ⟨h0, rfl⟩
  · have hgd := (flts_iff (fun p hp => by
      obtain ⟨g, hgm, rfl⟩ := List.mem_map.1 hp
      exact HI.out g hgm)).1 h0
    have hil := img_le hgd (by rw [pol_len, ← HN.out]; exact hl) HT.out
    have hip := img_pos (pol L)
    have hib := img_bytes hgd
    have hE2 := HE.out.kept HK2.out
    have CD2 := pdecode_any (img (pol L)) (some ⟨g, 0, none⟩) (img (pol L)).length ad W2 (bytesAt_own ho) hib (by omega) (Nat.le_refl _) hE2.toP hE2.s9.var
    rw [opn_put hgd (by omega)] at CD2
    unfold dePost at CD2
    simp only at CD2
    obtain ⟨N, hNe⟩ : ∃ N, N = (img (pol L)).length := ⟨_, rfl⟩
    rw [← hNe] at CD2 hil hip ho ⊢
    have HNe := hideP hNe
    have HCD2 := hideP CD2
    have HO2 := hideP ho
    have HGd := hideP hgd
    have HIb := hideP hib
    clear h0 hgd hib hE2 CD2 hNe ho
    go_wp2_with (go_at_call 13; refine StpQ.go ?_)
    refine ⟨?_⟩
    refine HCD2.out.mono ?_
    clear HCD2
    rintro e W3 ⟨PL, pa, pc, hPL, rfl, hPs, hpc, k3⟩
    have HK3 := hideP (HK2.out.trans k3 (fun _ f => f.elim))
    have HG3 := hideP (k3.heap HG2.out (fun f => f))
    have HO3 := hideP (k3.row HO2.out (fun _ _ f => f))
    have CS := psame_true PL L pa la pc lc W3 hPs (HP.out.kept HK3.out) hPL (by rw [← pol_len, hPL, pol_len, ← HN.out]; omega) (by rw [hPL]; have := HT.out; omega)
    rw [← HN.out] at CS
    have HCS := hideP CS
    generalize PL.length = pl at *
    obtain ⟨u, hu⟩ : ∃ u : Nat, IntKind.u64.wrap cut = (u : Int) := ⟨(IntKind.u64.wrap cut).toNat, by rw [IntKind.wrap_u64]; omega⟩
    obtain ⟨kc, hkc⟩ : ∃ kc, kc = u % N := ⟨_, rfl⟩
    have hkl : kc < N := by rw [hkc]; exact Nat.mod_lt _ hip
    have hkm : (u : Int) % (N : Int) = (kc : Int) := by rw [hkc]; simp
    have hN0 : ¬ (N : Int) = 0 := by omega
    have hN1 : ¬ N = 0 := by omega
    clear CS k3 hPs hPL hpc HK2 HG2 HO2 hkc
    go_wp2_with (first
      | (go_at_call 15; refine HCS.out.mono ?_; clear HCS; rintro e W4 ⟨rfl, k4⟩; have HK4 := hideP (HK3.out.trans k4 (fun _ f => f.elim)); have HG4 := hideP (k4.heap HG3.out (fun f => f)); have HO4 := hideP (k4.row HO3.out (fun _ _ f => f)); have x1 := cell_of_row _ _ 1 _ _ _ HG4.out; have x2 := cell_of_row _ _ 2 _ _ _ HG4.out; simp only [List.getElem?_toArray, List.getElem?_cons_zero, List.getElem?_cons_succ] at x1 x2; clear k4 HK3 HG3 HO3)
      | (go_at_call 13; refine StpQ.go ?_))
    refine ⟨?_⟩
    have hE4 := HE.out.kept HK4.out
    have hkN : ((img (pol L)).take kc).length = kc := by rw [List.length_take, ← HNe.out]; omega
    have CD4 := pdecode_any ((img (pol L)).take kc) (some ⟨g, 0, none⟩) N ad W4 ((bytesAt_own HO4.out).headP kc) (isb_take HIb.out kc) (by omega) (by omega) hE4.toP hE4.s9.var
    rw [opn_less HIb.out HGd.out (by rw [← HNe.out]; exact hkl) (by rw [← HNe.out]; omega), hkN] at CD4
    unfold dePost errV at CD4
    refine CD4.mono ?_
    rintro e W5 ⟨rfl, k5⟩
    have HK5 := hideP (HK4.out.trans k5 (fun _ f => f.elim))
    have HG5 := hideP (k5.heap HG4.out (fun f => f))
    have HO5 := hideP (k5.row HO4.out (fun _ _ f => f))
    have CN5 := hideP (num_corrupt (HE.out.kept HK5.out))
    have x2 := cell_of_row _ _ 2 _ _ _ HG5.out
    simp only [List.getElem?_toArray, List.getElem?_cons_zero, List.getElem?_cons_succ] at x2
    clear CD4 hE4 hkN k5 HK4 HG4 HO4
    by_cases hm0 : mn = 0
    · subst hm0
      have hEt := HE.out.kept HK5.out
      have CDt := pdecode_any TB ba bc ad W5 (HB.out.kept HK5.out) HBI.out (by rw [← HBN.out]; omega) (by rw [← HBN.out]; exact hBc) hEt.toP hEt.s9.var
      rw [← HBN.out] at CDt
      cases hot : opn TB with
      | none =>
        rw [hot] at CDt
        unfold dePost errV at CDt
        have HCDt := hideP CDt
        clear CDt hot hEt
        go_wp2_with (first
          | (go_at_call 12; refine CN5.out.mono ?_; clear CN5; rintro e W5 ⟨rfl, rfl⟩)
          | (go_at_call 13; refine HCDt.out.mono ?_; clear HCDt; rintro e Wa ⟨rfl, ka⟩; have HKa := hideP (HK5.out.trans ka (fun _ f => f.elim)); have CNa := hideP (num_corrupt (HE.out.kept HKa.out)); clear ka)
          | (go_at_call 12; refine CNa.out.mono ?_; clear CNa; rintro e Wa ⟨rfl, rfl⟩))
        go_ret
        exact ⟨rfl, HKa.out⟩
      | some Lt =>
        rw [hot] at CDt
        unfold dePost at CDt
        simp only at CDt
        obtain ⟨ei, gi, _, _, _⟩ := opn_back HBI.out hot
        have hti := tot_bkb (L := Lt) (b := -1) rfl
        have hli := len_tot gi
        have hbl : (bkb (-1) (chp (nbp Lt.length) Lt)).length ≤ TB.length := by rw [ei]; simp only [img, List.length_append]; omega
        rw [← HBN.out] at hbl
        have HEi := hideP ei
        have HGi := hideP gi
        have hti2 : tot Lt ≤ 1048576 := by omega
        have hli2 : Lt.length ≤ 1048576 := by omega
        have HCDt := hideP CDt
        clear CDt hot hEt ei gi hti hli hbl
        go_wp2_with (first
          | (go_at_call 12; refine CN5.out.mono ?_; clear CN5; rintro e W5 ⟨rfl, rfl⟩)
          | (go_at_call 13; refine HCDt.out.mono ?_; clear HCDt; rintro e Wa ⟨Pt, pa, pc, hPt, rfl, hPs, hpc, ka⟩; have HKa := hideP (HK5.out.trans ka (fun _ f => f.elim)); have CEa := encode_good Pt pa pc ad Wa hPs (by rw [hPt]; exact HGi.out) (by rw [← pol_len, hPt]; omega) hpc (by rw [hPt]; omega) (HE.out.kept HKa.out); rw [hPt, ← HEi.out, ← HBN.out] at CEa; have HCEa := hideP CEa; generalize Pt.length = pl at *; clear ka CEa hPs hPt hpc)
          | (go_at_call 10; refine HCEa.out.mono ?_; clear HCEa; rintro e Wb ⟨gb, hgb, rfl, hob, kb⟩; have HKb := hideP (HKa.out.trans kb (fun _ f => f.elim)); have cva := conv_own hob; have cvb := conv_at ba bn bc Wb TB HBN.out (HB.out.kept HKb.out); have nsa := eqSP 9 (strOfNums TB) (strOfNums TB); have nsb : ((strOfNums TB).toList == (strOfNums TB).toList) = true := (by simp); rw [nsb] at nsa; clear kb hob nsb hgb))
        go_ret
        exact ⟨rfl, HKb.out⟩
    · have hm1 : (0 : Int) < (mn : Int) := by omega
      obtain ⟨mb, mo, hma, hmc⟩ := HM.out.kept HK5.out (by intro e; have := HMN.out; rw [e] at this; simp at this; omega)
      subst hma
      go_wp2_with (go_at_call 12; refine CN5.out.mono ?_; clear CN5; rintro e W5 ⟨rfl, rfl⟩)
      have hS5 : Kept (fun _ => False) W5 W5.drew := Kept.drewN W5 1
      refine wp_region_held (S := fun W' => Kept (fun _ => False) W5 W') (by kernel_rfl) ?_
      change wpAnyH _ _ _ _ _ _ _ _ (World.drew _)
      refine takeZ (i := 1) (d := 71) (v := .slice (some ⟨g, 0, none⟩) N N) rfl rfl (by kernel_rfl) (by kernel_rfl) (by kernel_rfl) (fun _ _ _ h => h) (Or.inl ⟨by rfl, fun W hW => ?_⟩) hS5 ?_
      · (go_simp)
      simp only [Act.put, List.setIfInBounds_toArray, List.set_cons_zero, List.set_cons_succ]
      refine takeZ (i := 3) (d := 73) (v := .pointer (some ⟨w.heap.size, 2, none⟩)) rfl rfl (by kernel_rfl) (by kernel_rfl) (by kernel_rfl) (fun _ _ _ h => h) (Or.inl ⟨by rfl, fun W hW => ?_⟩) hS5 ?_
      · (go_simp)
      simp only [Act.put, List.setIfInBounds_toArray, List.set_cons_zero, List.set_cons_succ]
      refine takeZ (i := 4) (d := 74) (v := .slice (some ⟨mb, mo, none⟩) mn mc) rfl rfl (by kernel_rfl) (by kernel_rfl) (by kernel_rfl) (fun _ _ _ h => h) (Or.inl ⟨by rfl, fun W hW => ?_⟩) hS5 ?_
      · (have z1 := hW.cell x2 (fun f => f); go_simp)
      simp only [Act.put, List.setIfInBounds_toArray, List.set_cons_zero, List.set_cons_succ]
      refine wpAnyH_all (rs := [0]) (by kernel_rfl) (by simp) ?_
      intro i hi
      obtain rfl : i = 0 := by simpa using hi
      unfold wpOp
      go_simp
      have kA : Kept (fun _ => False) W5 (W5.alloc (.cells #[] 5)).drew := (Kept.alloc _ _).trans (Kept.drewN _ 1) (fun _ f => f.elim)
      have o6 : (W5.alloc (.cells #[] 5)).drew.ownsRow W5.heap.size 5 1 (.slice (some ⟨W5.heap.size, 0, none⟩) 0 0) 0 [] := (Kept.drewN (W5.alloc (.cells #[] 5)) 1).row (gro_empty W5 W5 5 1 (Kept.refl _ _)).own (fun _ _ f => f)
      first | refine Or.inl ⟨kA, ?_⟩ | refine ⟨kA, ?_⟩
      generalize (W5.alloc (.cells #[] 5)).drew = V6 at *
      obtain ⟨i0, hi0, hz0, hz1, hz2⟩ := info_partsP Tryd.infoB
      have hX6 := (kA.row HO5.out (fun _ _ f => f)).cells (g := g) rfl
      have hM6 : ∀ j u, (bs TM)[j]? = some u → V6.cell? ((⟨mb, mo, none⟩ : Addr).add j) = some u := BytesAt.cells (fun k hk => kA.cell (hmc k hk) (fun f => f))
      have hs6 := kA.size
      refine wpAnyH_all (rs := [2]) (by kernel_rfl) (by simp) ?_
      intro i hi
      obtain rfl : i = 2 := by simpa using hi
      refine wpOp_in rfl rfl ?_
      refine wp_append_lies V6 (.tmp 70) (.tmp 71) 24 rfl W5.heap.size 5 i0 (.int .u8 0) 1 1 Tryd.underlying24 hi0 hz0 hz1 hz2 rfl (by decide) (.slice (some ⟨W5.heap.size, 0, none⟩) 0 0) 0 [] rfl o6 ⟨g, 0, none⟩ N N (bs (img (pol L))) rfl (by rw [bs_length, ← HNe.out, Nat.mul_one]) hX6 (bs_one _) hip (by unfold maxLen; omega) (by omega) hs6 _ rfl ?_
      intro g7 c7 V7 o7 hg7 hat7 _
      have k67 : Kept (fun k => k = W5.heap.size) V6 V7 := (Kept.grown hg7).mono (fun i hi => .inl (by simp [Value.ownBlock] at hi; omega))
      have k57 : Kept (fun _ => False) W5 V7 := kA.trans k67 (fun i hi => .inr (by omega))
      refine ⟨k57, ?_⟩
      simp only [Act.put, List.setIfInBounds_toArray]
      have hM7 : ∀ j u, (bs TM)[j]? = some u → V7.cell? ((⟨mb, mo, none⟩ : Addr).add j) = some u := BytesAt.cells (fun k hk => k57.cell (hmc k hk) (fun f => f))
      refine wpAnyH_all (rs := [5]) (by kernel_rfl) (by simp) ?_
      intro i hi
      obtain rfl : i = 5 := by simpa using hi
      refine wpOp_in rfl rfl ?_
      refine wp_append_lies V7 (.tmp 72) (.tmp 74) 24 rfl W5.heap.size 5 i0 (.int .u8 0) 1 1 Tryd.underlying24 hi0 hz0 hz1 hz2 rfl (by decide) (.slice (some ⟨g7, 0, none⟩) (0 + N) c7) (0 + N) ([] ++ bs (img (pol L))) rfl o7 ⟨mb, mo, none⟩ mn mc (bs TM) rfl (by rw [bs_length, ← HMN.out, Nat.mul_one]) hM7 (bs_one _) (by omega) (by unfold maxLen; omega) (by omega) k57.size _ rfl ?_
      intro g8 c8 V8 o8 hg8 hat8 _
      have hg7b := (o7.lt g7 rfl).1
      have k58 : Kept (fun _ => False) W5 V8 := k57.trans (Kept.grown hg8) (fun i hi => .inr (by simp [Value.ownBlock] at hi; omega))
      refine ⟨k58, ?_⟩
      simp only [Act.put]
      have hlenX : (img (pol L) ++ TM).length = 0 + N + mn := by rw [List.length_append, ← HNe.out, ← HMN.out]; omega
      rw [List.nil_append, ← bs_append] at o8
      have HK8 := hideP (HK5.out.trans k58 (fun _ f => f.elim))
      have hE8 := HE.out.kept HK8.out
      have CD8 := pdecode_any (img (pol L) ++ TM) (some ⟨g8, 0, none⟩) c8 ad V8 (bytesAt_own o8) (isb_appP HIb.out HMI.out) (by rw [hlenX]; omega) (by rw [hlenX]; exact own_capP o8) hE8.toP hE8.s9.var
      rw [opn_more HGd.out (by intro e; have := HMN.out; rw [e] at this; simp at this; omega) (by rw [hlenX]; omega), hlenX] at CD8
      unfold dePost errV at CD8
      refine wpAnyH_all (rs := [6]) (by kernel_rfl) (by simp) ?_
      intro i hi
      obtain rfl : i = 6 := by simpa using hi
      unfold wpOp
      go_simp
      refine Or.inl ?_
      refine CallsArg8 (n := 0 + N + mn) (by first | rfl | omega) (CD8.mono ?_)
      rintro e W9 ⟨rfl, k9⟩
      have k59 := k58.trans k9 (fun _ f => f.elim)
      refine ⟨k59, ?_⟩
      refine takeZ (i := 7) (d := 69) (v := .tuple #[.slice none 0 0, .iface 153 (.pointer (some (ad 9)))]) rfl rfl (by kernel_rfl) (by kernel_rfl) (by kernel_rfl) (fun _ _ _ h => h) (Or.inl ⟨by rfl, fun W hW => ?_⟩) k59 ?_
      · (go_simp)
      simp only [Act.put, List.setIfInBounds_toArray, List.set_cons_zero, List.set_cons_succ]
      refine takeZ (i := 8) (d := 77) (v := .slice none 0 0) rfl rfl (by kernel_rfl) (by kernel_rfl) (by kernel_rfl) (fun _ _ _ h => h) (Or.inl ⟨by rfl, fun W hW => ?_⟩) k59 ?_
      · (go_simp)
      simp only [Act.put, List.setIfInBounds_toArray, List.set_cons_zero, List.set_cons_succ]
      refine takeZ (i := 9) (d := 78) (v := .iface 153 (.pointer (some (ad 9)))) rfl rfl (by kernel_rfl) (by kernel_rfl) (by kernel_rfl) (fun _ _ _ h => h) (Or.inl ⟨by rfl, fun W hW => ?_⟩) k59 ?_
      · (go_simp)
      simp only [Act.put, List.setIfInBounds_toArray, List.set_cons_zero, List.set_cons_succ]
      refine takeZ (i := 10) (d := 8) (v := .iface 153 (.pointer (some (ad 9)))) rfl rfl (by kernel_rfl) (by kernel_rfl) (by kernel_rfl) (fun _ _ _ h => h) (Or.inl ⟨by rfl, fun W hW => ?_⟩) k59 ?_
      · (go_simp)
      simp only [Act.put, List.setIfInBounds_toArray, List.set_cons_zero, List.set_cons_succ]
      refine wpAnyH_done (by kernel_rfl) ?_ _
      have HK9 := hideP (HK5.out.trans k59 (fun _ f => f.elim))
      have CN9 := hideP (num_corrupt (HE.out.kept HK9.out))
      clear kA o6 hX6 hM6 k67 k57 hM7 o7 hg7 hat7 o8 hg8 hat8 k58 k59 k9 CD8 hE8 HK8 hlenX hi0 hz0 hz1 hz2 HK5 HG5 HO5 x2 hmc hS5 hs6 hg7b
      have hEt := HE.out.kept HK9.out
      have CDt := pdecode_any TB ba bc ad W9 (HB.out.kept HK9.out) HBI.out (by rw [← HBN.out]; omega) (by rw [← HBN.out]; exact hBc) hEt.toP hEt.s9.var
      rw [← HBN.out] at CDt
      cases hot : opn TB with
      | none =>
        rw [hot] at CDt
        unfold dePost errV at CDt
        have HCDt := hideP CDt
        clear CDt hot hEt
        go_wp2_with (first
          | (go_at_call 12; refine CN9.out.mono ?_; clear CN9; rintro e W9 ⟨rfl, rfl⟩)
          | (go_at_call 13; refine HCDt.out.mono ?_; clear HCDt; rintro e Wa ⟨rfl, ka⟩; have HKa := hideP (HK9.out.trans ka (fun _ f => f.elim)); have CNa := hideP (num_corrupt (HE.out.kept HKa.out)); clear ka)
          | (go_at_call 12; refine CNa.out.mono ?_; clear CNa; rintro e Wa ⟨rfl, rfl⟩))
        go_ret
        exact ⟨rfl, HKa.out⟩
      | some Lt =>
        rw [hot] at CDt
        unfold dePost at CDt
        simp only at CDt
        obtain ⟨ei, gi, _, _, _⟩ := opn_back HBI.out hot
        have hti := tot_bkb (L := Lt) (b := -1) rfl
        have hli := len_tot gi
        have hbl : (bkb (-1) (chp (nbp Lt.length) Lt)).length ≤ TB.length := by rw [ei]; simp only [img, List.length_append]; omega
        rw [← HBN.out] at hbl
        have HEi := hideP ei
        have HGi := hideP gi
        have hti2 : tot Lt ≤ 1048576 := by omega
        have hli2 : Lt.length ≤ 1048576 := by omega
        have HCDt := hideP CDt
        clear CDt hot hEt ei gi hti hli hbl
        go_wp2_with (first
          | (go_at_call 12; refine CN9.out.mono ?_; clear CN9; rintro e W9 ⟨rfl, rfl⟩)
          | (go_at_call 13; refine HCDt.out.mono ?_; clear HCDt; rintro e Wa ⟨Pt, pa, pc, hPt, rfl, hPs, hpc, ka⟩; have HKa := hideP (HK9.out.trans ka (fun _ f => f.elim)); have CEa := encode_good Pt pa pc ad Wa hPs (by rw [hPt]; exact HGi.out) (by rw [← pol_len, hPt]; omega) hpc (by rw [hPt]; omega) (HE.out.kept HKa.out); rw [hPt, ← HEi.out, ← HBN.out] at CEa; have HCEa := hideP CEa; generalize Pt.length = pl at *; clear ka CEa hPs hPt hpc)
          | (go_at_call 10; refine HCEa.out.mono ?_; clear HCEa; rintro e Wb ⟨gb, hgb, rfl, hob, kb⟩; have HKb := hideP (HKa.out.trans kb (fun _ f => f.elim)); have cva := conv_own hob; have cvb := conv_at ba bn bc Wb TB HBN.out (HB.out.kept HKb.out); have nsa := eqSP 9 (strOfNums TB) (strOfNums TB); have nsb : ((strOfNums TB).toList == (strOfNums TB).toList) = true := (by simp); rw [nsb] at nsa; clear kb hob nsb hgb))
        go_ret
        exact ⟨rfl, HKb.out⟩
  · rw [show errV (ad 3) = .iface 153 (.pointer (some (ad 3))) from rfl]
    have hEt := HE.out.kept HK2.out
    have CDt := pdecode_any TB ba bc ad W2 (HB.out.kept HK2.out) HBI.out (by rw [← HBN.out]; omega) (by rw [← HBN.out]; exact hBc) hEt.toP hEt.s9.var
    rw [← HBN.out] at CDt
    cases hot : opn TB with
    | none =>
      rw [hot] at CDt
      unfold dePost errV at CDt
      have HCDt := hideP CDt
      clear CDt hot hEt
      go_wp2_with (first
        | (go_at_call 13; refine HCDt.out.mono ?_; clear HCDt; rintro e Wa ⟨rfl, ka⟩; have HKa := hideP (HK2.out.trans ka (fun _ f => f.elim)); have CNa := hideP (num_corrupt (HE.out.kept HKa.out)); clear ka)
        | (go_at_call 12; refine CNa.out.mono ?_; clear CNa; rintro e Wa ⟨rfl, rfl⟩))
      go_ret
      exact ⟨rfl, HKa.out⟩
    | some Lt =>
      rw [hot] at CDt
      unfold dePost at CDt
      simp only at CDt
      obtain ⟨ei, gi, _, _, _⟩ := opn_back HBI.out hot
      have hti := tot_bkb (L := Lt) (b := -1) rfl
      have hli := len_tot gi
      have hbl : (bkb (-1) (chp (nbp Lt.length) Lt)).length ≤ TB.length := by rw [ei]; simp only [img, List.length_append]; omega
      rw [← HBN.out] at hbl
      have HEi := hideP ei
      have HGi := hideP gi
      have hti2 : tot Lt ≤ 1048576 := by omega
      have hli2 : Lt.length ≤ 1048576 := by omega
      have HCDt := hideP CDt
      clear CDt hot hEt ei gi hti hli hbl
      go_wp2_with (first
        | (go_at_call 13; refine HCDt.out.mono ?_; clear HCDt; rintro e Wa ⟨Pt, pa, pc, hPt, rfl, hPs, hpc, ka⟩; have HKa := hideP (HK2.out.trans ka (fun _ f => f.elim)); have CEa := encode_good Pt pa pc ad Wa hPs (by rw [hPt]; exact HGi.out) (by rw [← pol_len, hPt]; omega) hpc (by rw [hPt]; omega) (HE.out.kept HKa.out); rw [hPt, ← HEi.out, ← HBN.out] at CEa; have HCEa := hideP CEa; generalize Pt.length = pl at *; clear ka CEa hPs hPt hpc)
        | (go_at_call 10; refine HCEa.out.mono ?_; clear HCEa; rintro e Wb ⟨gb, hgb, rfl, hob, kb⟩; have HKb := hideP (HKa.out.trans kb (fun _ f => f.elim)); have cva := conv_own hob; have cvb := conv_at ba bn bc Wb TB HBN.out (HB.out.kept HKb.out); have nsa := eqSP 9 (strOfNums TB) (strOfNums TB); have nsb : ((strOfNums TB).toList == (strOfNums TB).toList) = true := (by simp); rw [nsb] at nsa; clear kb hob nsb hgb))
      go_ret
      exact ⟨rfl, HKb.out⟩
  · rw [show errV (ad 7) = .iface 153 (.pointer (some (ad 7))) from rfl]
    have hEt := HE.out.kept HK2.out
    have CDt := pdecode_any TB ba bc ad W2 (HB.out.kept HK2.out) HBI.out (by rw [← HBN.out]; omega) (by rw [← HBN.out]; exact hBc) hEt.toP hEt.s9.var
    rw [← HBN.out] at CDt
    cases hot : opn TB with
    | none =>
      rw [hot] at CDt
      unfold dePost errV at CDt
      have HCDt := hideP CDt
      clear CDt hot hEt
      go_wp2_with (first
        | (go_at_call 13; refine HCDt.out.mono ?_; clear HCDt; rintro e Wa ⟨rfl, ka⟩; have HKa := hideP (HK2.out.trans ka (fun _ f => f.elim)); have CNa := hideP (num_corrupt (HE.out.kept HKa.out)); clear ka)
        | (go_at_call 12; refine CNa.out.mono ?_; clear CNa; rintro e Wa ⟨rfl, rfl⟩))
      go_ret
      exact ⟨rfl, HKa.out⟩
    | some Lt =>
      rw [hot] at CDt
      unfold dePost at CDt
      simp only at CDt
      obtain ⟨ei, gi, _, _, _⟩ := opn_back HBI.out hot
      have hti := tot_bkb (L := Lt) (b := -1) rfl
      have hli := len_tot gi
      have hbl : (bkb (-1) (chp (nbp Lt.length) Lt)).length ≤ TB.length := by rw [ei]; simp only [img, List.length_append]; omega
      rw [← HBN.out] at hbl
      have HEi := hideP ei
      have HGi := hideP gi
      have hti2 : tot Lt ≤ 1048576 := by omega
      have hli2 : Lt.length ≤ 1048576 := by omega
      have HCDt := hideP CDt
      clear CDt hot hEt ei gi hti hli hbl
      go_wp2_with (first
        | (go_at_call 13; refine HCDt.out.mono ?_; clear HCDt; rintro e Wa ⟨Pt, pa, pc, hPt, rfl, hPs, hpc, ka⟩; have HKa := hideP (HK2.out.trans ka (fun _ f => f.elim)); have CEa := encode_good Pt pa pc ad Wa hPs (by rw [hPt]; exact HGi.out) (by rw [← pol_len, hPt]; omega) hpc (by rw [hPt]; omega) (HE.out.kept HKa.out); rw [hPt, ← HEi.out, ← HBN.out] at CEa; have HCEa := hideP CEa; generalize Pt.length = pl at *; clear ka CEa hPs hPt hpc)
        | (go_at_call 10; refine HCEa.out.mono ?_; clear HCEa; rintro e Wb ⟨gb, hgb, rfl, hob, kb⟩; have HKb := hideP (HKa.out.trans kb (fun _ f => f.elim)); have cva := conv_own hob; have cvb := conv_at ba bn bc Wb TB HBN.out (HB.out.kept HKb.out); have nsa := eqSP 9 (strOfNums TB) (strOfNums TB); have nsb : ((strOfNums TB).toList == (strOfNums TB).toList) = true := (by simp); rw [nsb] at nsa; clear kb hob nsb hgb))
      go_ret
      exact ⟨rfl, HKb.out⟩
end Go.Proofs.YthbiblfpbifhhaaDoor
