import Derived.Test.YtidgofpmnlddaaaGreatDoorMir
namespace Go.Proofs.YtidgofpmnlddaaaGreatDoor
open Go.ChangeShapes Go.WideShapes Go.ChangeAt Go.RowKit

set_option maxRecDepth 20000 in
set_option maxHeartbeats 16000000 in
/-- The law CursorMemory. -/
theorem memory_walk (mk : Nat → Nat → Int) (hmk : MarkI mk) (PL : List Pg) (a la oa : Option Addr) (c lc oc : Nat) (ad : Nat → Addr) (w : World) (hP : PsAt w a PL) (hPI : ∀ g ∈ PL, IsInts g.ps) (hPl : PL.length ≤ 1048576) (hPc : PL.length ≤ c) (hPt : tot (pol PL) ≤ 1048576) (ln om : Nat) (hCK : ∀ V, Kept (fun _ => False) w V → Calls Tryz.prog 15 #[.slice la ln lc, .slice oa om oc] V fun e w' => e = .returned (.bool true) ∧ Kept (fun _ => False) V w') (hE : Errs13 w ad) :
    Calls Tryz.prog 3 #[.slice a PL.length c, .slice la ln lc, .slice oa om oc] w fun e w' => e = .returned (.bool true) ∧ Kept (fun _ => False) w w' := by
  have HM := hideP hmk
  have HE := hideP hE
  have HP := hideP hP
  have CF := hideP (fixed_any ad w hE.toQ)
  have CE : Hid (∀ V, Kept (fun _ => False) w V → Calls Tryz.prog 5 #[.slice a PL.length c] V (dePostD PL V)) := hideP (fun V k => dencode_any PL a c V (hP.kept k) hPI (by omega) hPc (by omega))
  have CK := hideP hCK
  have HFI := hideP (flts_iff (L := pol PL) (b := -1) (fun p hp => by
    obtain ⟨g, hgm, rfl⟩ := List.mem_map.1 hp
    exact hPI g hgm))
  have HFO := hideP (flts_or (pol PL) (-1))
  clear hCK hmk hE hP hPI hPc
  obtain ⟨n, hn⟩ : ∃ n, n = PL.length := ⟨_, rfl⟩
  have HN := hideP hn
  have HPn : Hid (n = (pol PL).length) := hideP (by rw [hn]; exact (pol_len PL).symm)
  rw [← hn] at CE hPl ⊢
  clear hn
  go_enter Tryz.func3, Tryz.ntmps3
  go_wp2_with (go_at_call 4; refine StpQ.go ?_)
  refine ⟨?_⟩
  refine CF.out.mono ?_
  clear CF
  rintro e W1 ⟨rfl, k1⟩
  have CE1 := hideP (CE.out W1 k1)
  have HK1 := hideP k1
  clear CE k1
  go_wp2_with (go_at_call 5; refine StpQ.go ?_)
  refine ⟨?_⟩
  refine CE1.out.mono ?_
  clear CE1
  intro e W2 hp
  rcases hp with ⟨hf0, gb, gbc, rfl, hGb⟩ | ⟨hf0, rfl, k2⟩
  case inr =>
    have hk2 := HK1.out.trans k2 (fun _ f => f.elim)
    have CK2 := hideP (CK.out W2 hk2)
    have HK2 := hideP hk2
    have hfn : fnm (flts (-1) (pol PL)) = 4 ∨ fnm (flts (-1) (pol PL)) = 8 := by
      rcases HFO.out with q | q | q
      · exact absurd q hf0
      · rw [q]; exact .inl rfl
      · rw [q]; exact .inr rfl
    generalize fnm (flts (-1) (pol PL)) = fn at *
    have hne : (fn == 0) = false := by rcases hfn with rfl | rfl <;> rfl
    clear k2 hk2 HK1 CK HFO HFI hf0 hfn
    go_wp2_with (go_at_call 15; refine StpQ.go ?_)
    refine ⟨?_⟩
    refine CK2.out.mono ?_
    clear CK2
    rintro e W3 ⟨rfl, k3⟩
    have HK3 := hideP (HK2.out.trans k3 (fun _ f => f.elim))
    clear k3
    go_wp2
    go_ret
    exact ⟨rfl, HK3.out⟩
  have hg := HFI.out.1 hf0
  have hPn := HPn.out
  have hil : (img (pol PL)).length ≤ 67108864 := by
    have h1 := bkb_le (m := nbp (pol PL).length) hg (by omega) (by omega)
    have u1 := uvb_le10P (pol PL).length (by omega)
    have u2 := uvb_le10P (tot (pol PL)) (by omega)
    have hnb : nbp (pol PL).length ≤ 65537 := by unfold nbp; omega
    unfold img
    rw [List.length_append, List.length_append, List.length_append]
    omega
  have hib := img_bytes hg
  obtain ⟨P, hPe⟩ : ∃ P, P = pol PL := ⟨_, rfl⟩
  rw [← hPe] at hg hil hib hGb hPt HPn ⊢
  clear hPn
  obtain ⟨M, hM⟩ : ∃ M, M = img P := ⟨_, rfl⟩
  rw [← hM] at hil hib hGb ⊢
  obtain ⟨N, hNM⟩ : ∃ N, N = M.length := ⟨_, rfl⟩
  rw [← hNM] at hil hGb ⊢
  have HG := hideP hg
  have HPe := hideP hPe
  have HMi := hideP hM
  have HNM := hideP hNM
  have HIB := hideP hib
  have HGb := hideP hGb
  have hk2 := HK1.out.trans hGb.kept (fun _ f => f.elim)
  have HK2 := hideP hk2
  have HBb : Hid (∀ V, Kept (fun _ => False) W2 V → BytesAt V (some ⟨gb, 0, none⟩) M) := hideP (fun V k => (gro_bytes hGb).1.kept k)
  have CS := hideP (spareB_any mk HM.out M (some ⟨gb, 0, none⟩) gbc W2 (HBb.out W2 (Kept.refl _ _)) (fun e => by cases e) (by omega))
  rw [← hNM] at CS
  have HIL : Hid ((img P).length ≤ 1073741824) := hideP (by rw [← hM]; omega)
  clear hg hib hGb hk2 HFI HFO hf0 hPe hM hNM HK1
  go_wp2_with (go_at_call 6; refine StpQ.go ?_)
  refine ⟨?_⟩
  refine CS.out.mono ?_
  clear CS
  rintro e W3 ⟨g, gc, rfl, hG3⟩
  have HG3 := hideP hG3
  have hk3 := HK2.out.trans hG3.kept (fun _ f => f.elim)
  have HK3 := hideP hk3
  have hXl : (M ++ mibs mk 7 80).length = N + 80 := by rw [List.length_append, mibs_length, HNM.out]
  have HBf : Hid (BytesAt W3 (some ⟨g, 0, none⟩) (M ++ mibs mk 7 80)) := hideP (gro_bytes hG3).1
  have HBi : Hid (BytesAt W3 (some ⟨g, 0, none⟩) M) := hideP (fun hne => by
    obtain ⟨b, off, e, hc⟩ := HBf.out (by intro e; rw [List.append_eq_nil_iff] at e; exact hne e.1)
    refine ⟨b, off, e, fun j hj => ?_⟩
    have := hc j (by rw [List.length_append]; omega)
    rw [List.getElem?_append_left hj] at this
    exact this)
  have hg3 : W2.heap.size ≤ g ∧ g < W3.heap.size := hG3.own.lt g rfl
  have CO := hideP (copen_goodG P (some ⟨g, 0, none⟩) N gc ad W3 (by rw [HNM.out, HMi.out]) (by rw [← HMi.out]; exact HBi.out) HG.out HIL.out (HE.out.kept hk3).toQ)
  clear hG3 hk3
  go_wp2_with (go_at_call 7; refine StpQ.go ?_)
  refine ⟨?_⟩
  refine CO.out.mono ?_
  clear CO
  rintro e W4 ⟨cb, bl, gi, X, rfl, hA, hOG, hgi, hcb, kX, k4⟩
  have CKp := hideP (keptB_any mk HM.out M g gc (some ⟨gb, 0, none⟩) gbc N (N + 80) W4 (HBf.out.kept k4) (HBb.out W4 (HG3.out.kept.trans k4 (fun _ f => f.elim))) HNM.out rfl (by rw [← HNM.out]; omega))
  have HA := hideP hA
  have HOG := hideP hOG
  have HKX := hideP kX
  have HK4 := hideP k4
  clear hA hOG kX k4 HBi
  go_wp2_with (go_at_call 8; refine StpQ.go ?_)
  refine ⟨?_⟩
  refine CKp.out.mono ?_
  clear CKp
  rintro e W5 ⟨rfl, k5⟩
  have HA5 := hideP (HA.out.later k5)
  have HG5 : Hid (Gro W2 W5 5 1 (.slice (some ⟨g, 0, none⟩) (N + 80) gc) (N + 80) (bs (M ++ mibs mk 7 80))) := hideP (HG3.out.later (HK4.out.trans k5 (fun _ f => f.elim)))
  have HXB : Hid (∀ o, o < N + 80 → ∃ x, X.cell? ⟨g, o, none⟩ = some (.int .u8 x)) := hideP (fun o ho => by
    obtain ⟨b, off, e, hc⟩ := HBf.out.kept HKX.out (by intro e; have := congrArg List.length e; rw [hXl] at this; simp at this)
    injection e with e
    injection e with e1 e2
    subst e1 e2
    have := hc o (by rw [hXl]; exact ho)
    rw [Nat.zero_add] at this
    exact ⟨_, this⟩)
  obtain ⟨FM, hFM⟩ : ∃ FM, FM = M ++ mibs mk 7 80 := ⟨_, rfl⟩
  rw [← hFM] at HG5 hXl
  have HFM := hideP hFM
  clear k5 HA HG3 HBf hFM HBb
  go_wp2
  go_loopw [55] (fun s55 wr => ∃ i : Nat, i ≤ N + 80 ∧ s55 = .int .i64 i ∧ Hid (Kc g (N + 80) W5 wr) ∧ Hid (Gro W2 wr 5 1 (.slice (some ⟨g, 0, none⟩) (N + 80) gc) (N + 80) (bs (xol i FM)))) (fun s55 _ => N + 80 - (intOf s55).toNat)
  case atStart => exact ⟨0, by omega, rfl, hideP (Kc.refl _ _ _), by rw [xol_zero]; exact HG5⟩
  case round =>
  obtain ⟨i, hi, rfl, HC, HGi⟩ := hrel
  clear HG5
  by_cases hlt : i < N + 80
  · obtain ⟨x1, x2⟩ := xol_succ i FM (by rw [hXl]; exact hlt)
    have y0 := HGi.out.at (j := i) (u := .int .u8 (FM[i]?.getD 0)) (by unfold bs; rw [List.getElem?_map, x2]; rfl)
    obtain ⟨q1, q2⟩ := HGi.out.set i (.int .u8 (bits .xor .u8 (FM[i]?.getD 0) 60))
    have e3 : (bs (xol i FM)).set i (.int .u8 (bits .xor .u8 (FM[i]?.getD 0) 60)) = bs (xol (i + 1) FM) := by rw [← x1]; unfold bs; rw [List.map_set]
    rw [e3] at q1
    have HC1 := hideP (HC.out.set hlt (.int .u8 (bits .xor .u8 (FM[i]?.getD 0) 60)))
    have HG1 := hideP q1
    generalize FM[i]?.getD 0 = y at *
    have i1 : (i : Int) < (N : Int) + 80 := by omega
    have i2 : (i : Int) < ((N + 80 : Nat) : Int) := by omega
    clear x1 x2 q1 e3 HC HGi
    go_wp2
    go_roundw
    case rel => exact ⟨i + 1, by omega, by go_num, HC1, HG1⟩
    case measure => simp [intOf]; omega
  obtain rfl : i = N + 80 := by omega
  rw [show xol (N + 80) FM = FM.map (fun x => bits .xor .u8 x 60) by rw [← hXl]; exact xol_all FM] at HGi
  obtain ⟨W6, hW6⟩ : ∃ W6, W6 = wr := ⟨_, rfl⟩
  rw [← hW6] at HC HGi ⊢
  have i1 : ¬ ((N + 80 : Nat) : Int) < (N : Int) + 80 := by omega
  have i2 : ¬ ((N + 80 : Nat) : Int) < ((N + 80 : Nat) : Int) := by omega
  have hgX : g < X.heap.size := Nat.lt_of_lt_of_le hg3.2 HKX.out.size
  have hcbg : cb ≠ g := by omega
  have hA6 := HA5.out.spoil HOG.out hgX HC.out HXB.out (by omega) hcbg
  have HS6 := hideP hA6.toS
  have hX6 : Kept (fun _ => False) w (wsetM X W6 g) := (HK3.out.trans HKX.out (fun _ f => f.elim)).trans (wsetM_kept X W6 g) (fun j hj => .inr (by rw [hj]; exact Nat.le_trans HK2.out.size hg3.1))
  have HE6 := hideP (HE.out.kept hX6).toQ
  obtain ⟨X', hX'⟩ : ∃ X', X' = wsetM X W6 g := ⟨_, rfl⟩
  rw [← hX'] at HS6 HE6
  have hXs : X'.heap.size ≤ cb := by rw [hX', wsetM_size]; exact HA5.out.new
  have HKw6 : Hid (Kept (fun _ => False) w W6) := hideP (HK2.out.trans HGi.out.kept (fun _ f => f.elim))
  have hcbl : cb < W6.heap.size := by
    obtain ⟨nb, bv, pa, pc, h, -, -⟩ := HS6.out
    exact lt_of_block h.obj
  obtain ⟨XI, hXI⟩ : ∃ XI : List Int, XI = M.map (fun x => bits .xor .u8 x 60) := ⟨_, rfl⟩
  have HXl : Hid (N = XI.length) := hideP (by rw [hXI, List.length_map]; exact HNM.out)
  have HXb : Hid (IsBytes XI) := hideP (by
    rw [hXI]
    intro y hy
    obtain ⟨x, _, rfl⟩ := List.mem_map.1 hy
    exact xor_byte x)
  have HXi : Hid (∀ V, Kept (fun k => k = cb) W6 V → BytesAt V (some ⟨g, 0, none⟩) XI) := hideP (fun V k hne => by
    refine ⟨g, 0, rfl, fun j hj => ?_⟩
    rw [Nat.zero_add]
    refine k.cell (HGi.out.at (j := j) (u := .int .u8 (XI[j]?.getD 0)) ?_) (fun e => hcbg e.symm)
    rw [hXI, List.length_map] at hj
    unfold bs
    rw [List.getElem?_map, List.getElem?_map, HFM.out, List.getElem?_append_left hj, hXI, List.getElem?_map, List.getElem?_eq_getElem hj]
    rfl)
  have hsz6 : w.heap.size ≤ W6.heap.size := HKw6.out.size
  have hwcb : w.heap.size ≤ cb := Nat.le_trans HK3.out.size hcb
  clear hW6 hlt hi hA6 hX6 hX' hXI HC HGi HA5 HOG HKX HK4 HXB HK3 HIB HFM hXl HK2 HGb hgX
  go_wp2
  go_loopw [14, 67] (fun s14 s67 wr => ∃ (i mv : Nat) (ask : Bool) (F : Nat → Prop) (S : List Il) (v : Value), i ≤ n ∧ mv ≤ i * 1048577 ∧ S.length ≤ 3 * i ∧ s14 = v ∧ s67 = .int .i64 i ∧ Hid (CuS ⟨X', F⟩ wr cb bl P i mv ask) ∧ Hid (∀ k, v.ownBlock = some k → ¬ F k) ∧ Hid (Rws W6.heap.size wr v S.length S) ∧ Hid (∀ x ∈ S, x.l.length ≤ 1048576) ∧ Hid (Kept (fun k => k = cb) W6 wr) ∧ Hid (S = [] → v = .slice none 0 0)) (fun _ s67 _ => n - (intOf s67).toNat)
  case atStart => exact ⟨0, 0, false, allB, [], _, by omega, by omega, by simp, rfl, rfl, HS6, hideP (fun k hk => by simp [Value.ownBlock] at hk), hideP (Rws.nil _ _), hideP (fun x hx => by cases hx), hideP (Kept.refl _ _), hideP (fun _ => rfl)⟩
  case round =>
  obtain ⟨i, mv, ask, F, S, v, hi, hmv, hSl, hs14, rfl, HS, HF, HR, HSb, HK, HSn⟩ := hrel
  subst hs14
  clear HS6
  have hmvb : mv ≤ 2000000000000 := by
    have : i * 1048577 ≤ 1048576 * 1048577 := Nat.mul_le_mul_right _ (by omega)
    omega
  obtain ⟨Wy, hWy⟩ : ∃ Wy, Wy = wr := ⟨_, rfl⟩
  rw [← hWy] at HS HR HK ⊢
  clear hWy
  by_cases hlt : i < n
  · have hiP : i < P.length := by have := HPn.out; omega
    have hiL : i < PL.length := by rw [← HN.out]; exact hlt
    obtain ⟨b, off, rfl, hc⟩ := HP.out (by intro e; rw [e] at hiL; simp at hiL)
    obtain ⟨x0, x1, x2⟩ := hc i hiL
    have kwy : Kept (fun _ => False) w Wy := HKw6.out.trans HK.out (fun j hj => .inr (by omega))
    have y0 := kwy.cell x0 (fun f => f)
    have y1 := kwy.cell x1 (fun f => f)
    have hpo : PL[i].d = P[i].d ∧ PL[i].ps = P[i].ps := by
      have e : (pol PL)[i]? = P[i]? := by rw [HPe.out]
      unfold pol at e
      rw [List.getElem?_map, List.getElem?_eq_getElem hiL, List.getElem?_eq_getElem hiP] at e
      have e := Option.some.inj e
      rw [← e]
      exact ⟨rfl, rfl⟩
    obtain ⟨hdu, hpu⟩ := dpU_at hiP
    have hpl2 := ps_le hiP
    have hpne := ps_ne hiP HG.out
    rw [hpo.1] at y0
    rw [hpo.2] at y1 x2
    have HX2 := hideP x2
    have HKwy := hideP kwy
    obtain ⟨d, hd⟩ : ∃ d, d = P[i].d := ⟨_, rfl⟩
    obtain ⟨ps, hps⟩ : ∃ ps, ps = P[i].ps := ⟨_, rfl⟩
    rw [← hd] at y0 hdu
    rw [← hps] at y1 hpu HX2 hpl2 hpne
    obtain ⟨pn, hpn⟩ : ∃ pn, pn = ps.length := ⟨_, rfl⟩
    rw [← hpn] at y1 hpl2
    have HPN := hideP hpn
    generalize PL[i].a = ga at *
    generalize PL[i].c = gac at *
    have HDU := hideP hdu
    have HPU := hideP hpu
    have HPNE := hideP hpne
    have hii : (i : Int) < (n : Int) := by omega
    have hpn0 : 0 < pn := by rw [hpn]; exact List.length_pos_iff.2 hpne
    have hpt : pn ≤ 1048576 := by omega
    clear hc x0 x1 x2 hpo hd hps hpn hdu hpu kwy hpne
    have HBx := hideP (heap_alloc_new Wy (.cells #[.int .i64 d, .slice ga pn gac] 38))
    have HSp := hideP (HS.out.later (Kept.alloc Wy (.cells #[.int .i64 d, .slice ga pn gac] 38)))
    have hcw : cb < Wy.heap.size := Nat.lt_of_lt_of_le hcbl HK.out.size
    have hl6 : W6.heap.size ≤ Wy.heap.size := HK.out.size
    have hB6 : Hid (Wy.heap.size ≠ cb) := hideP (by omega)
    have hS6 : (Wy.alloc (.cells #[.int .i64 d, .slice ga pn gac] 38)).drew.heap[Wy.heap.size]? = some (.cells #[.int .i64 d, .slice ga pn gac] 38 (0, 0)) := HBx.out
    have HSq := hideP (HSp.out.later (Kept.drew _))
    have HKq : Hid (Kept (fun _ => False) Wy (Wy.alloc (.cells #[.int .i64 d, .slice ga pn gac] 38)).drew) := hideP ((Kept.alloc Wy _).trans (Kept.drew _) (fun _ f => f.elim))
    clear HSp HBx
    go_wp2_with fail
    refine wp_region_held (S := fun V => V.heap[Wy.heap.size]? = some (.cells #[.int .i64 d, .slice ga pn gac] 38 (0, 0))) (by kernel_rfl) ?_
    change wpAnyH _ _ _ _ _ _ _ _ (World.drew _)
    generalize (Wy.alloc (.cells #[.int .i64 d, .slice ga pn gac] 38)).drew = V0 at *
    have CN := hideP (cnext_in V0 ad HSq.out (by have := HPn.out; omega) (by omega) (by have := HPn.out; omega) HG.out HIL.out HE6.out)
    rw [HDU.out] at CN
    refine takeZ (i := 0) (d := 71) (v := .pointer (some ⟨cb, 0, none⟩)) rfl rfl (by kernel_rfl) (by kernel_rfl) (by kernel_rfl) (fun _ _ _ h => h) (Or.inl ⟨by rfl, fun W hW => ?_⟩) hS6 ?_
    · (go_simp)
    simp only [Act.put, List.setIfInBounds_toArray, List.set_cons_zero, List.set_cons_succ]
    refine takeZ (i := 2) (d := 73) (v := .pointer (some ⟨Wy.heap.size, 0, none⟩)) rfl rfl (by kernel_rfl) (by kernel_rfl) (by kernel_rfl) (fun _ _ _ h => h) (Or.inl ⟨by rfl, fun W hW => ?_⟩) hS6 ?_
    · (go_simp)
    simp only [Act.put, List.setIfInBounds_toArray, List.set_cons_zero, List.set_cons_succ]
    refine takeZ (i := 3) (d := 74) (v := .int .i64 d) rfl rfl (by kernel_rfl) (by kernel_rfl) (by kernel_rfl) (fun _ _ _ h => h) (Or.inl ⟨by rfl, fun W hW => ?_⟩) hS6 ?_
    · (have q1 := (row2 hW).1.1; go_simp)
    simp only [Act.put, List.setIfInBounds_toArray, List.set_cons_zero, List.set_cons_succ]
    refine wpAnyH_all (rs := [1]) (by kernel_rfl) (by simp) ?_
    intro i' hi'
    obtain rfl : i' = 1 := by simpa using hi'
    unfold wpOp
    go_simp
    first | refine CN.out.mono ?_ | refine Or.inl (CN.out.mono ?_)
    clear CN
    rintro e V1 ⟨rfl, hS1, k1⟩
    have hS7 := k1.heap hS6 hB6.out
    refine ⟨hS7, ?_⟩
    have HS1 := hideP hS1
    have HK1 : Hid (Kept (fun k => k = cb) Wy V1) := hideP ((HKq.out.mono (fun _ f => f.elim)).trans k1 (fun _ h => .inl h))
    have hv1 : W6.heap.size ≤ V1.heap.size := Nat.le_trans hl6 HK1.out.size
    have CT := hideP (cpos_false V1 hS1 (by rw [HPU.out, ← HPN.out]; omega) (by omega))
    clear hS1 k1 hS6
    refine takeZ (i := 4) (d := 75) (v := .bool false) rfl rfl (by kernel_rfl) (by kernel_rfl) (by kernel_rfl) (fun _ _ _ h => h) (Or.inl ⟨by rfl, fun W hW => ?_⟩) hS7 ?_
    · (go_simp; first | done | simp)
    simp only [Act.put, List.setIfInBounds_toArray, List.set_cons_zero, List.set_cons_succ]
    refine wpAnyH_done (by kernel_rfl) ?_ _
    have HB7 := hideP hS7
    clear hS7 HSq HKq
    go_wp2_with (go_at_call 10; refine StpQ.go ?_)
    refine ⟨?_⟩
    refine CT.out.mono ?_
    clear CT
    rintro e V2 ⟨xa, xc, rfl, hx1, hx2, hS2, k2⟩
    obtain ⟨xg, hxg, hxs, hxo⟩ := hx2 (by rw [HPU.out]; exact HPNE.out)
    rw [HPU.out] at hx1 hxo hS2 ⊢
    rw [← HPN.out] at hxo hS2 ⊢
    subst hxg
    have HX1 := hideP hx1
    have HXO := hideP hxo
    have HB8 := hideP (k2.heap HB7.out hB6.out)
    have HK2 : Hid (Kept (fun k => k = cb) Wy V2) := hideP (HK1.out.trans k2 (fun _ h => .inl h))
    have CT := hideP (cpos_true V2 hS2 (by rw [HPU.out, ← HPN.out]; omega))
    have hv2 : W6.heap.size ≤ V2.heap.size := Nat.le_trans hl6 HK2.out.size
    have hxl : xg < V2.heap.size := (hxo.lt xg rfl).2
    have hxs2 := Nat.le_trans HK1.out.size hxs
    clear hx1 hx2 hS2 k2 HB7 hxo HS1
    go_wp2_with (go_at_call 10; refine StpQ.go ?_)
    refine ⟨?_⟩
    refine CT.out.mono ?_
    clear CT
    rintro e V3 ⟨ya, yc, rfl, hy1, hy2, hS3, k3⟩
    obtain ⟨yg, hyg, hys, hyo⟩ := hy2 (by rw [HPU.out]; exact HPNE.out)
    rw [HPU.out] at hy1 hyo ⊢
    rw [← HPN.out] at hyo ⊢
    subst hyg
    have HY1 := hideP hy1
    have HYO := hideP hyo
    have HB9 := hideP (k3.heap HB8.out hB6.out)
    have HX13 : Hid (IntsAt V3 (some ⟨xg, 0, none⟩) ps) := hideP (ints_step HX1.out k3 (fun _ => ⟨xg, 0, rfl, by omega⟩))
    have HXO3 := hideP (k3.row HXO.out (fun j hj e => by simp only [Value.ownBlock, Option.some.injEq] at hj; omega))
    have HK3 : Hid (Kept (fun k => k = cb) Wy V3) := hideP (HK2.out.trans k3 (fun _ h => .inl h))
    have CT := hideP (cpos_true V3 hS3 (by rw [HPU.out, ← HPN.out]; omega))
    have hv3 : W6.heap.size ≤ V3.heap.size := Nat.le_trans hl6 HK3.out.size
    have hyl : yg < V3.heap.size := (hyo.lt yg rfl).2
    have hys2 := Nat.le_trans HK2.out.size hys
    clear hy1 hy2 hS3 k3 HB8 hyo HX1 HXO
    go_wp2_with (go_at_call 10; refine StpQ.go ?_)
    refine ⟨?_⟩
    refine CT.out.mono ?_
    clear CT
    rintro e V4 ⟨za, zc, rfl, hz1, hz2, hS4, k4⟩
    obtain ⟨zg, hzg, hzs, hzo⟩ := hz2 (by rw [HPU.out]; exact HPNE.out)
    rw [HPU.out] at hz1 hzo ⊢
    rw [← HPN.out] at hzo ⊢
    subst hzg
    have HZ1 := hideP hz1
    have HZO := hideP hzo
    have HB10 := hideP (k4.heap HB9.out hB6.out)
    have HX14 : Hid (IntsAt V4 (some ⟨xg, 0, none⟩) ps) := hideP (ints_step HX13.out k4 (fun _ => ⟨xg, 0, rfl, by omega⟩))
    have HXO4 := hideP (k4.row HXO3.out (fun j hj e => by simp only [Value.ownBlock, Option.some.injEq] at hj; omega))
    have HY14 : Hid (IntsAt V4 (some ⟨yg, 0, none⟩) ps) := hideP (ints_step HY1.out k4 (fun _ => ⟨yg, 0, rfl, by omega⟩))
    have HYO4 := hideP (k4.row HYO.out (fun j hj e => by simp only [Value.ownBlock, Option.some.injEq] at hj; omega))
    have HK4 : Hid (Kept (fun k => k = cb) Wy V4) := hideP (HK3.out.trans k4 (fun _ h => .inl h))
    have HS4 := hideP hS4
    have hzl : zg < V4.heap.size := (hzo.lt zg rfl).2
    have hzs2 := Nat.le_trans HK3.out.size hzs
    have HG4 : Hid (IntsAt V4 ga ps) := hideP (HX2.out.kept (HKwy.out.trans HK4.out (fun j hj => .inr (by omega))))
    have CM : Hid (∀ m xg xc, IntsAt V4 (some ⟨xg, 0, none⟩) ps → Calls Tryz.prog 11 #[.slice (some ⟨xg, 0, none⟩) pn xc, .slice ga pn gac] (V4.drewN m) fun e w' => e = .returned (.bool true) ∧ ∃ m', w' = V4.drewN m') := hideP (fun m xg xc h => by
      have h2 := sameInts_true ps (some ⟨xg, 0, none⟩) ga xc gac (V4.drewN m) (h.kept (Kept.drewN V4 m)) (HG4.out.kept (Kept.drewN V4 m)) (by rw [← HPN.out]; omega)
      rw [← HPN.out] at h2
      refine h2.mono ?_
      rintro e w' ⟨rfl, m', rfl⟩
      exact ⟨rfl, m + m', by rw [World.drewN_drewN]⟩)
    have CMx := hideP (CM.out 0 xg xc HX14.out)
    have hb4 := (row2 HB10.out).1.2
    clear hz1 hz2 hS4 k4 HB9 hzo HX13 HXO3 HY1 HYO HK1 HK2 HK3 HG4
    go_wp2_with (go_at_call 11; refine StpQ.go ?_)
    refine ⟨?_⟩
    refine CMx.out.mono ?_
    clear CMx
    rintro e V5 ⟨rfl, m5, rfl⟩
    have CMy := hideP (CM.out m5 yg yc HY14.out)
    have hb5 := (row2 (show (V4.drewN m5).heap[Wy.heap.size]? = _ from HB10.out)).1.2
    go_wp2_with (go_at_call 11; refine StpQ.go ?_)
    refine ⟨?_⟩
    refine CMy.out.mono ?_
    clear CMy
    rintro e V6 ⟨rfl, m6, rfl⟩
    have CMz := hideP (CM.out m6 zg zc HZ1.out)
    have hb6 := (row2 (show (V4.drewN m6).heap[Wy.heap.size]? = _ from HB10.out)).1.2
    go_wp2_with (go_at_call 11; refine StpQ.go ?_)
    refine ⟨?_⟩
    refine CMz.out.mono ?_
    clear CMz CM
    rintro e V7 ⟨rfl, m7, rfl⟩
    have kd := Kept.drewN V4 m7
    have HS7 := hideP (HS4.out.later kd)
    have HXO7 := hideP (row_lower (kd.row HXO4.out (fun _ _ f => f)) (show W6.heap.size ≤ V1.heap.size by omega))
    have HYO7 := hideP (row_lower (kd.row HYO4.out (fun _ _ f => f)) (show W6.heap.size ≤ V2.heap.size by omega))
    have HZO7 := hideP (row_lower (kd.row HZO.out (fun _ _ f => f)) (show W6.heap.size ≤ V3.heap.size by omega))
    have HK7 : Hid (Kept (fun k => k = cb) Wy (V4.drewN m7)) := hideP (HK4.out.trans kd (fun _ f => f.elim))
    have hdz : (V4.drewN m7).heap.size = V4.heap.size := rfl
    generalize V4.drewN m7 = V7 at *
    obtain ⟨X1, hX1⟩ : ∃ X1 : Il, X1 = ⟨some ⟨xg, 0, none⟩, xc, ps⟩ := ⟨_, rfl⟩
    obtain ⟨Y1, hY1⟩ : ∃ Y1 : Il, Y1 = ⟨some ⟨yg, 0, none⟩, yc, ps⟩ := ⟨_, rfl⟩
    obtain ⟨Z1, hZ1⟩ : ∃ Z1 : Il, Z1 = ⟨some ⟨zg, 0, none⟩, zc, ps⟩ := ⟨_, rfl⟩
    have eX : svx X1 = .slice (some ⟨xg, 0, none⟩) pn xc := by rw [hX1, HPN.out]; rfl
    have eY : svx Y1 = .slice (some ⟨yg, 0, none⟩) pn yc := by rw [hY1, HPN.out]; rfl
    have eZ : svx Z1 = .slice (some ⟨zg, 0, none⟩) pn zc := by rw [hZ1, HPN.out]; rfl
    have rX : V7.ownsRow W6.heap.size 3 1 (svx X1) X1.l.length (is X1.l) := by rw [eX, hX1, ← HPN.out]; exact HXO7.out
    have rY : V7.ownsRow W6.heap.size 3 1 (svx Y1) Y1.l.length (is Y1.l) := by rw [eY, hY1, ← HPN.out]; exact HYO7.out
    have rZ : V7.ownsRow W6.heap.size 3 1 (svx Z1) Z1.l.length (is Z1.l) := by rw [eZ, hZ1, ← HPN.out]; exact HZO7.out
    have HR7 := hideP (HR.out.step HK7.out (fun j hj => by omega))
    have bX : ∀ j, (svx X1).ownBlock = some j → j = xg := fun j hj => by rw [eX] at hj; simpa [Value.ownBlock] using hj.symm
    have bY : ∀ j, (svx Y1).ownBlock = some j → j = yg := fun j hj => by rw [eY] at hj; simpa [Value.ownBlock] using hj.symm
    have bZ : ∀ j, (svx Z1).ownBlock = some j → j = zg := fun j hj => by rw [eZ] at hj; simpa [Value.ownBlock] using hj.symm
    have old : ∀ x ∈ S, ∀ j, (svx x).ownBlock = some j → j < Wy.heap.size := fun x hx j hj => ((HR.out.row x hx).lt j hj).2
    have oldv : ∀ j, u14.ownBlock = some j → j < Wy.heap.size := fun j hj => (HR.out.own.lt j hj).2
    have HTW : Hid ((S ++ [X1, Y1]).Pairwise (fun x y => Apa (svx x) (svx y))) := hideP (List.pairwise_append.2 ⟨HR.out.two, List.pairwise_cons.2 ⟨fun y hy j hj hj' => by
      have ey : y = Y1 := by simpa using hy
      subst ey
      have := bX j hj
      have := bY j hj'
      omega, List.pairwise_cons.2 ⟨fun y hy => (by cases hy), List.Pairwise.nil⟩⟩, fun x hx y hy j hj hj' => by
      have h1 := old x hx j hj
      have hy2 : y = X1 ∨ y = Y1 := by simpa using hy
      rcases hy2 with rfl | rfl
      · have := bX j hj'
        omega
      · have := bY j hj'
        omega⟩)
    have HRw : Hid (∀ y ∈ [X1, Y1], V7.ownsRow W6.heap.size 3 1 (svx y) y.l.length (is y.l)) := hideP (fun y hy => by
      have hy2 : y = X1 ∨ y = Y1 := by simpa using hy
      rcases hy2 with rfl | rfl
      · exact rX
      · exact rY)
    have HFw : Hid (∀ y ∈ [X1, Y1], Apa u14 (svx y)) := hideP (fun y hy j hj hj' => by
      have h1 := oldv j hj
      have hy2 : y = X1 ∨ y = Y1 := by simpa using hy
      rcases hy2 with rfl | rfl
      · have := bX j hj'
        omega
      · have := bY j hj'
        omega)
    have hcs : Hid (#[Value.slice (some ⟨xg, 0, none⟩) pn xc, Value.slice (some ⟨yg, 0, none⟩) pn yc] = (svl [X1, Y1]).toArray) := hideP (by
      have e : svl [X1, Y1] = [svx X1, svx Y1] := rfl
      rw [e, eX, eY])
    have HV7 : Hid (V7.heap.size = V4.heap.size) := hideP hdz
    have HEX := hideP hX1
    have HEY := hideP hY1
    have HEZ := hideP hZ1
    have HeZ := hideP eZ
    have hW7 : W6.heap.size ≤ V7.heap.size := by have := HK7.out.size; omega
    have HRZ := hideP rZ
    have HbZ := hideP bZ
    have HbX := hideP bX
    have HbY := hideP bY
    have Hold := hideP old
    clear HB10 hb4 hb5 hb6 kd HX14 HXO4 HY14 HYO4 HZ1 HZO HXO7 HYO7 HZO7 rX rY rZ bX bY bZ old HS4 HK4 hdz hX1 hY1 hZ1 eX eY eZ
    go_wp2_with (at_builtin; refine StpQ.go ?_)
    refine ⟨?_⟩
    refine wpList_pushRw rfl _ _ rfl W6.heap.size u14 S.length S [X1, Y1] rfl HR7 HRw HTW HFw _ 2 rfl rfl rfl (by decide) hW7 (by omega) _ hcs.out ?_
    intro gk ck W8 HR8 hk8 hat8
    have kG : ∀ j, u14.ownBlock = some j → X'.heap.size ≤ j ∧ j ≠ cb ∧ ¬ F j := fun j hj => by
      have h1 := (HR7.out.own.lt j hj).1
      exact ⟨by omega, by omega, HF.out j hj⟩
    have HS8 := hideP (HS7.out.cut hk8.out kG)
    have HF8 : Hid (∀ j, (Value.slice (some ⟨gk, 0, none⟩) (S.length + 2) ck).ownBlock = some j → ¬ ((F j ∧ j < V7.heap.size) ∨ W8.heap.size ≤ j)) := hideP (fun j hj hor => by
      have h1 := (HR8.out.own.lt j hj).2
      have ej : gk = j := by simpa [Value.ownBlock] using hj
      subst ej
      rcases hor with ⟨q1, q2⟩ | q
      · rcases hat8.out with q3 | q3
        · exact HF.out gk q3 q1
        · omega
      · omega)
    have HK8 : Hid (Kept (fun k => k = cb) W6 W8) := hideP ((HK.out.trans HK7.out (fun _ h => .inl h)).trans hk8.out (fun j hj => .inr (HR7.out.own.lt j hj).1))
    have HSb8 : Hid (∀ x ∈ S ++ [X1, Y1], x.l.length ≤ 1048576) := hideP (fun x hx => by
      rcases List.mem_append.1 hx with q | q
      · exact HSb.out x q
      · have q2 : x = X1 ∨ x = Y1 := by simpa using q
        rcases q2 with rfl | rfl
        · rw [HEX.out]; simp only; rw [← HPN.out]; exact hpt
        · rw [HEY.out]; simp only; rw [← HPN.out]; exact hpt)
    have HSl2 : Hid ((S ++ [X1, Y1]).length = S.length + 2) := hideP (by simp)
    have hmv2 : mv + 1 + pn ≤ (i + 1) * 1048577 := by rw [Nat.succ_mul]; omega
    obtain ⟨F8, hF8⟩ : ∃ F8 : Nat → Prop, F8 = fun j => (F j ∧ j < V7.heap.size) ∨ W8.heap.size ≤ j := ⟨_, rfl⟩
    rw [← hF8] at HS8
    have HF8' : Hid (∀ j, (Value.slice (some ⟨gk, 0, none⟩) (S.length + 2) ck).ownBlock = some j → ¬ F8 j) := hideP (by rw [hF8]; exact HF8.out)
    have HRZ8 : Hid (W8.ownsRow W6.heap.size 3 1 (svx Z1) Z1.l.length (is Z1.l)) := hideP (hk8.out.row HRZ.out (fun j hj f => by
      have h1 := HbZ.out j hj
      have h2 := oldv j f
      omega))
    have hz7 : zg < V7.heap.size := by have := HV7.out; omega
    have HgZ : Hid (gk ≠ zg) := hideP (by
      rcases hat8.out with q3 | q3
      · have := oldv gk q3
        omega
      · omega)
    have hs8 : W6.heap.size ≤ W8.heap.size := HK8.out.size
    clear HTW HRw HFw hcs HR7 hk8 hat8 kG HF8 HS7 HR hF8 HK7 HF
    by_cases h12 : S.length + 2 < 12
    · have HTZ : Hid (((S ++ [X1, Y1]) ++ [Z1]).Pairwise (fun x y => Apa (svx x) (svx y))) := hideP (List.pairwise_append.2 ⟨HR8.out.two, List.pairwise_cons.2 ⟨fun y hy => (by cases hy), List.Pairwise.nil⟩, fun x hx y hy j hj hj' => by
        have ey : y = Z1 := by simpa using hy
        subst ey
        have h2 := HbZ.out j hj'
        rcases List.mem_append.1 hx with q | q
        · have := Hold.out x q j hj
          omega
        · have q2 : x = X1 ∨ x = Y1 := by simpa using q
          rcases q2 with rfl | rfl
          · have := HbX.out j hj
            omega
          · have := HbY.out j hj
            omega⟩)
      have HRz : Hid (∀ y ∈ [Z1], W8.ownsRow W6.heap.size 3 1 (svx y) y.l.length (is y.l)) := hideP (fun y hy => by
        have ey : y = Z1 := by simpa using hy
        subst ey
        exact HRZ8.out)
      have HFz : Hid (∀ y ∈ [Z1], Apa (Value.slice (some ⟨gk, 0, none⟩) (S.length + 2) ck) (svx y)) := hideP (fun y hy j hj hj' => by
        have ey : y = Z1 := by simpa using hy
        subst ey
        have h2 := HbZ.out j hj'
        have ej : gk = j := by simpa [Value.ownBlock] using hj
        exact HgZ.out (ej.trans h2))
      have hcz : Hid (#[Value.slice (some ⟨zg, 0, none⟩) pn zc] = (svl [Z1]).toArray) := hideP (by
        have e : svl [Z1] = [svx Z1] := rfl
        rw [e, HeZ.out])
      have i3 : ((S.length + 2 : Nat) : Int) < 12 := by omega
      have i4 : (S.length : Int) + 2 < 12 := by omega
      go_wp2_with (at_builtin; refine StpQ.go ?_)
      refine ⟨?_⟩
      refine wpList_pushRw rfl _ _ rfl W6.heap.size (.slice (some ⟨gk, 0, none⟩) (S.length + 2) ck) (S.length + 2) (S ++ [X1, Y1]) [Z1] rfl HR8 HRz HTZ HFz _ 1 rfl rfl rfl (by decide) hs8 (by omega) _ hcz.out ?_
      intro gl cl W9 HR9 hk9 hat9
      have HS9 := hideP (HS8.out.cut hk9.out (fun j hj => by
        have h1 := (HR8.out.own.lt j hj).1
        exact ⟨by omega, by omega, HF8'.out j hj⟩))
      have HF9 : Hid (∀ j, (Value.slice (some ⟨gl, 0, none⟩) (S.length + 2 + 1) cl).ownBlock = some j → ¬ ((F8 j ∧ j < W8.heap.size) ∨ W9.heap.size ≤ j)) := hideP (fun j hj hor => by
        have h1 := (HR9.out.own.lt j hj).2
        have ej : gl = j := by simpa [Value.ownBlock] using hj
        subst ej
        rcases hor with ⟨q1, q2⟩ | q
        · rcases hat9.out with q3 | q3
          · exact HF8'.out gl q3 q1
          · omega
        · omega)
      have HK9 : Hid (Kept (fun k => k = cb) W6 W9) := hideP (HK8.out.trans hk9.out (fun j hj => .inr (HR8.out.own.lt j hj).1))
      have HSb9 : Hid (∀ x ∈ (S ++ [X1, Y1]) ++ [Z1], x.l.length ≤ 1048576) := hideP (fun x hx => by
        rcases List.mem_append.1 hx with q | q
        · exact HSb8.out x q
        · have ex : x = Z1 := by simpa using q
          rw [ex, HEZ.out]; simp only; rw [← HPN.out]; exact hpt)
      have HSl3 : Hid (((S ++ [X1, Y1]) ++ [Z1]).length = S.length + 2 + 1) := hideP (by simp)
      clear HTZ HRz HFz hcz hk9 hat9 HR8 HS8
      go_wp2
      go_roundw
      case rel => exact ⟨i + 1, mv + 1 + pn, true, _, (S ++ [X1, Y1]) ++ [Z1], _, by omega, hmv2, by rw [HSl3.out]; omega, rfl, by go_num, HS9, HF9, by rw [HSl3.out]; exact HR9, HSb9, HK9, hideP (fun e => by simp at e)⟩
      case measure => simp [intOf]; omega
    · have i3 : ¬ ((S.length + 2 : Nat) : Int) < 12 := by omega
      have i4 : ¬ (S.length : Int) + 2 < 12 := by omega
      go_wp2
      go_roundw
      case rel => exact ⟨i + 1, mv + 1 + pn, true, F8, S ++ [X1, Y1], _, by omega, hmv2, by rw [HSl2.out]; omega, rfl, by go_num, HS8, HF8', by rw [HSl2.out]; exact HR8, HSb8, HK8, hideP (fun e => by simp at e)⟩
      case measure => simp [intOf]; omega
  obtain rfl : i = n := by omega
  have hii : ¬ (i : Int) < (i : Int) := by omega
  have HKwy : Hid (Kept (fun _ => False) w Wy) := hideP (HKw6.out.trans HK.out (fun j hj => .inr (by omega)))
  have HXy := hideP (HXi.out Wy HK.out)
  have HXy2 := hideP (HXy.out.kept (Kept.alloc Wy (.cells #[] 5)))
  have HGE := hideP (gro_empty Wy Wy 5 1 (Kept.refl _ _))
  have HZ0 : Hid ((some ⟨g, 0, none⟩ : Option Addr) = none → gc = 0) := hideP (fun e => by cases e)
  obtain ⟨cd, hcd⟩ : ∃ cd : Nat, cd = (match opn XI with | none => 10 | some _ => 0) := ⟨_, rfl⟩
  have CD : Hid (∀ a1 c1 V, BytesAt V a1 XI → Calls Tryz.prog 12 #[.slice a1 N c1] V fun e w' => ∃ sl, e = .returned (.tuple #[sl, .int .i64 (cd : Nat)]) ∧ Kept (fun _ => False) V w') := hideP (fun a1 c1 V hB => by
    refine (ddec_any XI a1 N c1 V HXl.out hB HXb.out (by rw [← HXl.out]; exact hil)).mono ?_
    rw [hcd]
    cases opn XI with
    | none =>
      rintro e w' ⟨rfl, k⟩
      exact ⟨_, rfl, k⟩
    | some Q =>
      rintro e w' ⟨PL', va, vc, _, rfl, _, k⟩
      exact ⟨_, rfl, k⟩)
  have CO : Hid (∀ V, Kept (fun _ => False) Wy V → Calls Tryz.prog 7 #[.slice (some ⟨g, 0, none⟩) N gc] V fun e w' => ∃ ptr err, e = .returned (.tuple #[ptr, err]) ∧ Kept (fun _ => False) V w' ∧ Calls Tryz.prog 13 #[err] w' fun e w'' => e = .returned (.int .i64 (cd : Nat)) ∧ w'' = w') := hideP (fun V k => by
    have hB := HXy.out.kept k
    have hEV := HE.out.kept (HKwy.out.trans k (fun _ f => f.elim))
    rw [HXl.out, hcd]
    cases ho : opn XI with
    | none =>
      refine (copen_bad XI (some ⟨g, 0, none⟩) gc ad V hB HXb.out (by rw [← HXl.out]; omega) ho hEV.toQ).mono ?_
      rintro e w' ⟨rfl, k2⟩
      exact ⟨_, _, rfl, k2, num_corrupt (hEV.kept k2)⟩
    | some Q =>
      obtain ⟨hP1, hP2, -⟩ := opn_back HXb.out ho
      have h := copen_good Q (some ⟨g, 0, none⟩) gc ad V (by rw [← hP1]; exact hB) hP2 (by rw [← hP1, ← HXl.out]; omega) hEV.toQ
      rw [← hP1] at h
      refine h.mono ?_
      rintro e w' ⟨cb', bl', W0', rfl, _, _, _, k2⟩
      exact ⟨_, _, rfl, k2, num_nil w'⟩)
  have z1 : (((cd : Nat) : Int) != ((cd : Nat) : Int)) = false := by simp
  clear hlt hi hmv hmvb HS HF HXi HXb hcd HXy HG HIL HE6 HP HPe
  go_wp2_with (at_builtin; refine StpQ.go ?_)
  refine ⟨?_⟩
  refine wpList_catYB rfl _ _ rfl _ 0 [] XI rfl HGE (some ⟨g, 0, none⟩) N gc rfl HXl HXy2 HZ0 (by omega) ?_
  clear HGE HXy2 HZ0
  intro a1 c1 W7 HG7 _
  rw [Nat.zero_add, List.nil_append] at HG7
  rw [Nat.zero_add]
  have CD7 := hideP (CD.out a1 c1 W7 (gro_bytes HG7.out).1)
  have HK7 := hideP HG7.out.kept
  clear CD HG7
  go_wp2_with (go_at_call 12; refine StpQ.go ?_)
  refine ⟨?_⟩
  refine CD7.out.mono ?_
  clear CD7
  rintro e W8 ⟨sl, rfl, k8⟩
  have hk8 := HK7.out.trans k8 (fun _ f => f.elim)
  have CO8 := hideP (CO.out W8 hk8)
  have HK8 := hideP hk8
  clear CO k8 hk8 HK7
  go_wp2_with (go_at_call 7; refine StpQ.go ?_)
  refine ⟨?_⟩
  refine CO8.out.mono ?_
  clear CO8
  rintro e W9 ⟨ptr, err, rfl, k9, hnum⟩
  have CN9 := hideP hnum
  have HK9 := hideP (HK8.out.trans k9 (fun _ f => f.elim))
  clear k9 hnum HK8
  have CW : Hid (Calls Tryz.prog 14 #[u14] W9 fun e w' => e = .returned (.bool true) ∧ Kept (fun _ => False) w w') := hideP (by
    have hR9 := HR.out.step HK9.out (fun _ f => f.elim)
    have kw9 := HKwy.out.trans HK9.out (fun _ f => f.elim)
    rcases Nat.eq_zero_or_pos S.length with q0 | q0
    · rw [HSn.out (List.eq_nil_of_length_eq_zero q0)]
      exact (ownI_nil W9).mono (fun e w' q => ⟨q.1, kw9.trans q.2 (fun _ f => f.elim)⟩)
    · rcases hR9.own.2 with ⟨e1, e2⟩ | ⟨gg, cap, cur, e1, _⟩
      · omega
      · rw [e1] at hR9 ⊢
        obtain ⟨o1, o2⟩ := hR9.owi
        refine (ownI_any mk HM.out (svl S) _ gg 0 cap S.length W9 o1 o2 (svl_len S).symm q0 (by omega) (fun t ht => ?_) (hR9.own.lt gg rfl).2).mono ?_
        · rw [List.getElem?_eq_getElem ht]
          have := HSb.out _ (List.getElem_mem ht)
          simp only [Option.map_some, Option.getD_some]
          omega
        · rintro e w' ⟨rfl, hp⟩
          refine ⟨rfl, kw9.trans hp.kept (fun j hj => .inr ?_)⟩
          obtain ⟨v, hv, hj⟩ := hj
          obtain ⟨x, hx, rfl⟩ := List.mem_map.1 hv
          have := ((hR9.row x hx).lt j hj).1
          omega)
  clear HR HSb HK HKwy HKw6
  go_wp2_with (first | (go_at_call 13; refine CN9.out.mono ?_; clear CN9; rintro e W10 ⟨rfl, h10⟩; obtain rfl := h10.symm) | (go_at_call 14; refine StpQ.go ?_))
  refine ⟨?_⟩
  refine CW.out.mono ?_
  clear CW
  rintro e W11 ⟨rfl, k11⟩
  have CK11 := hideP (CK.out W11 k11)
  have HK11 := hideP k11
  clear CK k11
  go_wp2_with (go_at_call 15; refine StpQ.go ?_)
  refine ⟨?_⟩
  refine CK11.out.mono ?_
  clear CK11
  rintro e W12 ⟨rfl, k12⟩
  have HK12 := hideP (HK11.out.trans k12 (fun _ f => f.elim))
  clear k12
  go_wp2
  go_ret
  exact ⟨rfl, HK12.out⟩
end Go.Proofs.YtidgofpmnlddaaaGreatDoor
