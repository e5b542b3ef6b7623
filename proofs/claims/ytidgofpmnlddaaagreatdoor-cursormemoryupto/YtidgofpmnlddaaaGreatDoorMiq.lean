import Derived.Test.YtidgofpmnlddaaaGreatDoorMip
namespace Go.Proofs.YtidgofpmnlddaaaGreatDoor
open Go.ChangeShapes Go.WideShapes Go.ChangeAt Go.RowKit

theorem fam_two (w : World) : Fam w w [eL (.slice none 0 0) 0 [], eL (.slice none 0 0) 0 []] := by
  refine ⟨fun e he => ?_, ?_, Kept.refl _ _⟩
  · have e1 : e = eL (.slice none 0 0) 0 [] := by simpa using he
    subst e1
    exact ⟨rfl, .inl ⟨rfl, rfl⟩⟩
  · refine List.pairwise_cons.2 ⟨fun e he j hj => ?_, List.pairwise_cons.2 ⟨fun e he => (by cases he), List.Pairwise.nil⟩⟩
    simp [eL, Value.ownBlock] at hj
set_option maxRecDepth 20000 in
set_option maxHeartbeats 16000000 in
theorem phraseKeeps_any (mk : Nat → Nat → Int) (hmk : MarkI mk) (L : List Il) (O : List Int) (a oa : Option Addr) (c oc : Nat) (w : World) (hL : LiAt w a L) (hO : IntsAt w oa O) (hll : L.length ≤ 1048576) (hol : O.length ≤ 1048576) (hlx : ∀ x ∈ L, x.l.length ≤ x.c ∧ (x.a = none → x.c = 0)) (hoz : oa = none → oc = 0) (htl : ltot L ≤ 1048576) :
    Calls Tryz.prog 15 #[.slice a L.length c, .slice oa O.length oc] w fun e w' => e = .returned (.bool true) ∧ Kept (fun _ => False) w w' := by
  obtain ⟨MK, hMK⟩ : ∃ MK, MK = mis mk 7 80 := ⟨_, rfl⟩
  have hML : MK.length = 80 := by rw [hMK]; exact mis_length mk 7 80
  have CSP : Hid (∀ (l : List Int) (a : Option Addr) (c : Nat) (V : World), IntsAt V a l → (a = none → c = 0) → l.length ≤ 1099511620000 → Calls Tryz.prog 33 #[.slice a l.length c] V fun e w' => ∃ g c', e = .returned (.tuple #[.slice (some ⟨g, 0, none⟩) l.length c', .slice (some ⟨g, 0, none⟩) (l.length + 80) c']) ∧ Gro V w' 3 1 (.slice (some ⟨g, 0, none⟩) (l.length + 80) c') (l.length + 80) (is (l ++ MK))) := hideP (fun l a c V h1 h2 h3 => by rw [hMK]; exact spareI_any mk hmk l a c V h1 h2 h3)
  have CKP : Hid (∀ (l : List Int) (g cf : Nat) (b : Option Addr) (c n N : Nat) (V : World), IntsAt V (some ⟨g, 0, none⟩) (l ++ MK) → IntsAt V b l → n = l.length → N = n + 80 → l.length ≤ 1099511620000 → Calls Tryz.prog 35 #[.slice (some ⟨g, 0, none⟩) N cf, .slice b n c] V fun e w' => e = .returned (.bool true) ∧ Kept (fun _ => False) V w') := hideP (fun l g cf b c n N V h1 h2 h3 h4 h5 => keptI_any mk hmk l g cf b c n N V (by rw [← hMK]; exact h1) h2 h3 h4 h5)
  clear hMK
  have HL := hideP hL
  have HO := hideP hO
  have HX := hideP hlx
  have HT := hideP htl
  have HOZ := hideP hoz
  obtain ⟨n, hn⟩ : ∃ n, n = L.length := ⟨_, rfl⟩
  obtain ⟨m, hm⟩ : ∃ m, m = O.length := ⟨_, rfl⟩
  have HN := hideP hn
  have HMO := hideP hm
  rw [← hn] at hll ⊢
  rw [← hm] at hol ⊢
  have HF0 := hideP (fam_two w)
  have HLb : Hid (∀ x ∈ L, x.l.length ≤ 1048576) := hideP (fun x hx => Nat.le_trans (ltot_mem hx) htl)
  clear hmk hL hO hlx htl hn hm hoz
  go_enter Tryz.func15, Tryz.ntmps15
  go_wp2
  go_loopw [5, 6, 21] (fun s5 s6 s21 wr => ∃ (k : Nat) (vi vw : Value) (B : List Il), k ≤ n ∧ s5 = vi ∧ s6 = vw ∧ s21 = .int .i64 k ∧ Hid (Fam w wr (eL vi k (B.map cutI) :: eL vw k B :: B.map eI)) ∧ Hid (B.map (·.l) = (L.take k).map (fun x => x.l ++ MK))) (fun _ _ s21 _ => n - (intOf s21).toNat)
  case atStart => exact ⟨0, _, _, [], by omega, rfl, rfl, rfl, HF0, hideP rfl⟩
  case round =>
  obtain ⟨k, vi, vw, B, hk, rfl, rfl, rfl, HF, HB⟩ := hrel
  clear HF0
  by_cases hlt : k < n
  · have hkL : k < L.length := by rw [← HN.out]; exact hlt
    obtain ⟨b, off, rfl, hc⟩ := HL.out (by rintro rfl; simp at hkL)
    obtain ⟨x0, x1⟩ := hc k hkL
    have y0 := HF.out.kept.cell x0 (fun f => f)
    have CS := hideP (CSP.out L[k].l L[k].a L[k].c wr (x1.kept HF.out.kept) (HX.out _ (List.getElem_mem hkL)).2 (by have := HLb.out _ (List.getElem_mem hkL); omega))
    have HB2 : Hid (∀ y : Il, y.l = L[k].l ++ MK → (B ++ [y]).map (·.l) = (L.take (k + 1)).map (fun x => x.l ++ MK)) := hideP (fun y hy => by
      rw [List.map_append, HB.out, List.take_succ_eq_append_getElem hkL, List.map_append]
      simp [hy])
    have hxb := HLb.out _ (List.getElem_mem hkL)
    obtain ⟨xl, hxl⟩ : ∃ xl, xl = L[k].l := ⟨_, rfl⟩
    rw [← hxl] at y0 CS HB2 hxb
    obtain ⟨xn, hxn⟩ : ∃ xn, xn = xl.length := ⟨_, rfl⟩
    rw [← hxn] at y0 CS hxb
    have HYL : Hid ((xl ++ MK).length = xn + 80) := hideP (by rw [List.length_append, hML, hxn])
    clear hxn
    generalize L[k].a = xa at *
    generalize L[k].c = xc at *
    have i1 : (k : Int) < (n : Int) := by omega
    clear hc x0 x1 hxl hkL
    go_wp2_with (go_at_call 33; refine StpQ.go ?_)
    refine ⟨?_⟩
    refine CS.out.mono ?_
    clear CS
    rintro e W1 ⟨g, c', rfl, hG⟩
    obtain ⟨y, hy⟩ : ∃ y : Il, y = ⟨some ⟨g, 0, none⟩, c', xl ++ MK⟩ := ⟨_, rfl⟩
    have hyl := HYL.out
    have HU1 : Hid (Value.slice (some ⟨g, 0, none⟩) xn c' = svx (cutI y)) := hideP (by
      rw [hy]
      unfold svx
      rw [cut_len]
      simp only [cutI, hyl, Nat.add_sub_cancel])
    have HU2 : Hid (Value.slice (some ⟨g, 0, none⟩) (xn + 80) c' = svx y) := hideP (by
      rw [hy]
      unfold svx
      simp only [hyl])
    have HF1 : Hid (Fam w W1 ([eI y] ++ eL u5 k (B.map cutI) :: (eL u6 k B :: B.map eI))) := hideP (HF.out.new hG.kept (x' := eI y) (by
      show W1.ownsRow wr.heap.size 3 1 (svx y) y.l.length (is y.l)
      rw [← HU2.out, hy]
      simp only [hyl]
      exact hG.own))
    have HB3 := hideP (HB2.out y (by rw [hy]))
    clear hG HF HB HB2 hy hyl
    go_wp2_with (at_builtin; refine StpQ.go ?_)
    refine ⟨?_⟩
    refine wpList_famL rfl _ _ rfl [eI y] (eL u6 k B :: B.map eI) u5 k (B.map cutI) (cutI y) rfl HF1 _ rfl rfl (by omega) _ HU1.out ?_
    intro g2 c2 W2 HF2
    clear HF1
    go_wp2_with (at_builtin; refine StpQ.go ?_)
    refine ⟨?_⟩
    refine wpList_famL rfl _ _ rfl [eI y, eL (.slice (some ⟨g2, 0, none⟩) (k + 1) c2) (k + 1) (B.map cutI ++ [cutI y])] (B.map eI) u6 k B y rfl HF2 _ rfl rfl (by omega) _ HU2.out ?_
    intro g3 c3 W3 HF3
    clear HF2
    go_wp2
    go_roundw
    case rel =>
      refine ⟨k + 1, _, _, B ++ [y], by omega, rfl, rfl, by go_num, hideP ?_, HB3⟩
      have hp := HF3.out.perm (List.perm_append_comm (l₁ := [eI y]) (l₂ := eL (.slice (some ⟨g2, 0, none⟩) (k + 1) c2) (k + 1) (B.map cutI ++ [cutI y]) :: eL (.slice (some ⟨g3, 0, none⟩) (k + 1) c3) (k + 1) (B ++ [y]) :: B.map eI))
      rw [List.map_append, List.map_append]
      exact hp
    case measure => simp [intOf]; omega
  obtain rfl : k = n := by omega
  have HBl : Hid (B.length = k) := hideP (by
    have := congrArg List.length HB.out
    rw [List.length_map, List.length_map, List.length_take] at this
    have := HN.out
    omega)
  have HBg : Hid (∀ j (hj : j < B.length) (hj' : j < L.length), B[j].l = L[j].l ++ MK) := hideP (fun j hj hj' => by
    have e : (B.map (·.l))[j]? = ((L.take k).map (fun x => x.l ++ MK))[j]? := by rw [HB.out]
    rw [List.getElem?_map, List.getElem?_map, List.getElem?_eq_getElem hj, List.getElem?_take, if_pos (by rw [← HBl.out]; exact hj), List.getElem?_eq_getElem hj'] at e
    exact Option.some.inj e)
  have HBn : Hid (∀ x ∈ B, 80 ≤ x.l.length ∧ x.l.length ≤ 1048656) := hideP (fun x hx => by
    obtain ⟨j, hj, rfl⟩ := List.mem_iff_getElem.1 hx
    have hj' : j < L.length := by rw [← HN.out, ← HBl.out]; exact hj
    rw [HBg.out j hj hj', List.length_append, hML]
    have := HLb.out _ (List.getElem_mem hj')
    omega)
  have HBc : Hid ((B.map cutI).map (·.l) = L.map (·.l)) := hideP (by
    refine List.ext_getElem (by rw [List.length_map, List.length_map, List.length_map, HBl.out, HN.out]) (fun j h1 h2 => ?_)
    rw [List.length_map, List.length_map] at h1
    rw [List.length_map] at h2
    rw [List.getElem_map, List.getElem_map, List.getElem_map]
    unfold cutI
    simp only
    rw [HBg.out j h1 h2, List.length_append, hML, Nat.add_sub_cancel, List.take_left' rfl])
  obtain ⟨ia, ic, hvi, hic, hig⟩ := row_shape (HF.out.own (eL u5 k (B.map cutI)) (by simp))
  obtain ⟨wa, wc, hvw, hwc, hwg⟩ := row_shape (HF.out.own (eL u6 k B) (by simp))
  simp only [eL] at hvi hvw hic hig hwc hwg
  subst hvi hvw
  have CS := hideP (CSP.out O oa oc wr (HO.out.kept HF.out.kept) HOZ.out (by rw [← HMO.out]; omega))
  rw [← HMO.out] at CS
  have i1 : ¬ (k : Int) < (k : Int) := by omega
  clear hk hlt HB
  go_wp2_with (go_at_call 33; refine StpQ.go ?_)
  refine ⟨?_⟩
  refine CS.out.mono ?_
  clear CS
  rintro e W1 ⟨go, co, rfl, hG⟩
  obtain ⟨yo, hyo⟩ : ∃ yo : Il, yo = ⟨some ⟨go, 0, none⟩, co, O ++ MK⟩ := ⟨_, rfl⟩
  have hyl : (O ++ MK).length = m + 80 := by rw [List.length_append, hML, HMO.out]
  have HF1 : Hid (Fam w W1 (eI yo :: eL (.slice ia k ic) k (B.map cutI) :: eL (.slice wa k wc) k B :: B.map eI)) := hideP (HF.out.new hG.kept (x' := eI yo) (by
    show W1.ownsRow wr.heap.size 3 1 (svx yo) yo.l.length (is yo.l)
    rw [hyo]
    unfold svx
    simp only [hyl]
    exact hG.own))
  have HOW : Hid (∀ V, Kept (fun _ => False) W1 V → IntsAt V (some ⟨go, 0, none⟩) (O ++ MK)) := hideP (fun V kk => (gro_intsM hG).1.kept kk)
  have HOV : Hid (∀ V, Kept (fun _ => False) W1 V → IntsAt V (some ⟨go, 0, none⟩) O) := hideP (fun V kk => by
    have h := ints_take (HOW.out V kk) O.length
    rw [List.take_left' rfl] at h
    exact h)
  have HK1 := hideP HF1.out.kept
  have HYO := hideP hyo
  clear hyo hyl
  have CP : Hid (∀ V, Kept (fun _ => False) W1 V → Calls Tryz.prog 21 #[.slice ia k ic, .slice (some ⟨go, 0, none⟩) m co, .int .i64 1] V fun e w' => e = .returned (.int .i64 ((frq (L.map (·.l)) O 1 : Nat) : Int)) ∧ Kept (fun _ => False) V w') := hideP (fun V kk => by
    have hl1 : (B.map cutI).length = k := by rw [List.length_map, HBl.out]
    have hli := fam_li (HF1.out.later kk) (a := ia) (n := k) (c := ic) (B := B) (by simp) (fun x hx => by
      have := List.mem_map_of_mem (f := eI) hx
      simp only [List.mem_cons]
      exact .inr (.inr (.inr this)))
    have hlt2 := ltot_map HBc.out
    have hbd : ∀ x ∈ B.map cutI, x.l.length ≤ 1048576 := fun x hx => Nat.le_trans (ltot_mem hx) (by rw [hlt2]; exact HT.out)
    have h := phraseFreq_any (B.map cutI) O ia (some ⟨go, 0, none⟩) ic co 1 V hli (HOV.out V kk) (by rw [hl1]; omega) (by rw [← HMO.out]; omega) hbd (fun j hj => by
      have h1 := spk_tot (B.map cutI) O j hj
      have h2 := HT.out
      omega)
    rw [hl1, ← HMO.out] at h
    refine h.mono (fun e w' q => ?_)
    have q2 := pp_frq q
    rw [HBc.out] at q2
    exact q2)
  have CR : Hid (∀ V, Kept (fun _ => False) w V → Calls Tryz.prog 34 #[.slice a k c, .slice oa m oc, .int .i64 1] V fun e w' => e = .returned (.int .i64 ((frq (L.map (·.l)) O 1 : Nat) : Int)) ∧ Kept (fun _ => False) V w') := hideP (fun V kk => by
    have h := rphrase_any L O a oa c oc 1 V (HL.out.kept kk) (HO.out.kept kk) (by rw [← HN.out]; omega) (fun x hx => ⟨HLb.out x hx, (HX.out x hx).1⟩) (fun j hj => by
      have h1 := spk_tot L O j hj
      have h2 := HT.out
      omega)
    rw [← HN.out, ← HMO.out] at h
    exact h.mono (fun e w' q => rf_frq q))
  have CK : Hid (∀ V, Kept (fun _ => False) W1 V → Calls Tryz.prog 35 #[.slice (some ⟨go, 0, none⟩) (m + 80) co, .slice oa m oc] V fun e w' => e = .returned (.bool true) ∧ Kept (fun _ => False) V w') := hideP (fun V kk => CKP.out O go co oa oc m (m + 80) V (HOW.out V kk) (HO.out.kept (HK1.out.trans kk (fun _ f => f.elim))) HMO.out rfl (by rw [← HMO.out]; omega))
  obtain ⟨fq, hfq⟩ : ∃ fq : Nat, fq = frq (L.map (·.l)) O 1 := ⟨_, rfl⟩
  rw [← hfq] at CP CR
  have z1 : ((fq : Int) != (fq : Int)) = false := by simp
  clear hG HF hfq
  have CP1 := hideP (CP.out W1 (Kept.refl _ _))
  go_wp2_with (go_at_call 21; refine StpQ.go ?_)
  refine ⟨?_⟩
  refine CP1.out.mono ?_
  clear CP1
  rintro e W2 ⟨rfl, k2⟩
  have CP2 := hideP (CP.out W2 k2)
  have HK2 := hideP k2
  clear CP k2
  go_wp2_with (go_at_call 21; refine StpQ.go ?_)
  refine ⟨?_⟩
  refine CP2.out.mono ?_
  clear CP2
  rintro e W3 ⟨rfl, k3⟩
  have hk3 := HK2.out.trans k3 (fun _ f => f.elim)
  have HK3 := hideP hk3
  have CR3 := hideP (CR.out W3 (HK1.out.trans hk3 (fun _ f => f.elim)))
  clear k3 hk3 HK2
  go_wp2_with (go_at_call 34; refine StpQ.go ?_)
  refine ⟨?_⟩
  refine CR3.out.mono ?_
  clear CR3
  rintro e W4 ⟨rfl, k4⟩
  have hk4 := HK3.out.trans k4 (fun _ f => f.elim)
  have HK4 := hideP hk4
  have CK4 := hideP (CK.out W4 hk4)
  clear k4 hk4 HK3 CK
  go_wp2_with (go_at_call 35; refine StpQ.go ?_)
  refine ⟨?_⟩
  refine CK4.out.mono ?_
  clear CK4
  rintro e W5 ⟨rfl, k5⟩
  have hk5 := HK4.out.trans k5 (fun _ f => f.elim)
  have HK5 := hideP hk5
  have HF5 := hideP (HF1.out.later hk5)
  clear k5 hk5 HK4 HF1
  have HRD : Hid (∀ j, j < k → ∃ (g2 c2 : Nat) (xa : Option Addr) (xl : List Int) (xc gw b off : Nat), wa = some ⟨gw, 0, none⟩ ∧ a = some ⟨b, off, none⟩ ∧ xl.length ≤ 1048576 ∧ ∀ V, Kept (fun _ => False) W5 V → V.cell? ⟨gw, j, none⟩ = some (.slice (some ⟨g2, 0, none⟩) (xl.length + 80) c2) ∧ V.cell? ⟨b, off + j, none⟩ = some (.slice xa xl.length xc) ∧ IntsAt V (some ⟨g2, 0, none⟩) (xl ++ MK) ∧ IntsAt V xa xl) := hideP (fun j hj => by
    have hjB : j < B.length := by rw [HBl.out]; exact hj
    have hjL : j < L.length := by rw [← HN.out]; exact hj
    obtain ⟨gw, rfl⟩ := hwg (by omega)
    obtain ⟨b, off, rfl, hc⟩ := HL.out (by rintro rfl; simp at hjL)
    obtain ⟨x0, x1⟩ := hc j hjL
    have hrow := HF5.out.own (eI B[j]) (by
      have := List.mem_map_of_mem (f := eI) (List.getElem_mem hjB)
      simp only [List.mem_cons]
      exact .inr (.inr (.inr this)))
    obtain ⟨r1, r2, r3⟩ := row_ints hrow
    have hbl := HBg.out j hjB hjL
    have hlen : B[j].l.length = L[j].l.length + 80 := by rw [hbl, List.length_append, hML]
    obtain ⟨g2, hg2⟩ := r3 (by intro e; rw [e] at hlen; simp at hlen)
    have hcell := row_at (HF5.out.own (eL (.slice (some ⟨gw, 0, none⟩) k wc) k B) (by simp)) (j := j) (u := svx B[j]) (by show (svl B)[j]? = _; unfold svl; rw [List.getElem?_map, List.getElem?_eq_getElem hjB]; rfl)
    unfold svx at hcell
    rw [hg2, hlen] at hcell
    rw [hg2, hbl] at r1
    refine ⟨g2, B[j].c, L[j].a, L[j].l, L[j].c, gw, b, off, rfl, rfl, HLb.out _ (List.getElem_mem hjL), fun V kk => ⟨kk.cell hcell (fun f => f), ?_, r1.kept kk, ?_⟩⟩
    · exact kk.cell (HF5.out.kept.cell x0 (fun f => f)) (fun f => f)
    · exact (x1.kept HF5.out.kept).kept kk)
  go_wp2
  go_loopw [68] (fun s68 wr => ∃ j : Nat, j ≤ k ∧ s68 = .int .i64 j ∧ Hid (Kept (fun _ => False) W5 wr)) (fun s68 _ => k - (intOf s68).toNat)
  case atStart => exact ⟨0, by omega, rfl, hideP (Kept.refl _ _)⟩
  case round =>
  obtain ⟨j, hj, rfl, HJ⟩ := hrel
  by_cases hlt : j < k
  · obtain ⟨g2, c2, xa, xl, xc, gw, b, off, rfl, rfl, hxb, hrd⟩ := HRD.out j hlt
    obtain ⟨xn, hxn⟩ : ∃ xn, xn = xl.length := ⟨_, rfl⟩
    have CK : Hid (∀ V, Kept (fun _ => False) W5 V → Calls Tryz.prog 35 #[.slice (some ⟨g2, 0, none⟩) (xn + 80) c2, .slice xa xn xc] V fun e w' => e = .returned (.bool true) ∧ Kept (fun _ => False) V w') := hideP (fun V kk => CKP.out xl g2 c2 xa xc xn (xn + 80) V (hrd V kk).2.2.1 (hrd V kk).2.2.2 hxn rfl (by omega))
    have YY : Hid (∀ V, Kept (fun _ => False) W5 V → V.cell? ⟨gw, j, none⟩ = some (.slice (some ⟨g2, 0, none⟩) (xn + 80) c2) ∧ V.cell? ⟨b, off + j, none⟩ = some (.slice xa xn xc)) := hideP (fun V kk => by
      rw [hxn]
      exact ⟨(hrd V kk).1, (hrd V kk).2.1⟩)
    have HD1 : Kept (fun _ => False) W5 wr.drew := HJ.out.trans (Kept.drewN wr 1) (fun _ f => f.elim)
    have i2 : (j : Int) < (k : Int) := by omega
    clear hrd hxn HRD HJ hxb
    go_wp2_with fail
    refine wp_region_held (S := fun V => Kept (fun _ => False) W5 V) (by kernel_rfl) ?_
    change wpAnyH _ _ _ _ _ _ _ _ (World.drew _)
    refine takeZ (i := 0) (d := 71) (v := .slice (some ⟨gw, 0, none⟩) k wc) rfl rfl (by kernel_rfl) (by kernel_rfl) (by kernel_rfl) (fun _ _ _ h => h) (Or.inl ⟨by rfl, fun W hW => ?_⟩) HD1 ?_
    · (go_simp)
    simp only [Act.put, List.setIfInBounds_toArray, List.set_cons_zero, List.set_cons_succ]
    refine takeZ (i := 1) (d := 72) (v := .int .i64 j) rfl rfl (by kernel_rfl) (by kernel_rfl) (by kernel_rfl) (fun _ _ _ h => h) (Or.inl ⟨by rfl, fun W hW => ?_⟩) HD1 ?_
    · (go_simp)
    simp only [Act.put, List.setIfInBounds_toArray, List.set_cons_zero, List.set_cons_succ]
    refine takeZ (i := 4) (d := 75) (v := .slice (some ⟨b, off, none⟩) k c) rfl rfl (by kernel_rfl) (by kernel_rfl) (by kernel_rfl) (fun _ _ _ h => h) (Or.inl ⟨by rfl, fun W hW => ?_⟩) HD1 ?_
    · (go_simp)
    simp only [Act.put, List.setIfInBounds_toArray, List.set_cons_zero, List.set_cons_succ]
    refine takeZ (i := 5) (d := 76) (v := .int .i64 j) rfl rfl (by kernel_rfl) (by kernel_rfl) (by kernel_rfl) (fun _ _ _ h => h) (Or.inl ⟨by rfl, fun W hW => ?_⟩) HD1 ?_
    · (go_simp)
    simp only [Act.put, List.setIfInBounds_toArray, List.set_cons_zero, List.set_cons_succ]
    refine takeZ (i := 2) (d := 73) (v := .pointer (some ⟨gw, j, none⟩)) rfl rfl (by kernel_rfl) (by kernel_rfl) (by kernel_rfl) (fun _ _ _ h => h) (Or.inl ⟨by rfl, fun W hW => ?_⟩) HD1 ?_
    · (go_simp)
    simp only [Act.put, List.setIfInBounds_toArray, List.set_cons_zero, List.set_cons_succ]
    refine takeZ (i := 6) (d := 77) (v := .pointer (some ⟨b, off + j, none⟩)) rfl rfl (by kernel_rfl) (by kernel_rfl) (by kernel_rfl) (fun _ _ _ h => h) (Or.inl ⟨by rfl, fun W hW => ?_⟩) HD1 ?_
    · (go_simp)
    simp only [Act.put, List.setIfInBounds_toArray, List.set_cons_zero, List.set_cons_succ]
    refine takeZ (i := 3) (d := 74) (v := .slice (some ⟨g2, 0, none⟩) (xn + 80) c2) rfl rfl (by kernel_rfl) (by kernel_rfl) (by kernel_rfl) (fun _ _ _ h => h) (Or.inl ⟨by rfl, fun W hW => ?_⟩) HD1 ?_
    · (obtain ⟨w1, w2⟩ := YY.out W hW; go_simp)
    simp only [Act.put, List.setIfInBounds_toArray, List.set_cons_zero, List.set_cons_succ]
    refine takeZ (i := 7) (d := 78) (v := .slice xa xn xc) rfl rfl (by kernel_rfl) (by kernel_rfl) (by kernel_rfl) (fun _ _ _ h => h) (Or.inl ⟨by rfl, fun W hW => ?_⟩) HD1 ?_
    · (obtain ⟨w1, w2⟩ := YY.out W hW; go_simp)
    simp only [Act.put, List.setIfInBounds_toArray, List.set_cons_zero, List.set_cons_succ]
    refine wpAnyH_all (rs := [8]) (by kernel_rfl) (by simp) ?_
    intro i hi
    obtain rfl : i = 8 := by simpa using hi
    unfold wpOp
    go_simp
    first | refine (CK.out _ HD1).mono ?_ | refine Or.inl ((CK.out _ HD1).mono ?_)
    rintro e V2 ⟨rfl, k2⟩
    have HD2 : Kept (fun _ => False) W5 V2 := HD1.trans k2 (fun _ f => f.elim)
    refine ⟨HD2, ?_⟩
    refine takeZ (i := 9) (d := 80) (v := .bool false) rfl rfl (by kernel_rfl) (by kernel_rfl) (by kernel_rfl) (fun _ _ _ h => h) (Or.inl ⟨by rfl, fun W hW => ?_⟩) HD2 ?_
    · (go_simp)
    simp only [Act.put, List.setIfInBounds_toArray, List.set_cons_zero, List.set_cons_succ]
    refine wpAnyH_done (by kernel_rfl) ?_ _
    go_wp2
    go_roundw
    case rel => exact ⟨j + 1, by omega, by go_num, hideP HD2⟩
    case measure => simp [intOf]; omega
  obtain rfl : j = k := by omega
  obtain ⟨k, hkj⟩ : ∃ k, k = j := ⟨_, rfl⟩
  subst hkj
  have i2 : ¬ (k : Int) < (k : Int) := by omega
  have HF6 : Hid (Fam w wr (rwsP B (pkq 0 0) ++ eL (.slice none 0 0) 0 [] :: (T3 yo (.slice ia k ic) (.slice wa k wc) k B ++ ([] : List Il).map eI))) := hideP (by
    have h1 := HF5.out.later HJ.out
    have e1 : rwsP B (pkq 0 0) = B.map eI := by
      rw [← rwsP_zero]
      refine rwsP_ext B _ _ (fun i hi => ?_)
      unfold pkq
      rw [if_neg (by omega)]
      by_cases e : i = 0
      · rw [if_pos e]
      · rw [if_neg e]
    rw [e1]
    have h2 : Fam w wr (eL (.slice none 0 0) 0 [] :: (T3 yo (.slice ia k ic) (.slice wa k wc) k B ++ B.map eI)) := by
      refine ⟨fun e he => ?_, List.pairwise_cons.2 ⟨fun e he i hi => ?_, h1.two⟩, h1.kept⟩
      · rcases List.mem_cons.1 he with rfl | he
        · exact ⟨rfl, .inl ⟨rfl, rfl⟩⟩
        · exact h1.own e he
      · simp [eL, Value.ownBlock] at hi
    refine h2.perm ?_
    simp only [List.map_nil, List.append_nil]
    exact (List.perm_append_comm (l₁ := B.map eI) (l₂ := eL (.slice none 0 0) 0 [] :: T3 yo (.slice ia k ic) (.slice wa k wc) k B)).symm)
  clear hlt hj HRD HJ HF5 HK5
  go_wp2
  go_loopw [16, 84] (fun s16 s84 wr => ∃ (j : Nat) (vo : Value) (Z : List Il), j ≤ k ∧ s16 = vo ∧ s84 = .int .i64 j ∧ Hid (Fam w wr (rwsP B (pkq j 0) ++ eL vo j Z :: (T3 yo (.slice ia k ic) (.slice wa k wc) k B ++ Z.map eI))) ∧ Hid (Z.map (·.l) = (newL (B.take j)).map (·.l))) (fun _ s84 _ => k - (intOf s84).toNat)
  case atStart => exact ⟨0, _, [], by omega, rfl, rfl, HF6, hideP rfl⟩
  case round =>
  obtain ⟨j, vo, Z, hj, rfl, rfl, HG, HZ⟩ := hrel
  clear HF6
  by_cases hlt : j < k
  · have hjB : j < B.length := by rw [HBl.out]; exact hlt
    obtain ⟨gi, rfl⟩ := hig (by omega)
    obtain ⟨hb1, hb2⟩ := HBn.out _ (List.getElem_mem hjB)
    obtain ⟨bl, hbl⟩ : ∃ bl, bl = B[j].l := ⟨_, rfl⟩
    obtain ⟨nq, hnq⟩ : ∃ nq, nq = bl.length - 80 := ⟨_, rfl⟩
    have HSV : Hid ((svl (B.map cutI))[j]? = some (.slice B[j].a nq B[j].c)) := hideP (by
      unfold svl
      rw [List.getElem?_map, List.getElem?_map, List.getElem?_eq_getElem hjB]
      simp only [Option.map_some]
      rw [cut_len, hnq, hbl]
      rfl)
    have HIN : Hid (∀ V p vo' j' Z', Fam w V (rwsP B p ++ eL vo' j' Z' :: (T3 yo (.slice (some ⟨gi, 0, none⟩) k ic) (.slice wa k wc) k B ++ Z'.map eI)) → V.cell? ⟨gi, j, none⟩ = some (.slice B[j].a nq B[j].c)) := hideP (fun V p vo' j' Z' h => row_at (h.own (eL (.slice (some ⟨gi, 0, none⟩) k ic) k (B.map cutI)) (by simp [T3])) HSV.out)
    have hbj : B[j].a ≠ none ∧ nq ≤ 1048576 ∧ bl.length = nq + 80 := by
      rw [← hbl] at hb1 hb2
      refine ⟨?_, by omega, by omega⟩
      have hr := HG.out.own (rwe (pkq j 0) j B[j]) (by
        rw [← rwsP_get B _ j hjB]
        exact List.mem_append_left _ (List.getElem_mem _))
      obtain ⟨a3, c3, e3, h4, h5⟩ := row_shape hr
      simp only [rwe, svx, Value.slice.injEq, true_and] at e3
      obtain ⟨g3, e4⟩ := h5 (by simp only [rwe]; rw [← hbl]; omega)
      rw [e3.1, e4]
      simp
    obtain ⟨hba, hnb, hbn⟩ := hbj
    obtain ⟨gj, hgj⟩ : ∃ gj, B[j].a = some ⟨gj, 0, none⟩ := by
      have hr := HG.out.own (rwe (pkq j 0) j B[j]) (by
        rw [← rwsP_get B _ j hjB]
        exact List.mem_append_left _ (List.getElem_mem _))
      obtain ⟨a3, c3, e3, h4, h5⟩ := row_shape hr
      simp only [rwe, svx, Value.slice.injEq, true_and] at e3
      obtain ⟨g3, e4⟩ := h5 (by simp only [rwe]; rw [← hbl]; omega)
      exact ⟨g3, e3.1.trans e4⟩
    obtain ⟨bc, hbc⟩ : ∃ bc, bc = B[j].c := ⟨_, rfl⟩
    rw [hgj, ← hbc] at HSV HIN
    have HSX : Hid (svx B[j] = .slice (some ⟨gj, 0, none⟩) (nq + 80) bc) := hideP (by unfold svx; rw [hgj, ← hbl, hbn, hbc])
    have x1 := HIN.out _ _ _ _ _ HG.out
    have HBL := hideP hbl
    have HNQ := hideP hnq
    have i3 : (j : Int) < (k : Int) := by omega
    clear hba hgj hbc hbl hnq hb1 hb2
    go_wp2
    go_loopw [92] (fun s92 wr => ∃ q : Nat, q ≤ nq ∧ s92 = .int .i64 q ∧ Hid (Fam w wr (rwsP B (pkq j q) ++ eL u16 j Z :: (T3 yo (.slice (some ⟨gi, 0, none⟩) k ic) (.slice wa k wc) k B ++ Z.map eI)))) (fun s92 _ => nq - (intOf s92).toNat)
    case atStart => exact ⟨0, by omega, rfl, HG⟩
    case round =>
    obtain ⟨q, hq, rfl, HQ⟩ := hrel
    clear HG x1
    have x1 := HIN.out _ _ _ _ _ HQ.out
    by_cases hqn : q < nq
    · have hfs : j < (rwsP B (pkq j q) ++ eL u16 j Z :: (T3 yo (.slice (some ⟨gi, 0, none⟩) k ic) (.slice wa k wc) k B ++ Z.map eI)).length := by rw [List.length_append, rwsP_len]; omega
      have hat : (rwsP B (pkq j q) ++ eL u16 j Z :: (T3 yo (.slice (some ⟨gi, 0, none⟩) k ic) (.slice wa k wc) k B ++ Z.map eI))[j] = rwe (pkq j q) j B[j] := by rw [List.getElem_append_left (by rw [rwsP_len]; exact hjB), rwsP_get B _ j hjB]
      have hpj : pkq j q j = q := by unfold pkq; rw [if_neg (by omega), if_pos rfl]
      have hpj2 : pkq j (q + 1) j = q + 1 := by unfold pkq; rw [if_neg (by omega), if_pos rfl]
      have hrow : wr.ownsRow w.heap.size 3 1 (.slice (some ⟨gj, 0, none⟩) (nq + 80) bc) (nq + 80) (is (wrl j q bl)) := by
        have h := HQ.out.own (rwe (pkq j q) j B[j]) (by
          rw [← rwsP_get B _ j hjB]
          exact List.mem_append_left _ (List.getElem_mem _))
        simp only [rwe] at h
        rw [HSX.out, ← HBL.out, hbn, hpj] at h
        exact h
      obtain ⟨r1, r2, r3⟩ := row_setI (j := q) (x := (((q + j) % 3 : Nat) : Int)) hrow (by omega) (by rw [wrl_len, hbn])
      have HF2 : Hid (Fam w (wr.setCell ⟨gj, q, none⟩ (.int .i64 (((q + j) % 3 : Nat) : Int))) (rwsP B (pkq j (q + 1)) ++ eL u16 j Z :: (T3 yo (.slice (some ⟨gi, 0, none⟩) k ic) (.slice wa k wc) k B ++ Z.map eI))) := hideP (by
        have h := Fam.set (x' := rwe (pkq j (q + 1)) j B[j]) j hfs HQ.out ((Kept.setCell wr ⟨gj, q, none⟩ (.int .i64 (((q + j) % 3 : Nat) : Int))).mono (fun i hi => .inl (by rw [hat]; simp only [rwe]; rw [HSX.out]; simp only at hi; rw [hi]; rfl))) (by
          simp only [rwe]
          rw [HSX.out, ← HBL.out, hbn, hpj2, ← wrl_succ j q bl (by omega)]
          exact r1) (fun i hi => .inl (by rw [hat]; exact hi))
        rw [List.set_append_left _ _ (by rw [rwsP_len]; exact hjB), rwsP_set B (pkq j q) (pkq j (q + 1)) j hjB (fun i hi => by unfold pkq; simp [hi])] at h
        exact h)
      generalize (wrl j q bl)[q]?.getD 0 = y0 at r2
      have i4 : (q : Int) < (nq : Int) := by omega
      have i6 : IntKind.i64.wrap ((q : Int) + (j : Int)) = (q : Int) + (j : Int) := by rw [IntKind.wrap_i64]; omega
      have i7 : ((q : Int) + (j : Int)).tmod 3 = (((q + j) % 3 : Nat) : Int) := by rw [Int.tmod_eq_emod_of_nonneg (by omega)]; omega
      have i8 : IntKind.i64.wrap ((((q + j) % 3 : Nat) : Int)) = (((q + j) % 3 : Nat) : Int) := by rw [IntKind.wrap_i64]; omega
      generalize (((q + j) % 3 : Nat) : Int) = rr at *
      clear r1 hrow HQ hfs hat hpj hpj2 HIN
      go_wp2
      go_roundw
      case rel => exact ⟨q + 1, by omega, by go_num, HF2⟩
      case measure => simp [intOf]; omega
    · obtain rfl : q = nq := by omega
      have i4 : ¬ (q : Int) < (q : Int) := by omega
      have HQ2 : Hid (Fam w wr (rwsP B (pkq (j + 1) 0) ++ eL u16 j Z :: (T3 yo (.slice (some ⟨gi, 0, none⟩) k ic) (.slice wa k wc) k B ++ Z.map eI))) := hideP (by
        have h := HQ.out
        rw [rwsP_ext B (pkq j q) (pkq (j + 1) 0) (fun i hi => by
          unfold pkq
          by_cases e1 : i < j
          · rw [if_pos e1, if_pos (by omega)]
          · rw [if_neg e1]
            by_cases e2 : i = j
            · subst e2
              rw [if_pos rfl, if_pos (by omega), HNQ.out, HBL.out]
              exact (wrl_full i _ _ (by rw [← HBL.out]; omega)).symm
            · rw [if_neg e2, if_neg (by omega)]
              by_cases e3 : i = j + 1
              · rw [if_pos e3]
              · rw [if_neg e3])] at h
        exact h)
      have HIQ : Hid (IntsAt wr (some ⟨gj, 0, none⟩) (nwl j q)) := hideP (by
        have h := HQ.out.own (rwe (pkq j q) j B[j]) (by
          rw [← rwsP_get B _ j hjB]
          exact List.mem_append_left _ (List.getElem_mem _))
        simp only [rwe] at h
        have hpj : pkq j q j = q := by unfold pkq; rw [if_neg (by omega), if_pos rfl]
        rw [HSX.out, ← HBL.out, hbn, hpj] at h
        have h2 := ints_take (own_intsM h) q
        have e := wrl_take j q bl (by rw [HNQ.out]; exact Nat.le_refl _)
        rw [← HNQ.out] at e
        rw [e] at h2
        exact h2)
      have HGE := hideP (gro_empty wr wr 3 1 (Kept.refl _ _))
      have HIQ2 := hideP (HIQ.out.kept (Kept.alloc wr (.cells #[] 3)))
      have x2 := (Kept.alloc wr (.cells #[] 3)).cell x1 (fun f => f)
      have HQL : Hid (q = (nwl j q).length) := hideP (nwl_len j q).symm
      have HZ0 : Hid ((some ⟨gj, 0, none⟩ : Option Addr) = none → bc = 0) := hideP (fun e => by cases e)
      clear HQ HIQ x1 hqn hq
      go_wp2_with (at_builtin; refine StpQ.go ?_)
      refine ⟨?_⟩
      refine wpList_catYI rfl _ _ rfl _ 0 [] (nwl j q) rfl HGE (some ⟨gj, 0, none⟩) q bc rfl HQL HIQ2 HZ0 (by omega) ?_
      clear HGE HIQ2
      intro a1 c1 W7 HG7 _
      rw [Nat.zero_add, List.nil_append] at HG7
      rw [Nat.zero_add]
      obtain ⟨z, hz⟩ : ∃ z : Il, z = ⟨a1, c1, nwl j q⟩ := ⟨_, rfl⟩
      have HZV : Hid (Value.slice a1 q c1 = svx z) := hideP (by rw [hz]; unfold svx; simp only [nwl_len])
      have HZE := hideP hz
      have HF7 : Hid (Fam w W7 ((eI z :: rwsP B (pkq (j + 1) 0)) ++ eL u16 j Z :: (T3 yo (.slice (some ⟨gi, 0, none⟩) k ic) (.slice wa k wc) k B ++ Z.map eI))) := hideP (HQ2.out.new HG7.out.kept (x' := eI z) (by
        show W7.ownsRow wr.heap.size 3 1 (svx z) z.l.length (is z.l)
        rw [← HZV.out, hz]
        simp only [nwl_len]
        exact HG7.out.own))
      clear HQ2 HG7 hz
      go_wp2_with (at_builtin; refine StpQ.go ?_)
      refine ⟨?_⟩
      refine wpList_famL rfl _ _ rfl (eI z :: rwsP B (pkq (j + 1) 0)) (T3 yo (.slice (some ⟨gi, 0, none⟩) k ic) (.slice wa k wc) k B ++ Z.map eI) u16 j Z z rfl HF7 _ rfl rfl (by omega) _ HZV.out ?_
      intro g8 c8 W8 HF8
      clear HF7
      go_wp2
      go_roundw
      case rel =>
        refine ⟨j + 1, _, Z ++ [z], by omega, rfl, by go_num, hideP ?_, hideP ?_⟩
        · have hp := HF8.out.perm (List.perm_append_comm (l₁ := [eI z]) (l₂ := rwsP B (pkq (j + 1) 0) ++ eL (.slice (some ⟨g8, 0, none⟩) (j + 1) c8) (j + 1) (Z ++ [z]) :: (T3 yo (.slice (some ⟨gi, 0, none⟩) k ic) (.slice wa k wc) k B ++ Z.map eI)))
          rw [List.append_assoc, List.cons_append, List.append_assoc] at hp
          rw [List.map_append]
          exact hp
        · rw [List.map_append, HZ.out]
          refine List.ext_getElem (by simp [newL_len, List.length_take]; omega) (fun i h1 h2 => ?_)
          rw [List.length_map, newL_len, List.length_take] at h2
          have e2 : i < (B.take (j + 1)).length := by rw [List.length_take]; omega
          rw [List.getElem_map, newL_get _ i e2, List.getElem_take]
          by_cases e : i < j
          · have e3 : i < (B.take j).length := by rw [List.length_take]; omega
            rw [List.getElem_append_left (by rw [List.length_map, newL_len]; exact e3), List.getElem_map, newL_get _ i e3, List.getElem_take]
          · obtain rfl : i = j := by omega
            rw [List.getElem_append_right (by rw [List.length_map, newL_len, List.length_take]; omega)]
            simp only [List.map_cons, List.map_nil, List.getElem_singleton]
            rw [HZE.out, HNQ.out, HBL.out]
      case measure => simp [intOf]; omega
  obtain rfl : j = k := by omega
  have i3 : ¬ (j : Int) < (j : Int) := by omega
  have HZ2 : Hid (Z.map (·.l) = (newL B).map (·.l)) := hideP (by rw [HZ.out, List.take_of_length_le (by rw [HBl.out]; exact Nat.le_refl _)])
  obtain ⟨va, vc, hvo, hvc, -⟩ := row_shape (HG.out.own (eL u16 j Z) (by simp))
  simp only [eL] at hvo hvc
  subst hvo
  have HKz := hideP HG.out.kept
  have hZl : Z.length = j := by
    have := (HG.out.own (eL (.slice va j vc) j Z) (by simp)).1
    simp only [eL, svl_len] at this
    omega
  have HLn : Hid (LiAt wr ia (newL B)) := hideP (fam_newL (k := j) HG.out (n := j) (c := ic) (by simp [T3]) (fun i hi => by
    rw [← rwsP_get B _ i hi]
    exact List.mem_append_left _ (List.getElem_mem _)) (by rw [HBl.out]; exact Nat.le_refl _) (fun x hx => by have := HBn.out x hx; omega))
  have HLz : Hid (LiAt wr va Z) := hideP (fam_liP HG.out (n := j) (c := vc) (by simp) (fun x hx => by
    have := List.mem_map_of_mem (f := eI) hx
    exact List.mem_append_right _ (List.mem_cons_of_mem _ (List.mem_append_right _ this))))
  have HOz : Hid (IntsAt wr (some ⟨go, 0, none⟩) O) := hideP (by
    have h := (row_ints (HG.out.own (eI yo) (by simp [T3]))).1
    rw [HYO.out] at h
    have h2 := ints_take h O.length
    simp only at h2
    rw [List.take_left' rfl] at h2
    exact h2)
  have HZr : Hid (∀ x ∈ Z, x.l.length ≤ x.c) := hideP (fun x hx => (row_ints (HG.out.own (eI x) (by
    have := List.mem_map_of_mem (f := eI) hx
    exact List.mem_append_right _ (List.mem_cons_of_mem _ (List.mem_append_right _ this))))).2.1)
  have HTn : Hid (ltot (newL B) ≤ 1048576) := hideP (by
    have e : ∀ (X Y : List Il), X.length = Y.length → (∀ i (h1 : i < X.length) (h2 : i < Y.length), X[i].l.length = Y[i].l.length) → ltot X = ltot Y := by
      intro X
      induction X with
      | nil => intro Y h _; cases Y with
        | nil => rfl
        | cons y r => simp at h
      | cons x X ih => intro Y h hh; cases Y with
        | nil => simp at h
        | cons y Y =>
          have h0 := hh 0 (by simp) (by simp)
          have h1 := ih Y (by simpa using h) (fun i h1 h2 => by
            have := hh (i + 1) (by simp; omega) (by simp; omega)
            simpa using this)
          rw [ltot, ltot, h1]
          simp only [List.getElem_cons_zero] at h0
          rw [h0]
    rw [e (newL B) (B.map cutI) (by rw [newL_len, List.length_map]) (fun i h1 h2 => by
      rw [newL_len] at h1
      rw [newL_get B i h1, List.getElem_map, cut_len, nwl_len]), ltot_map HBc.out]
    exact HT.out)
  have HZb : Hid (ltot Z ≤ 1048576) := hideP (by rw [ltot_map HZ2.out]; exact HTn.out)
  have CP := hideP (phraseFreq_any (newL B) O ia (some ⟨go, 0, none⟩) ic co 1 wr HLn.out HOz.out (by rw [newL_len, HBl.out]; omega) (by rw [← HMO.out]; omega) (fun x hx => Nat.le_trans (ltot_mem hx) HTn.out) (fun i hi => by
    have h1 := spk_tot (newL B) O i hi
    have h2 := HTn.out
    omega))
  rw [newL_len, HBl.out, ← HMO.out] at CP
  have CR : Hid (∀ V, Kept (fun _ => False) wr V → Calls Tryz.prog 34 #[.slice va j vc, .slice oa m oc, .int .i64 1] V fun e w' => e = .returned (.int .i64 ((frq ((newL B).map (·.l)) O 1 : Nat) : Int)) ∧ Kept (fun _ => False) V w') := hideP (fun V kk => by
    have h := rphrase_any Z O va oa vc oc 1 V (HLz.out.kept kk) (HO.out.kept (HKz.out.trans kk (fun _ f => f.elim))) (by rw [hZl]; omega) (fun x hx => ⟨Nat.le_trans (ltot_mem hx) HZb.out, HZr.out x hx⟩) (fun i hi => by
      have h1 := spk_tot Z O i hi
      have h2 := HZb.out
      omega)
    rw [hZl, ← HMO.out] at h
    refine h.mono (fun e w' q => ?_)
    have q2 := rf_frq q
    rw [HZ2.out] at q2
    exact q2)
  clear hlt hj HG HZ HLn HLz HOz hvc hZl
  go_wp2_with (go_at_call 21; refine StpQ.go ?_)
  refine ⟨?_⟩
  refine CP.out.mono ?_
  clear CP
  intro e W8 q8
  obtain ⟨rfl, k8⟩ := pp_frq q8
  have CR8 := hideP (CR.out W8 k8)
  obtain ⟨fz, hfz⟩ : ∃ fz : Nat, fz = frq ((newL B).map (·.l)) O 1 := ⟨_, rfl⟩
  rw [← hfz] at CR8 ⊢
  have HK8 := hideP (HKz.out.trans k8 (fun _ f => f.elim))
  have z2 : ((fz : Int) == (fz : Int)) = true := by simp
  clear CR q8 k8 hfz
  go_wp2_with (go_at_call 34; refine StpQ.go ?_)
  refine ⟨?_⟩
  refine CR8.out.mono ?_
  clear CR8
  rintro e W9 ⟨rfl, k9⟩
  have HK9 := hideP (HK8.out.trans k9 (fun _ f => f.elim))
  clear k9
  go_wp2
  go_ret
  exact ⟨by first | rfl | simp, HK9.out⟩
end Go.Proofs.YtidgofpmnlddaaaGreatDoor
