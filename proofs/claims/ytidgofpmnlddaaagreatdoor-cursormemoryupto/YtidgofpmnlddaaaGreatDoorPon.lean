import Derived.Test.YtidgofpmnlddaaaGreatDoorMrg4
namespace Go.Proofs.YtidgofpmnlddaaaGreatDoor
open Go.ChangeShapes Go.WideShapes Go.ChangeAt Go.RowKit

structure StpQ (p : Prop) : Prop where
  go : p
theorem szs_append : ∀ (A B : List Sk), szs (A ++ B) = szs A + szs B
  | [], B => by simp [szs]
  | s :: A, B => by rw [List.cons_append, szs, szs_append A B, szs]; omega
theorem szs_fit {S : List Sk} {k : Nat} (h : k < S.length) : szs (S.take k) + S[k].z ≤ szs S := by
  have h1 := szs_append (S.take (k + 1)) (S.drop (k + 1))
  rw [List.take_append_drop, List.take_succ_eq_append_getElem h, szs_append] at h1
  simp [szs] at h1
  omega
theorem BytesAt.cutP {w : World} {b off : Nat} {l : List Int} {p n : Nat} (h : BytesAt w (some ⟨b, off, none⟩) l) (hn : p + n ≤ l.length) : BytesAt w (some ⟨b, if n = 0 then off else off + p, none⟩) ((l.drop p).take n) := by
  intro hne
  have hn0 : n ≠ 0 := by intro e; rw [e] at hne; simp at hne
  have hl : l ≠ [] := by intro e; rw [e] at hne; simp at hne
  obtain ⟨b', off', e, hc⟩ := h hl
  simp only [Option.some.injEq, Addr.mk.injEq, and_true] at e
  obtain ⟨rfl, rfl⟩ := e
  rw [if_neg hn0]
  exact BytesAt.cut hc hn hne
set_option maxRecDepth 20000 in
set_option maxHeartbeats 8000000 in
theorem readBlock_any (bl : Nat) (ia : Option Addr) (ic : Nat) (l : List Int) (n t : Nat) (sa : Option Addr) (sc : Nat) (S : List Sk) (p0 k : Nat) (ad : Nat → Addr) (w : World) (hL : LsAt w bl ia ic l n t sa sc S p0) (hk : k < S.length) (hB : IsBytes l) (hl0 : 0 < l.length) (hl : l.length ≤ 1099511627776) (hz : p0 + szs S ≤ l.length) (hS : ∀ s ∈ S, -1 ≤ s.last ∧ s.last ≤ 2147483646 ∧ s.n ≤ 16) (hSl : S.length ≤ 1099511627776) (hE : ErP w ad) :
    Calls Tryz.prog 68 #[.pointer (some ⟨bl, 0, none⟩), .int .i64 k] w fun e w' => rbPost w e w' (rbk ((l.drop (p0 + szs (S.take k))).take S[k].z) (bas S k) S[k].last S[k].n) := by
  obtain ⟨R, hR⟩ : ∃ R, R = rbk ((l.drop (p0 + szs (S.take k))).take S[k].z) (bas S k) S[k].last S[k].n := ⟨_, rfl⟩
  rw [← hR]
  have c0 := hL.c0
  have c3 := hL.c3
  have cp := hL.cp
  obtain ⟨sb', so, hsa, hsc⟩ := hL.sk (by intro e; rw [e] at hk; simp at hk)
  obtain ⟨ib, io, hia, hic⟩ := hL.im (by intro e; rw [e] at hl0; simp at hl0)
  have him := hL.im
  subst hsa hia
  obtain ⟨x0, x1, x2, x3⟩ := hsc k hk
  have hfit := szs_fit hk
  obtain ⟨hs1, hs2, hs3⟩ := hS _ (List.getElem_mem hk)
  have hbas : -1 ≤ bas S k ∧ bas S k ≤ 2147483646 := by
    unfold bas
    split
    · omega
    · split
      · rename_i s hs
        have := hS s (List.mem_of_getElem? hs)
        omega
      · omega
  have hk0 : (k = 0 ∧ bas S k = -1) ∨ (∃ k', k = k' + 1 ∧ w.cell? ⟨sb', so + k' * 4, none⟩ = some (.int .i64 (bas S k))) := by
    cases k with
    | zero => exact .inl ⟨rfl, rfl⟩
    | succ k' =>
      refine .inr ⟨k', rfl, ?_⟩
      have := (hsc k' (by omega)).1
      rw [this]
      unfold bas
      rw [if_neg (by omega), Nat.add_sub_cancel, List.getElem?_eq_getElem (by omega)]
  obtain ⟨bz, hbz⟩ : ∃ bz, bz = bas S k := ⟨_, rfl⟩
  rw [← hbz] at hR hbas hk0
  obtain ⟨hb1, hb2⟩ := hbas
  obtain ⟨at_, hat⟩ : ∃ at_, at_ = p0 + szs (S.take k) := ⟨_, rfl⟩
  rw [← hat] at hR x2
  generalize S[k] = sk at *
  obtain ⟨last, m, z⟩ := sk
  simp only at hR x0 x1 x2 x3 hfit hs1 hs2 hs3
  have hend : at_ + z ≤ l.length := by omega
  obtain ⟨sub, hsub⟩ : ∃ sub, sub = (l.drop at_).take z := ⟨_, rfl⟩
  rw [← hsub] at hR
  have hsl : sub.length = z := by rw [hsub, List.length_take, List.length_drop]; omega
  have hsB : IsBytes sub := by rw [hsub]; exact isb_take (isb_drop hB _) _
  have hbt := him.cutP hend
  rw [← hsub] at hbt
  obtain ⟨o', ho'⟩ : ∃ o', o' = if z = 0 then io else io + at_ := ⟨_, rfl⟩
  rw [← ho'] at hbt
  have hkS : (k : Int) < (S.length : Int) := by omega
  obtain ⟨sl, hsl2⟩ : ∃ sl, sl = S.length := ⟨_, rfl⟩
  rw [← hsl2] at c3 hkS hk hSl
  obtain ⟨ll, hll⟩ : ∃ ll, ll = l.length := ⟨_, rfl⟩
  rw [← hll] at c0 cp hend hl
  have HR := hideP hR
  have HE := hideP hE
  have HSB := hideP hsB
  have HO' := hideP ho'
  have HSL := hideP hsl
  obtain ⟨BX, hBX⟩ : ∃ BX : Obj, BX = .cells #[.int .i64 last, .int .i64 m, .int .i64 at_, .int .i64 z] 80 := ⟨_, rfl⟩
  have K0 := Kept.alloc w (.cells #[.int .i64 last, .int .i64 m, .int .i64 at_, .int .i64 z] 80)
  have g0 := heap_alloc_new w (.cells #[.int .i64 last, .int .i64 m, .int .i64 at_, .int .i64 z] 80)
  have y0 := cell_of_row _ _ 0 _ _ _ g0
  have y1 := cell_of_row _ _ 1 _ _ _ g0
  have y2 := cell_of_row _ _ 2 _ _ _ g0
  have y3 := cell_of_row _ _ 3 _ _ _ g0
  simp only [List.getElem?_toArray, List.getElem?_cons_zero, List.getElem?_cons_succ] at y0 y1 y2 y3
  have d0 := K0.cell c0 (fun f => f)
  have d3 := K0.cell c3 (fun f => f)
  have HG0 := hideP g0
  have HK0 := hideP K0
  have HBt := hideP (hbt.kept K0)
  have esum : IntKind.i64.wrap ((at_ : Int) + (z : Int)) = ((at_ + z : Nat) : Int) := by rw [IntKind.wrap_i64]; omega
  clear hL hsc hic him hR hE hsB hbt hsub hB hl0 hz hS hfit hat hbz hsl hll hsl2 ho' hBX g0 K0
  rcases hk0 with ⟨hkz, hbz0⟩ | ⟨k', hkk, xp⟩
  · have hkn : ¬ (0 : Int) < (k : Int) := by omega
    have HBZ := hideP hbz0
    clear hkz hbz0
    go_enter Tryz.func68, Tryz.ntmps68
    go_wp2_with fail
    rw [← HBZ.out]
    generalize w.alloc (.cells #[.int .i64 last, .int .i64 m, .int .i64 at_, .int .i64 z] 80) = W0 at *
    have hS0 : Kept (fun _ => False) W0 W0.drew := Kept.drewN W0 1
    refine wp_region_held (S := fun W' => Kept (fun _ => False) W0 W') (by kernel_rfl) ?_
    change wpAnyH _ _ _ _ _ _ _ _ (World.drew _)
    refine takeZ (i := 0) (d := 42) (v := .pointer (some ⟨bl, 0, none⟩)) rfl rfl (by kernel_rfl) (by kernel_rfl) (by kernel_rfl) (fun _ _ _ h => h) (Or.inl ⟨by rfl, fun W hW => ?_⟩) hS0 ?_
    · (go_simp)
    simp only [Act.put, List.setIfInBounds_toArray, List.set_cons_zero, List.set_cons_succ]
    refine takeZ (i := 1) (d := 43) (v := .pointer (some ⟨bl, 0, none⟩)) rfl rfl (by kernel_rfl) (by kernel_rfl) (by kernel_rfl) (fun _ _ _ h => h) (Or.inl ⟨by rfl, fun W hW => ?_⟩) hS0 ?_
    · (go_simp)
    simp only [Act.put, List.setIfInBounds_toArray, List.set_cons_zero, List.set_cons_succ]
    refine takeZ (i := 2) (d := 44) (v := .pointer (some ⟨bl, 0, none⟩)) rfl rfl (by kernel_rfl) (by kernel_rfl) (by kernel_rfl) (fun _ _ _ h => h) (Or.inl ⟨by rfl, fun W hW => ?_⟩) hS0 ?_
    · (go_simp)
    simp only [Act.put, List.setIfInBounds_toArray, List.set_cons_zero, List.set_cons_succ]
    refine takeZ (i := 3) (d := 45) (v := .slice (some ⟨ib, io, none⟩) ll ic) rfl rfl (by kernel_rfl) (by kernel_rfl) (by kernel_rfl) (fun _ _ _ h => h) (Or.inl ⟨by rfl, fun W hW => ?_⟩) hS0 ?_
    · (have z1 := hW.cell d0 (fun f => f); go_simp)
    simp only [Act.put, List.setIfInBounds_toArray, List.set_cons_zero, List.set_cons_succ]
    refine takeZ (i := 4) (d := 46) (v := .pointer (some ⟨w.heap.size, 2, none⟩)) rfl rfl (by kernel_rfl) (by kernel_rfl) (by kernel_rfl) (fun _ _ _ h => h) (Or.inl ⟨by rfl, fun W hW => ?_⟩) hS0 ?_
    · (go_simp)
    simp only [Act.put, List.setIfInBounds_toArray, List.set_cons_zero, List.set_cons_succ]
    refine takeZ (i := 5) (d := 47) (v := .int .i64 at_) rfl rfl (by kernel_rfl) (by kernel_rfl) (by kernel_rfl) (fun _ _ _ h => h) (Or.inl ⟨by rfl, fun W hW => ?_⟩) hS0 ?_
    · (have z1 := hW.cell y2 (fun f => f); go_simp)
    simp only [Act.put, List.setIfInBounds_toArray, List.set_cons_zero, List.set_cons_succ]
    refine takeZ (i := 6) (d := 48) (v := .int .i64 ((at_ : Int) + (z : Int))) rfl rfl (by kernel_rfl) (by kernel_rfl) (by kernel_rfl) (fun _ _ _ h => h) (Or.inl ⟨by rfl, fun W hW => ?_⟩) hS0 ?_
    · (go_simp)
    simp only [Act.put, List.setIfInBounds_toArray, List.set_cons_zero, List.set_cons_succ]
    refine takeZ (i := 7) (d := 49) (v := .int .i64 ((at_ : Int) + (z : Int))) rfl rfl (by kernel_rfl) (by kernel_rfl) (by kernel_rfl) (fun _ _ _ h => h) (Or.inl ⟨by rfl, fun W hW => ?_⟩) hS0 ?_
    · (go_simp)
    simp only [Act.put, List.setIfInBounds_toArray, List.set_cons_zero, List.set_cons_succ]
    refine takeZ (i := 8) (d := 50) (v := .slice (some ⟨ib, o', none⟩) z z) rfl rfl (by kernel_rfl) (by kernel_rfl) (by kernel_rfl) (fun _ _ _ h => h) (Or.inl ⟨by rfl, fun W hW => ?_⟩) hS0 ?_
    · (rw [HO'.out]
       go_simp
       rw [if_pos ⟨by omega, by omega⟩, if_pos ⟨by omega, by omega⟩, if_pos (by omega), show ((at_ : Int) + (z : Int)).toNat = at_ + z by omega, Nat.add_sub_cancel_left]
       by_cases hz0 : z = 0
       · rw [if_pos (by omega), if_pos hz0]
       · rw [if_neg (by omega), if_neg hz0])
    simp only [Act.put, List.setIfInBounds_toArray, List.set_cons_zero, List.set_cons_succ]
    have CN := newr_any sub (some ⟨ib, o', none⟩) z W0.drew (HBt.out.kept hS0) HSB.out (by have := HSL.out; omega)
    rw [HSL.out] at CN
    refine wpAnyH_all (rs := [9]) (by kernel_rfl) (by simp) ?_
    intro i hi
    obtain rfl : i = 9 := by simpa using hi
    unfold wpOp
    go_simp
    refine Or.inl (CN.mono ?_)
    rintro e W1 ⟨br, rv, rfl, hRd, hbr, hrv, k1⟩
    have hS1 := hS0.trans k1 (fun _ f => f.elim)
    refine ⟨hS1, ?_⟩
    refine takeZ (i := 10) (d := 9) (v := .pointer (some ⟨br, 0, none⟩)) rfl rfl (by kernel_rfl) (by kernel_rfl) (by kernel_rfl) (fun _ _ _ h => h) (Or.inl ⟨by rfl, fun W hW => ?_⟩) hS1 ?_
    · (go_simp)
    simp only [Act.put, List.setIfInBounds_toArray, List.set_cons_zero, List.set_cons_succ]
    refine wpAnyH_done (by kernel_rfl) ?_ _
    have K1 := HK0.out.trans hS1 (fun _ f => f.elim)
    have HK1 := hideP K1
    have HG1 := hideP (hS1.heap HG0.out (fun f => f))
    have hbrw : w.heap.size < br := by
      have q1 := lt_of_block HG0.out
      have q2 := (Kept.drewN W0 1).size
      simp at hbr
      omega
    have hbx : ¬ w.heap.size = br := by omega
    have hOw : Old w W1 := K1.mono (fun _ f => f.elim)
    have HOw := hideP hOw
    have CD := hideP (readDocs_any bz last m at_ z w W1 hRd (by have := HSL.out; omega) hs3 hb1 hb2 hs1 hs2 HE.out hOw)
    have u0 := cell_of_row _ _ 0 _ _ _ HG1.out
    have u1 := cell_of_row _ _ 1 _ _ _ HG1.out
    have u2 := cell_of_row _ _ 2 _ _ _ HG1.out
    have u3 := cell_of_row _ _ 3 _ _ _ HG1.out
    simp only [List.getElem?_toArray, List.getElem?_cons_zero, List.getElem?_cons_succ] at u0 u1 u2 u3
    have HRv : Hid (∀ j, rv.ownBlock = some j → w.heap.size ≤ j) := hideP (fun j hj => by have := hrv j hj; have q2 := HK0.out.size; simp at this; omega)
    have HRvL : Hid (∀ j, rv.ownBlock = some j → j < W1.heap.size) := hideP (fun j hj => (hRd.own.lt j hj).2)
    have HRe := HR.out
    rw [rbk_eq] at HRe
    have ev : (br : Nat) < W1.heap.size := lt_of_block hRd.blk
    clear hRd hS0 hS1 k1 CN d0 d3 y0 y1 y2 y3 hbr hrv K1 hOw HBt HG0 HR c0 c3 x0 x1 x2 x3 esum
    cases hrd : rdd sub bz last m 0 with
    | none =>
      rw [hrd] at HRe CD
      have HRn : Hid (R = none) := hideP HRe
      clear HRe hrd
      go_wp2_with (go_at_call 82; refine CD.out.mono ?_; clear CD; rintro e W2 ⟨⟨u, rfl⟩, k2⟩; have HK2 := hideP (HK1.out.trans k2 (fun i hi => .inr (by omega))); clear k2)
      go_ret2
      rw [HRn.out]
      exact ⟨⟨_, rfl⟩, HK2.out⟩
    | some Dq =>
      obtain ⟨D, q⟩ := Dq
      rw [hrd] at HRe CD
      simp only at HRe
      have HR2 : Hid (R = rbM sub D m q) := hideP HRe
      have HRdd := hideP hrd
      clear HRe hrd
      obtain ⟨dn, hdn⟩ : ∃ dn, dn = D.length := ⟨_, rfl⟩
      unfold rdPost at CD
      simp only at CD
      rw [← hdn] at CD
      have HDn := hideP hdn
      clear hdn
      go_wp2_with (first
        | (go_at_call 82; refine CD.out.mono ?_; clear CD; rintro e W2 ⟨da, dc, rfl, hoD, hRd2, k2⟩; have HoD := hideP hoD; have HRd2 := hideP hRd2; have HK2 := hideP (HK1.out.trans k2 (fun i hi => .inr (by omega))); have HK12 := hideP k2.size; have HG2 := hideP (k2.heap HG1.out hbx); have t0 := cell_of_row _ _ 0 _ _ _ HG2.out; have t1 := cell_of_row _ _ 1 _ _ _ HG2.out; simp only [List.getElem?_toArray, List.getElem?_cons_zero, List.getElem?_cons_succ] at t0 t1; clear hoD hRd2 k2 u0 u1 u2 u3)
        | (go_at_call 83; refine StpQ.go ?_))
      refine ⟨?_⟩
      have HO2 : Hid (Old w W2) := hideP (HK2.out.mono (fun _ f => f.elim))
      have hE2 := HE.out.old HO2.out
      have hsub : sub.length ≤ 1099511627776 := by have := HSL.out; omega
      have hR2 := HR2.out
      unfold rbM at hR2
      cases hpk : pkn m sub q with
      | none =>
        rw [hpk] at hR2
        have HRn : Hid (R = none) := hideP hR2
        refine (pk_n W2 HRd2.out hsub (by omega) hE2 hpk).mono ?_
        rintro e W3 ⟨⟨b', rfl⟩, k3⟩
        have HK3 := hideP (HK2.out.trans k3 (fun _ f => f.elim))
        clear hR2 hpk hE2 k3 HR2
        go_wp2
        go_ret2
        rw [HRn.out]
        exact ⟨⟨_, rfl⟩, HK3.out⟩
      | some Mq =>
        obtain ⟨M, q2⟩ := Mq
        rw [hpk] at hR2
        simp only at hR2
        obtain ⟨_, _, mI, mP, _⟩ := pkn_back HSB.out hpk
        have HMI := hideP mI
        have HMP := hideP mP
        refine (pk_s W2 HRd2.out hsub (by omega) hE2 hpk).mono ?_
        rintro e W3 ⟨ma, mc, rfl, hoM, hRd3, k3⟩
        obtain ⟨ml, hml⟩ : ∃ ml, ml = M.length := ⟨_, rfl⟩
        rw [← hml] at hR2 hoM ⊢
        have HML := hideP hml
        have HK3 := hideP (HK2.out.trans k3 (fun i hi => .inr (by omega)))
        have HG3 := hideP (k3.heap HG2.out hbx)
        have v1 := cell_of_row _ _ 1 _ _ _ HG3.out
        simp only [List.getElem?_toArray, List.getElem?_cons_zero, List.getElem?_cons_succ] at v1
        by_cases hmm : ml = m
        · rw [if_pos hmm] at hR2
          subst hmm
          have HR3 : Hid (R = finB sub (rpl sub D M q2)) := hideP hR2
          have brs : br < W2.heap.size := lt_of_block HRd2.out.blk
          have HD3 : Hid (IntsAt W3 da D ∧ (D ≠ [] → ∃ b off, da = some ⟨b, off, none⟩ ∧ ¬ b = br)) := hideP (by
            have h1 := HoD.out
            obtain ⟨a', c', e', _, hcl⟩ := ints_of_own h1
            simp only [Value.slice.injEq, true_and] at e'
            obtain ⟨rfl, _⟩ := e'
            have hf : D ≠ [] → ∃ b off, da = some ⟨b, off, none⟩ ∧ ¬ b = br := fun hne => by
              obtain ⟨b, off, e, hb, _, _⟩ := hcl hne
              exact ⟨b, off, e, by omega⟩
            exact ⟨ints_step (intsAt_own h1) k3 hf, hf⟩)
          have HM3 : Hid (IntsAt W3 ma M ∧ (M ≠ [] → ∃ b off, ma = some ⟨b, off, none⟩ ∧ ¬ b = br)) := hideP (by
            obtain ⟨a', c', e', _, hcl⟩ := ints_of_own hoM
            simp only [Value.slice.injEq, true_and] at e'
            obtain ⟨rfl, _⟩ := e'
            have hf : M ≠ [] → ∃ b off, ma = some ⟨b, off, none⟩ ∧ ¬ b = br := fun hne => by
              obtain ⟨b, off, e, hb, _, _⟩ := hcl hne
              exact ⟨b, off, e, by omega⟩
            exact ⟨intsAt_own hoM, hf⟩)
          have HRd3 := hideP hRd3
          have HK13 : Hid (W1.heap.size ≤ W3.heap.size) := hideP (by have := k3.size; have := HK12.out; omega)
          have br3 : br < W3.heap.size := lt_of_block hRd3.blk
          have HDl : Hid (dn = ml) := hideP (by rw [HDn.out]; exact rdd_len HRdd.out)
          have hdl := HDl.out
          subst hdl
          obtain ⟨i0, hi, hz0, hz1, hz2⟩ := info_partsP Tryz.infoPo
          clear hR2 hpk hE2 k3 hoM hRd3 HR2 mI mP hml HRd2 HoD
          go_wp2_with (at_make; refine wpList_make_own _ rfl _ _ 22 rfl W3.heap.size 38 i0 (.agg #[.int .i64 0, .slice none 0 0]) 2 Tryz.underlying22 hi hz0 hz1 _ _ _ dn rfl rfl (by omega) (by rw [hz2]; omega) (by unfold maxLen; omega) (Nat.le_refl _) ?_)
          intro w1 ho1 hg1
          have HP1 : Hid (Gps (fun i => i = br) W3 w1 (.slice (some ⟨W3.heap.size, 0, none⟩) 0 dn) 0 []) := hideP ⟨ho1, (Kept.grown hg1).mono (fun _ e => by cases e), (fun g hg => nomatch hg), (fun g hg => nomatch hg)⟩
          have HRd4 := hideP (HRd3.out.kept (F := fun _ => False) ((Kept.grown hg1).mono (fun _ e => by cases e)) (fun f => f) (fun _ _ f => f))
          clear ho1 hg1 hi hz0 hz1 hz2 HRd3
          go_wp2
          go_loopw [14, 82] (fun v14 v82 wr => ∃ (FL : List Pg) (j qj : Nat) (va : Option Addr) (vc : Nat), v14 = .slice va j vc ∧ v82 = .int .i64 j ∧ j ≤ dn ∧ Hid (Gps (fun i => i = br) W3 wr (.slice va j vc) j FL) ∧ Hid (Rd wr br rv sub qj) ∧ Hid (rpl sub D M q2 = apP (pol FL) (rpl sub (D.drop j) (M.drop j) qj))) (fun _ v82 _ => dn - (intOf v82).toNat)
          case atStart =>
            refine ⟨[], 0, q2, _, _, rfl, rfl, by omega, HP1, HRd4, hideP ?_⟩
            rw [List.drop_zero, List.drop_zero]
            cases rpl sub D M q2 with
            | none => rfl
            | some x => obtain ⟨F, r⟩ := x; rfl
          case round =>
            obtain ⟨FL, j, qj, va, vc, rfl, rfl, hj, HGp, HRj, HQ⟩ := hrel
            clear HP1 HRd4
            have HKr := hideP HGp.out.kept
            by_cases hlt : j < dn
            · have hjj : (j : Int) < (dn : Int) := by omega
              have hjD : j < D.length := by rw [← HDn.out]; exact hlt
              have hjM : j < M.length := by rw [← HML.out]; exact hlt
              obtain ⟨db, dof, hda, hcd⟩ := (ints_step HD3.out.1 HKr.out HD3.out.2).get hjD
              obtain ⟨mb, mof, hma, hcm⟩ := (ints_step HM3.out.1 HKr.out HM3.out.2).get hjM
              obtain ⟨d, hd⟩ : ∃ d, d = D[j]?.getD 0 := ⟨_, rfl⟩
              obtain ⟨x, hx⟩ : ∃ x, x = M[j]?.getD 0 := ⟨_, rfl⟩
              rw [← hd] at hcd
              rw [← hx] at hcm
              have hdD : D[j] = d := by rw [hd, List.getElem?_eq_getElem hjD]; rfl
              have hxM : M[j] = x := by rw [hx, List.getElem?_eq_getElem hjM]; rfl
              have hx0 := HMP.out x (by rw [← hxM]; exact List.getElem_mem hjM)
              have hx1 := (HMI.out x (by rw [← hxM]; exact List.getElem_mem hjM)).2
              obtain ⟨y, hy⟩ : ∃ y : Nat, x = y := ⟨x.toNat, by omega⟩
              have HDr : Hid (D.drop j = d :: D.drop (j + 1)) := hideP (by rw [List.drop_eq_getElem_cons hjD, hdD])
              have HMr : Hid (M.drop j = (y : Int) :: M.drop (j + 1)) := hideP (by rw [List.drop_eq_getElem_cons hjM, hxM, hy])
              rw [hy] at hcm
              have hOr : Old w wr := (HK3.out.mono (fun _ f => f.elim)).trans HKr.out (fun i hi => .inl (by omega))
              have CR := readPositions_any y w wr HRj.out hsub (by omega) HE.out hOr (by omega)
              subst hda hma
              clear hd hx hdD hxM hx0 hx1 hy hOr hjD hjM
              cases hrp : rps sub y qj with
              | none =>
                rw [hrp] at CR
                have HCR := hideP CR
                have HRn : Hid (R = none) := hideP (by rw [HR3.out, HQ.out, HDr.out, HMr.out, rpl_n (by rw [Int.toNat_natCast]; exact hrp)]; rfl)
                clear CR hrp HQ HDr HMr
                go_wp2_with (go_at_call 84; refine HCR.out.mono ?_; clear HCR; rintro e W4 ⟨rfl, k4⟩; have HK4 := hideP ((HK3.out.trans HKr.out (fun i hi => .inr (by omega))).trans k4 (fun i hi => .inr (by omega))); clear k4)
                go_ret2
                rw [HRn.out]
                exact ⟨⟨_, rfl⟩, HK4.out⟩
              | some xq =>
                obtain ⟨ps, q'⟩ := xq
                rw [hrp] at CR
                unfold rpPost at CR
                simp only at CR
                have HQ2 : Hid (rpl sub D M q2 = apP (pol FL ++ [⟨d, ps⟩]) (rpl sub (D.drop (j + 1)) (M.drop (j + 1)) q')) := hideP (by rw [HQ.out, HDr.out, HMr.out, rpl_s (by rw [Int.toNat_natCast]; exact hrp), apP_step])
                obtain ⟨pn, hpn⟩ : ∃ pn, pn = ps.length := ⟨_, rfl⟩
                rw [← hpn] at CR
                have HCR := hideP CR
                have HPn := hideP hpn
                have szr := HKr.out.size
                clear CR hrp HQ HDr HMr hpn
                go_wp2_with (first
                  | (go_at_call 84; refine HCR.out.mono ?_; clear HCR; rintro e W4 ⟨pa, pc, rfl, hop, hR4, k4⟩; have HR4 := hideP hR4; have HG4 := hideP (HGp.out.step k4 (fun i hi => ⟨hi, by omega⟩)); have GW := hideP HG4.out.own; have HOp := hideP hop; have s4 := HG4.out.kept.size; have HNL : Hid (∀ i, (Value.slice va j vc).ownBlock = some i → i < wr.heap.size) := hideP (fun i hi => (HGp.out.own.lt i hi).2); clear hop hR4 k4)
                  | (at_builtin; refine wpList_pushG rfl _ _ rfl _ j (pcs FL) ⟨d, pa, pc, ps⟩ pn HPn.out rfl GW s4 _ (by first | rfl | simp) rfl (by omega) ?_; intro gb c' W5 O5 K5 A5))
                have HF : Hid (ps ≠ [] → ∃ b off, pa = some ⟨b, off, none⟩ ∧ wr.heap.size ≤ b ∧ b < W4.heap.size) := hideP (fun hne => by
                  obtain ⟨a', c', e', _, hcl⟩ := ints_of_own HOp.out
                  simp only [Value.slice.injEq, true_and] at e'
                  obtain ⟨rfl, _⟩ := e'
                  obtain ⟨b, off, e, hb, hbo, _⟩ := hcl hne
                  exact ⟨b, off, e, hb, (HOp.out.lt b hbo).2⟩)
                have HG5 := hideP (HG4.out.more (M := [⟨d, pa, pc, ps⟩]) O5.out K5.out A5.out (fun g hg => by rw [List.mem_singleton] at hg; subst hg; exact intsAt_own HOp.out) (fun g hg hne => by
                  rw [List.mem_singleton] at hg
                  subst hg
                  obtain ⟨b, off, e, h1, h2⟩ := HF.out hne
                  exact ⟨b, off, e, by omega, h2, fun f => by have := HNL.out b f; omega⟩))
                have HR5 := hideP (HR4.out.kept K5.out (fun e => by have := (GW.out.lt _ e).1; omega) (fun i hi e => by have := (GW.out.lt _ e).1; have := HRvL.out i hi; have := HK13.out; omega))
                clear O5 K5 A5 GW HF HOp HR4
                go_roundw
                case rel => exact ⟨FL ++ [⟨d, pa, pc, ps⟩], j + 1, q', _, _, rfl, by go_num, by omega, HG5, HR5, hideP (by rw [HQ2.out]; simp [pol, Pg.po])⟩
                case measure => simp [intOf]; omega
            · have hjj : ¬ (j : Int) < (dn : Int) := by omega
              have hdr : D.drop j = [] := List.drop_of_length_le (by have := HDn.out; omega)
              obtain ⟨hPs, hjn, hjc⟩ := HGp.out.at
              have HPs := hideP hPs
              have HRf : Hid (R = if qj = sub.length then some (pol FL) else none) := hideP (by rw [HR3.out, HQ.out, hdr, rpl, apP, finB, List.append_nil])
              have HJ := hideP hjn
              clear hdr hPs hjn HQ
              by_cases hq : qj < sub.length
              · have HRn : Hid (R = none) := hideP (by rw [HRf.out, if_neg (by omega)])
                have CDn : Hid (∀ n', Calls Tryz.prog 85 #[.pointer (some ⟨br, 0, none⟩)] (wr.drewN n') fun e w' => e = .returned (.iface 163 (.pointer (some (ad 4)))) ∧ ∃ m, w' = wr.drewN m) := hideP (fun n' => by
                  refine (donep_n (wr.drewN n') (HRj.out.drewN n') (HE.out.old (Old.none (w0 := w) (w := wr) ((HK3.out.mono (fun _ f => f.elim)).trans HKr.out (fun i hi => .inl (by omega))) (Kept.drewN wr n'))) hq).mono ?_
                  rintro e w' ⟨rfl, mm, rfl⟩
                  exact ⟨rfl, n' + mm, by rw [World.drewN_drewN]⟩)
                clear HRf
                go_wp2_with fail
                go_quiet ((exact CDn.out _))
                go_wp2
                go_ret2
                rw [HRn.out]
                exact ⟨⟨_, rfl⟩, (HK3.out.trans HKr.out (fun i hi => .inr (by omega))).trans (Kept.drewN wr nq) (fun _ f => f.elim)⟩
              · have hle := HRj.out.le
                have HRn : Hid (R = some (pol FL)) := hideP (by rw [HRf.out, if_pos (by omega)])
                have CDn : Hid (∀ n', Calls Tryz.prog 85 #[.pointer (some ⟨br, 0, none⟩)] (wr.drewN n') fun e w' => e = .returned .nilIface ∧ ∃ m, w' = wr.drewN m) := hideP (fun n' => by
                  refine (donep_s (wr.drewN n') (HRj.out.drewN n') hq).mono ?_
                  rintro e w' ⟨rfl, mm, rfl⟩
                  exact ⟨rfl, n' + mm, by rw [World.drewN_drewN]⟩)
                clear HRf hle
                go_wp2_with fail
                go_quiet ((exact CDn.out _))
                go_wp2
                go_ret2
                rw [HRn.out]
                have kd := Kept.drewN wr nq
                refine ⟨FL, va, vc, rfl, ?_, HPs.out.kept kd, by rw [← HJ.out]; exact hjc, ⟨fun g hg hne => ?_, fun hne => ?_⟩, (HK3.out.trans HKr.out (fun i hi => .inr (by omega))).trans kd (fun _ f => f.elim)⟩
                · rw [← HJ.out]; rfl
                · obtain ⟨b, off, e, h1, h2, _⟩ := HGp.out.far g hg hne
                  exact ⟨b, off, e, by have := HK3.out.size; omega, by have := kd.size; omega⟩
                · have hpos := List.length_pos_iff.2 hne
                  rcases HGp.out.own.2 with ⟨e1, e2⟩ | ⟨gq, cap, cur, e1, hgq, _⟩
                  · have := HJ.out
                    omega
                  · simp only [Value.slice.injEq] at e1
                    exact ⟨gq, e1.1, by have := HK3.out.size; omega⟩
        · rw [if_neg hmm] at hR2
          have HRn : Hid (R = none) := hideP hR2
          have hmm1 : ¬ (ml : Int) = (m : Int) := by omega
          clear hR2 hpk hE2 k3 hoM hRd3 HR2 mI mP hml HRd2 HoD
          go_wp2
          go_ret2
          rw [HRn.out]
          exact ⟨⟨_, rfl⟩, HK3.out⟩
  · have dp := HK0.out.cell xp (fun f => f)
    subst hkk
    go_enter Tryz.func68, Tryz.ntmps68
    go_wp2_with fail
    generalize w.alloc (.cells #[.int .i64 last, .int .i64 m, .int .i64 at_, .int .i64 z] 80) = W0 at *
    have hS0 : Kept (fun _ => False) W0 W0.drew := Kept.drewN W0 1
    refine wp_region_held (S := fun W' => Kept (fun _ => False) W0 W') (by kernel_rfl) ?_
    change wpAnyH _ _ _ _ _ _ _ _ (World.drew _)
    refine takeZ (i := 0) (d := 42) (v := .pointer (some ⟨bl, 0, none⟩)) rfl rfl (by kernel_rfl) (by kernel_rfl) (by kernel_rfl) (fun _ _ _ h => h) (Or.inl ⟨by rfl, fun W hW => ?_⟩) hS0 ?_
    · (go_simp)
    simp only [Act.put, List.setIfInBounds_toArray, List.set_cons_zero, List.set_cons_succ]
    refine takeZ (i := 1) (d := 43) (v := .pointer (some ⟨bl, 0, none⟩)) rfl rfl (by kernel_rfl) (by kernel_rfl) (by kernel_rfl) (fun _ _ _ h => h) (Or.inl ⟨by rfl, fun W hW => ?_⟩) hS0 ?_
    · (go_simp)
    simp only [Act.put, List.setIfInBounds_toArray, List.set_cons_zero, List.set_cons_succ]
    refine takeZ (i := 2) (d := 44) (v := .pointer (some ⟨bl, 0, none⟩)) rfl rfl (by kernel_rfl) (by kernel_rfl) (by kernel_rfl) (fun _ _ _ h => h) (Or.inl ⟨by rfl, fun W hW => ?_⟩) hS0 ?_
    · (go_simp)
    simp only [Act.put, List.setIfInBounds_toArray, List.set_cons_zero, List.set_cons_succ]
    refine takeZ (i := 3) (d := 45) (v := .slice (some ⟨ib, io, none⟩) ll ic) rfl rfl (by kernel_rfl) (by kernel_rfl) (by kernel_rfl) (fun _ _ _ h => h) (Or.inl ⟨by rfl, fun W hW => ?_⟩) hS0 ?_
    · (have z1 := hW.cell d0 (fun f => f); go_simp)
    simp only [Act.put, List.setIfInBounds_toArray, List.set_cons_zero, List.set_cons_succ]
    refine takeZ (i := 4) (d := 46) (v := .pointer (some ⟨w.heap.size, 2, none⟩)) rfl rfl (by kernel_rfl) (by kernel_rfl) (by kernel_rfl) (fun _ _ _ h => h) (Or.inl ⟨by rfl, fun W hW => ?_⟩) hS0 ?_
    · (go_simp)
    simp only [Act.put, List.setIfInBounds_toArray, List.set_cons_zero, List.set_cons_succ]
    refine takeZ (i := 5) (d := 47) (v := .int .i64 at_) rfl rfl (by kernel_rfl) (by kernel_rfl) (by kernel_rfl) (fun _ _ _ h => h) (Or.inl ⟨by rfl, fun W hW => ?_⟩) hS0 ?_
    · (have z1 := hW.cell y2 (fun f => f); go_simp)
    simp only [Act.put, List.setIfInBounds_toArray, List.set_cons_zero, List.set_cons_succ]
    refine takeZ (i := 6) (d := 48) (v := .int .i64 ((at_ : Int) + (z : Int))) rfl rfl (by kernel_rfl) (by kernel_rfl) (by kernel_rfl) (fun _ _ _ h => h) (Or.inl ⟨by rfl, fun W hW => ?_⟩) hS0 ?_
    · (go_simp)
    simp only [Act.put, List.setIfInBounds_toArray, List.set_cons_zero, List.set_cons_succ]
    refine takeZ (i := 7) (d := 49) (v := .int .i64 ((at_ : Int) + (z : Int))) rfl rfl (by kernel_rfl) (by kernel_rfl) (by kernel_rfl) (fun _ _ _ h => h) (Or.inl ⟨by rfl, fun W hW => ?_⟩) hS0 ?_
    · (go_simp)
    simp only [Act.put, List.setIfInBounds_toArray, List.set_cons_zero, List.set_cons_succ]
    refine takeZ (i := 8) (d := 50) (v := .slice (some ⟨ib, o', none⟩) z z) rfl rfl (by kernel_rfl) (by kernel_rfl) (by kernel_rfl) (fun _ _ _ h => h) (Or.inl ⟨by rfl, fun W hW => ?_⟩) hS0 ?_
    · (rw [HO'.out]
       go_simp
       rw [if_pos ⟨by omega, by omega⟩, if_pos ⟨by omega, by omega⟩, if_pos (by omega), show ((at_ : Int) + (z : Int)).toNat = at_ + z by omega, Nat.add_sub_cancel_left]
       by_cases hz0 : z = 0
       · rw [if_pos (by omega), if_pos hz0]
       · rw [if_neg (by omega), if_neg hz0])
    simp only [Act.put, List.setIfInBounds_toArray, List.set_cons_zero, List.set_cons_succ]
    have CN := newr_any sub (some ⟨ib, o', none⟩) z W0.drew (HBt.out.kept hS0) HSB.out (by have := HSL.out; omega)
    rw [HSL.out] at CN
    refine wpAnyH_all (rs := [9]) (by kernel_rfl) (by simp) ?_
    intro i hi
    obtain rfl : i = 9 := by simpa using hi
    unfold wpOp
    go_simp
    refine Or.inl (CN.mono ?_)
    rintro e W1 ⟨br, rv, rfl, hRd, hbr, hrv, k1⟩
    have hS1 := hS0.trans k1 (fun _ f => f.elim)
    refine ⟨hS1, ?_⟩
    refine takeZ (i := 10) (d := 9) (v := .pointer (some ⟨br, 0, none⟩)) rfl rfl (by kernel_rfl) (by kernel_rfl) (by kernel_rfl) (fun _ _ _ h => h) (Or.inl ⟨by rfl, fun W hW => ?_⟩) hS1 ?_
    · (go_simp)
    simp only [Act.put, List.setIfInBounds_toArray, List.set_cons_zero, List.set_cons_succ]
    refine wpAnyH_done (by kernel_rfl) ?_ _
    have K1 := HK0.out.trans hS1 (fun _ f => f.elim)
    have HK1 := hideP K1
    have HG1 := hideP (hS1.heap HG0.out (fun f => f))
    have hbrw : w.heap.size < br := by
      have q1 := lt_of_block HG0.out
      have q2 := (Kept.drewN W0 1).size
      simp at hbr
      omega
    have hbx : ¬ w.heap.size = br := by omega
    have hOw : Old w W1 := K1.mono (fun _ f => f.elim)
    have HOw := hideP hOw
    have CD := hideP (readDocs_any bz last m at_ z w W1 hRd (by have := HSL.out; omega) hs3 hb1 hb2 hs1 hs2 HE.out hOw)
    have u0 := cell_of_row _ _ 0 _ _ _ HG1.out
    have u1 := cell_of_row _ _ 1 _ _ _ HG1.out
    have u2 := cell_of_row _ _ 2 _ _ _ HG1.out
    have u3 := cell_of_row _ _ 3 _ _ _ HG1.out
    simp only [List.getElem?_toArray, List.getElem?_cons_zero, List.getElem?_cons_succ] at u0 u1 u2 u3
    have HRv : Hid (∀ j, rv.ownBlock = some j → w.heap.size ≤ j) := hideP (fun j hj => by have := hrv j hj; have q2 := HK0.out.size; simp at this; omega)
    have HRvL : Hid (∀ j, rv.ownBlock = some j → j < W1.heap.size) := hideP (fun j hj => (hRd.own.lt j hj).2)
    have HRe := HR.out
    rw [rbk_eq] at HRe
    have ev : (br : Nat) < W1.heap.size := lt_of_block hRd.blk
    clear hRd hS0 hS1 k1 CN d0 d3 y0 y1 y2 y3 hbr hrv K1 hOw HBt HG0 HR c0 c3 x0 x1 x2 x3 esum
    cases hrd : rdd sub bz last m 0 with
    | none =>
      rw [hrd] at HRe CD
      have HRn : Hid (R = none) := hideP HRe
      clear HRe hrd
      go_wp2_with (go_at_call 82; refine CD.out.mono ?_; clear CD; rintro e W2 ⟨⟨u, rfl⟩, k2⟩; have HK2 := hideP (HK1.out.trans k2 (fun i hi => .inr (by omega))); clear k2)
      go_ret2
      rw [HRn.out]
      exact ⟨⟨_, rfl⟩, HK2.out⟩
    | some Dq =>
      obtain ⟨D, q⟩ := Dq
      rw [hrd] at HRe CD
      simp only at HRe
      have HR2 : Hid (R = rbM sub D m q) := hideP HRe
      have HRdd := hideP hrd
      clear HRe hrd
      obtain ⟨dn, hdn⟩ : ∃ dn, dn = D.length := ⟨_, rfl⟩
      unfold rdPost at CD
      simp only at CD
      rw [← hdn] at CD
      have HDn := hideP hdn
      clear hdn
      go_wp2_with (first
        | (go_at_call 82; refine CD.out.mono ?_; clear CD; rintro e W2 ⟨da, dc, rfl, hoD, hRd2, k2⟩; have HoD := hideP hoD; have HRd2 := hideP hRd2; have HK2 := hideP (HK1.out.trans k2 (fun i hi => .inr (by omega))); have HK12 := hideP k2.size; have HG2 := hideP (k2.heap HG1.out hbx); have t0 := cell_of_row _ _ 0 _ _ _ HG2.out; have t1 := cell_of_row _ _ 1 _ _ _ HG2.out; simp only [List.getElem?_toArray, List.getElem?_cons_zero, List.getElem?_cons_succ] at t0 t1; clear hoD hRd2 k2 u0 u1 u2 u3)
        | (go_at_call 83; refine StpQ.go ?_))
      refine ⟨?_⟩
      have HO2 : Hid (Old w W2) := hideP (HK2.out.mono (fun _ f => f.elim))
      have hE2 := HE.out.old HO2.out
      have hsub : sub.length ≤ 1099511627776 := by have := HSL.out; omega
      have hR2 := HR2.out
      unfold rbM at hR2
      cases hpk : pkn m sub q with
      | none =>
        rw [hpk] at hR2
        have HRn : Hid (R = none) := hideP hR2
        refine (pk_n W2 HRd2.out hsub (by omega) hE2 hpk).mono ?_
        rintro e W3 ⟨⟨b', rfl⟩, k3⟩
        have HK3 := hideP (HK2.out.trans k3 (fun _ f => f.elim))
        clear hR2 hpk hE2 k3 HR2
        go_wp2
        go_ret2
        rw [HRn.out]
        exact ⟨⟨_, rfl⟩, HK3.out⟩
      | some Mq =>
        obtain ⟨M, q2⟩ := Mq
        rw [hpk] at hR2
        simp only at hR2
        obtain ⟨_, _, mI, mP, _⟩ := pkn_back HSB.out hpk
        have HMI := hideP mI
        have HMP := hideP mP
        refine (pk_s W2 HRd2.out hsub (by omega) hE2 hpk).mono ?_
        rintro e W3 ⟨ma, mc, rfl, hoM, hRd3, k3⟩
        obtain ⟨ml, hml⟩ : ∃ ml, ml = M.length := ⟨_, rfl⟩
        rw [← hml] at hR2 hoM ⊢
        have HML := hideP hml
        have HK3 := hideP (HK2.out.trans k3 (fun i hi => .inr (by omega)))
        have HG3 := hideP (k3.heap HG2.out hbx)
        have v1 := cell_of_row _ _ 1 _ _ _ HG3.out
        simp only [List.getElem?_toArray, List.getElem?_cons_zero, List.getElem?_cons_succ] at v1
        by_cases hmm : ml = m
        · rw [if_pos hmm] at hR2
          subst hmm
          have HR3 : Hid (R = finB sub (rpl sub D M q2)) := hideP hR2
          have brs : br < W2.heap.size := lt_of_block HRd2.out.blk
          have HD3 : Hid (IntsAt W3 da D ∧ (D ≠ [] → ∃ b off, da = some ⟨b, off, none⟩ ∧ ¬ b = br)) := hideP (by
            have h1 := HoD.out
            obtain ⟨a', c', e', _, hcl⟩ := ints_of_own h1
            simp only [Value.slice.injEq, true_and] at e'
            obtain ⟨rfl, _⟩ := e'
            have hf : D ≠ [] → ∃ b off, da = some ⟨b, off, none⟩ ∧ ¬ b = br := fun hne => by
              obtain ⟨b, off, e, hb, _, _⟩ := hcl hne
              exact ⟨b, off, e, by omega⟩
            exact ⟨ints_step (intsAt_own h1) k3 hf, hf⟩)
          have HM3 : Hid (IntsAt W3 ma M ∧ (M ≠ [] → ∃ b off, ma = some ⟨b, off, none⟩ ∧ ¬ b = br)) := hideP (by
            obtain ⟨a', c', e', _, hcl⟩ := ints_of_own hoM
            simp only [Value.slice.injEq, true_and] at e'
            obtain ⟨rfl, _⟩ := e'
            have hf : M ≠ [] → ∃ b off, ma = some ⟨b, off, none⟩ ∧ ¬ b = br := fun hne => by
              obtain ⟨b, off, e, hb, _, _⟩ := hcl hne
              exact ⟨b, off, e, by omega⟩
            exact ⟨intsAt_own hoM, hf⟩)
          have HRd3 := hideP hRd3
          have HK13 : Hid (W1.heap.size ≤ W3.heap.size) := hideP (by have := k3.size; have := HK12.out; omega)
          have br3 : br < W3.heap.size := lt_of_block hRd3.blk
          have HDl : Hid (dn = ml) := hideP (by rw [HDn.out]; exact rdd_len HRdd.out)
          have hdl := HDl.out
          subst hdl
          obtain ⟨i0, hi, hz0, hz1, hz2⟩ := info_partsP Tryz.infoPo
          clear hR2 hpk hE2 k3 hoM hRd3 HR2 mI mP hml HRd2 HoD
          go_wp2_with (at_make; refine wpList_make_own _ rfl _ _ 22 rfl W3.heap.size 38 i0 (.agg #[.int .i64 0, .slice none 0 0]) 2 Tryz.underlying22 hi hz0 hz1 _ _ _ dn rfl rfl (by omega) (by rw [hz2]; omega) (by unfold maxLen; omega) (Nat.le_refl _) ?_)
          intro w1 ho1 hg1
          have HP1 : Hid (Gps (fun i => i = br) W3 w1 (.slice (some ⟨W3.heap.size, 0, none⟩) 0 dn) 0 []) := hideP ⟨ho1, (Kept.grown hg1).mono (fun _ e => by cases e), (fun g hg => nomatch hg), (fun g hg => nomatch hg)⟩
          have HRd4 := hideP (HRd3.out.kept (F := fun _ => False) ((Kept.grown hg1).mono (fun _ e => by cases e)) (fun f => f) (fun _ _ f => f))
          clear ho1 hg1 hi hz0 hz1 hz2 HRd3
          go_wp2
          go_loopw [14, 82] (fun v14 v82 wr => ∃ (FL : List Pg) (j qj : Nat) (va : Option Addr) (vc : Nat), v14 = .slice va j vc ∧ v82 = .int .i64 j ∧ j ≤ dn ∧ Hid (Gps (fun i => i = br) W3 wr (.slice va j vc) j FL) ∧ Hid (Rd wr br rv sub qj) ∧ Hid (rpl sub D M q2 = apP (pol FL) (rpl sub (D.drop j) (M.drop j) qj))) (fun _ v82 _ => dn - (intOf v82).toNat)
          case atStart =>
            refine ⟨[], 0, q2, _, _, rfl, rfl, by omega, HP1, HRd4, hideP ?_⟩
            rw [List.drop_zero, List.drop_zero]
            cases rpl sub D M q2 with
            | none => rfl
            | some x => obtain ⟨F, r⟩ := x; rfl
          case round =>
            obtain ⟨FL, j, qj, va, vc, rfl, rfl, hj, HGp, HRj, HQ⟩ := hrel
            clear HP1 HRd4
            have HKr := hideP HGp.out.kept
            by_cases hlt : j < dn
            · have hjj : (j : Int) < (dn : Int) := by omega
              have hjD : j < D.length := by rw [← HDn.out]; exact hlt
              have hjM : j < M.length := by rw [← HML.out]; exact hlt
              obtain ⟨db, dof, hda, hcd⟩ := (ints_step HD3.out.1 HKr.out HD3.out.2).get hjD
              obtain ⟨mb, mof, hma, hcm⟩ := (ints_step HM3.out.1 HKr.out HM3.out.2).get hjM
              obtain ⟨d, hd⟩ : ∃ d, d = D[j]?.getD 0 := ⟨_, rfl⟩
              obtain ⟨x, hx⟩ : ∃ x, x = M[j]?.getD 0 := ⟨_, rfl⟩
              rw [← hd] at hcd
              rw [← hx] at hcm
              have hdD : D[j] = d := by rw [hd, List.getElem?_eq_getElem hjD]; rfl
              have hxM : M[j] = x := by rw [hx, List.getElem?_eq_getElem hjM]; rfl
              have hx0 := HMP.out x (by rw [← hxM]; exact List.getElem_mem hjM)
              have hx1 := (HMI.out x (by rw [← hxM]; exact List.getElem_mem hjM)).2
              obtain ⟨y, hy⟩ : ∃ y : Nat, x = y := ⟨x.toNat, by omega⟩
              have HDr : Hid (D.drop j = d :: D.drop (j + 1)) := hideP (by rw [List.drop_eq_getElem_cons hjD, hdD])
              have HMr : Hid (M.drop j = (y : Int) :: M.drop (j + 1)) := hideP (by rw [List.drop_eq_getElem_cons hjM, hxM, hy])
              rw [hy] at hcm
              have hOr : Old w wr := (HK3.out.mono (fun _ f => f.elim)).trans HKr.out (fun i hi => .inl (by omega))
              have CR := readPositions_any y w wr HRj.out hsub (by omega) HE.out hOr (by omega)
              subst hda hma
              clear hd hx hdD hxM hx0 hx1 hy hOr hjD hjM
              cases hrp : rps sub y qj with
              | none =>
                rw [hrp] at CR
                have HCR := hideP CR
                have HRn : Hid (R = none) := hideP (by rw [HR3.out, HQ.out, HDr.out, HMr.out, rpl_n (by rw [Int.toNat_natCast]; exact hrp)]; rfl)
                clear CR hrp HQ HDr HMr
                go_wp2_with (go_at_call 84; refine HCR.out.mono ?_; clear HCR; rintro e W4 ⟨rfl, k4⟩; have HK4 := hideP ((HK3.out.trans HKr.out (fun i hi => .inr (by omega))).trans k4 (fun i hi => .inr (by omega))); clear k4)
                go_ret2
                rw [HRn.out]
                exact ⟨⟨_, rfl⟩, HK4.out⟩
              | some xq =>
                obtain ⟨ps, q'⟩ := xq
                rw [hrp] at CR
                unfold rpPost at CR
                simp only at CR
                have HQ2 : Hid (rpl sub D M q2 = apP (pol FL ++ [⟨d, ps⟩]) (rpl sub (D.drop (j + 1)) (M.drop (j + 1)) q')) := hideP (by rw [HQ.out, HDr.out, HMr.out, rpl_s (by rw [Int.toNat_natCast]; exact hrp), apP_step])
                obtain ⟨pn, hpn⟩ : ∃ pn, pn = ps.length := ⟨_, rfl⟩
                rw [← hpn] at CR
                have HCR := hideP CR
                have HPn := hideP hpn
                have szr := HKr.out.size
                clear CR hrp HQ HDr HMr hpn
                go_wp2_with (first
                  | (go_at_call 84; refine HCR.out.mono ?_; clear HCR; rintro e W4 ⟨pa, pc, rfl, hop, hR4, k4⟩; have HR4 := hideP hR4; have HG4 := hideP (HGp.out.step k4 (fun i hi => ⟨hi, by omega⟩)); have GW := hideP HG4.out.own; have HOp := hideP hop; have s4 := HG4.out.kept.size; have HNL : Hid (∀ i, (Value.slice va j vc).ownBlock = some i → i < wr.heap.size) := hideP (fun i hi => (HGp.out.own.lt i hi).2); clear hop hR4 k4)
                  | (at_builtin; refine wpList_pushG rfl _ _ rfl _ j (pcs FL) ⟨d, pa, pc, ps⟩ pn HPn.out rfl GW s4 _ (by first | rfl | simp) rfl (by omega) ?_; intro gb c' W5 O5 K5 A5))
                have HF : Hid (ps ≠ [] → ∃ b off, pa = some ⟨b, off, none⟩ ∧ wr.heap.size ≤ b ∧ b < W4.heap.size) := hideP (fun hne => by
                  obtain ⟨a', c', e', _, hcl⟩ := ints_of_own HOp.out
                  simp only [Value.slice.injEq, true_and] at e'
                  obtain ⟨rfl, _⟩ := e'
                  obtain ⟨b, off, e, hb, hbo, _⟩ := hcl hne
                  exact ⟨b, off, e, hb, (HOp.out.lt b hbo).2⟩)
                have HG5 := hideP (HG4.out.more (M := [⟨d, pa, pc, ps⟩]) O5.out K5.out A5.out (fun g hg => by rw [List.mem_singleton] at hg; subst hg; exact intsAt_own HOp.out) (fun g hg hne => by
                  rw [List.mem_singleton] at hg
                  subst hg
                  obtain ⟨b, off, e, h1, h2⟩ := HF.out hne
                  exact ⟨b, off, e, by omega, h2, fun f => by have := HNL.out b f; omega⟩))
                have HR5 := hideP (HR4.out.kept K5.out (fun e => by have := (GW.out.lt _ e).1; omega) (fun i hi e => by have := (GW.out.lt _ e).1; have := HRvL.out i hi; have := HK13.out; omega))
                clear O5 K5 A5 GW HF HOp HR4
                go_roundw
                case rel => exact ⟨FL ++ [⟨d, pa, pc, ps⟩], j + 1, q', _, _, rfl, by go_num, by omega, HG5, HR5, hideP (by rw [HQ2.out]; simp [pol, Pg.po])⟩
                case measure => simp [intOf]; omega
            · have hjj : ¬ (j : Int) < (dn : Int) := by omega
              have hdr : D.drop j = [] := List.drop_of_length_le (by have := HDn.out; omega)
              obtain ⟨hPs, hjn, hjc⟩ := HGp.out.at
              have HPs := hideP hPs
              have HRf : Hid (R = if qj = sub.length then some (pol FL) else none) := hideP (by rw [HR3.out, HQ.out, hdr, rpl, apP, finB, List.append_nil])
              have HJ := hideP hjn
              clear hdr hPs hjn HQ
              by_cases hq : qj < sub.length
              · have HRn : Hid (R = none) := hideP (by rw [HRf.out, if_neg (by omega)])
                have CDn : Hid (∀ n', Calls Tryz.prog 85 #[.pointer (some ⟨br, 0, none⟩)] (wr.drewN n') fun e w' => e = .returned (.iface 163 (.pointer (some (ad 4)))) ∧ ∃ m, w' = wr.drewN m) := hideP (fun n' => by
                  refine (donep_n (wr.drewN n') (HRj.out.drewN n') (HE.out.old (Old.none (w0 := w) (w := wr) ((HK3.out.mono (fun _ f => f.elim)).trans HKr.out (fun i hi => .inl (by omega))) (Kept.drewN wr n'))) hq).mono ?_
                  rintro e w' ⟨rfl, mm, rfl⟩
                  exact ⟨rfl, n' + mm, by rw [World.drewN_drewN]⟩)
                clear HRf
                go_wp2_with fail
                go_quiet ((exact CDn.out _))
                go_wp2
                go_ret2
                rw [HRn.out]
                exact ⟨⟨_, rfl⟩, (HK3.out.trans HKr.out (fun i hi => .inr (by omega))).trans (Kept.drewN wr nq) (fun _ f => f.elim)⟩
              · have hle := HRj.out.le
                have HRn : Hid (R = some (pol FL)) := hideP (by rw [HRf.out, if_pos (by omega)])
                have CDn : Hid (∀ n', Calls Tryz.prog 85 #[.pointer (some ⟨br, 0, none⟩)] (wr.drewN n') fun e w' => e = .returned .nilIface ∧ ∃ m, w' = wr.drewN m) := hideP (fun n' => by
                  refine (donep_s (wr.drewN n') (HRj.out.drewN n') hq).mono ?_
                  rintro e w' ⟨rfl, mm, rfl⟩
                  exact ⟨rfl, n' + mm, by rw [World.drewN_drewN]⟩)
                clear HRf hle
                go_wp2_with fail
                go_quiet ((exact CDn.out _))
                go_wp2
                go_ret2
                rw [HRn.out]
                have kd := Kept.drewN wr nq
                refine ⟨FL, va, vc, rfl, ?_, HPs.out.kept kd, by rw [← HJ.out]; exact hjc, ⟨fun g hg hne => ?_, fun hne => ?_⟩, (HK3.out.trans HKr.out (fun i hi => .inr (by omega))).trans kd (fun _ f => f.elim)⟩
                · rw [← HJ.out]; rfl
                · obtain ⟨b, off, e, h1, h2, _⟩ := HGp.out.far g hg hne
                  exact ⟨b, off, e, by have := HK3.out.size; omega, by have := kd.size; omega⟩
                · have hpos := List.length_pos_iff.2 hne
                  rcases HGp.out.own.2 with ⟨e1, e2⟩ | ⟨gq, cap, cur, e1, hgq, _⟩
                  · have := HJ.out
                    omega
                  · simp only [Value.slice.injEq] at e1
                    exact ⟨gq, e1.1, by have := HK3.out.size; omega⟩
        · rw [if_neg hmm] at hR2
          have HRn : Hid (R = none) := hideP hR2
          have hmm1 : ¬ (ml : Int) = (m : Int) := by omega
          clear hR2 hpk hE2 k3 hoM hRd3 HR2 mI mP hml HRd2 HoD
          go_wp2
          go_ret2
          rw [HRn.out]
          exact ⟨⟨_, rfl⟩, HK3.out⟩
end Go.Proofs.YtidgofpmnlddaaaGreatDoor
