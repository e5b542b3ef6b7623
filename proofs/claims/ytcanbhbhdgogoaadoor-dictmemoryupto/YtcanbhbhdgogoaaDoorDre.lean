import Derived.Test.YtcanbhbhdgogoaaDoorDrd
namespace Go.Proofs.YtcanbhbhdgogoaaDoor
open Go.ChangeShapes Go.WideShapes Go.ChangeAt Go.RowKit

theorem blocksOf_any (n : Nat) (w : World) (h : n ≤ 1099511627776) : Calls Tryd.prog 56 #[.int .i64 n] w fun e w' => e = .returned (.int .i64 (nbk n : Nat)) ∧ w' = w := by
  have h1 : ((n : Int) + 16 - 1) = ((n + 15 : Nat) : Int) := by omega
  have h2 : (((n + 15 : Nat) : Int) / 16) = ((nbk n : Nat) : Int) := by unfold nbk; omega
  have h3 : ((n : Int) + 15) / 16 = ((nbk n : Nat) : Int) := by unfold nbk; omega
  have h4 : ((n : Int) + 15).tdiv 16 = ((nbk n : Nat) : Int) := by rw [Int.tdiv_eq_ediv_of_nonneg (by omega)]; exact h3
  have h5 : ((n : Int) + 16 - 1).tdiv 16 = ((nbk n : Nat) : Int) := by rw [show (n : Int) + 16 - 1 = (n : Int) + 15 by omega]; exact h4
  have h6 : nbk n ≤ 1099511627776 := by unfold nbk; omega
  have h7 : IntKind.i64.wrap ((nbk n : Nat) : Int) = ((nbk n : Nat) : Int) := by rw [IntKind.wrap_i64]; omega
  generalize nbk n = m at *
  go_enter Tryd.func56, Tryd.ntmps56
  go_wp2
  go_ret
  refine ⟨ret_int ?_, rfl⟩
  first | rfl | exact h4 | exact h5 | exact h3 | omega | (simp [h3, h4, h5]; done)
def rsPost (base : Nat) (l : List Int) (br : Nat) (v : Value) (a : Addr) (x : Option (List En × Nat)) (e : Ending) (w' : World) : Prop := match x with
  | none => e = pan a
  | some (E, q) => ∃ va, e = .returned va ∧ w'.ownsRow base 31 5 va E.length (ecs E) ∧ Rd w' br v l q
theorem rsp_none {base : Nat} {l : List Int} {br : Nat} {v : Value} {a : Addr} {x : Option (List En × Nat)} {W : World} (h : x = none) : rsPost base l br v a x (.panicked [{ v := errV a, recovered := false }]) W := by rw [h]; rfl
theorem par_u {l : List Int} (h : upn (l.length / 7) l 0 = none) : par l = none := by unfold par; rw [h]
theorem par_l {l : List Int} {n q : Nat} (h : upn (l.length / 7) l 0 = some (n, q)) (h2 : rls l (nbk n) q = none) : par l = none := by unfold par; rw [h]; simp only [h2]
theorem par_b {l : List Int} {n q q1 : Nat} {L : List Nat} (h : upn (l.length / 7) l 0 = some (n, q)) (h2 : rls l (nbk n) q = some (L, q1)) : par l = rbs l L n ByteArray.empty q1 := by unfold par; rw [h]; simp only [h2]
theorem prb_nil (x : Option (List En × Nat)) : prb [] x = x := by
  match x with
  | none => rfl
  | some (E, r) => rfl
theorem prb_none (E : List En) : prb E none = none := rfl
theorem rbs_no {l : List Int} {x n p : Nat} {L : List Nat} {b : ByteArray} (h : rbk l (min 16 n) ByteArray.empty p = none) : rbs l (x :: L) n b p = none := by rw [rbs, h]
theorem rbs_bad {l : List Int} {x n p q : Nat} {L : List Nat} {b : ByteArray} {F : List En} (h : rbk l (min 16 n) ByteArray.empty p = some (F, q)) (h2 : ¬ (klt b (headk F) = true ∧ q = p + x)) : rbs l (x :: L) n b p = none := by rw [rbs, h]; simp only [if_neg h2]
theorem rbs_ok {l : List Int} {x n p q : Nat} {L : List Nat} {b : ByteArray} {F : List En} (h : rbk l (min 16 n) ByteArray.empty p = some (F, q)) (h2 : klt b (headk F) = true ∧ q = p + x) : rbs l (x :: L) n b p = prb F (rbs l L (n - F.length) (lastk b F) q) := by
  rw [rbs, h]
  simp only [if_pos h2]
  cases rbs l L (n - F.length) (lastk b F) q with
  | none => rfl
  | some y => obtain ⟨E, r⟩ := y; rfl
theorem own_lowerD {w : World} {b b' e z n : Nat} {v : Value} {xs : List Value} (h : w.ownsRow b e z v n xs) (hb : b' ≤ b) : w.ownsRow b' e z v n xs := by
  refine ⟨h.1, ?_⟩
  rcases h.2 with hn | ⟨g, cap, cur, e1, hg, rest⟩
  · exact .inl hn
  · exact .inr ⟨g, cap, cur, e1, Nat.le_trans hb hg, rest⟩
theorem ErD.keptO {w w' : World} {br bE : Nat} {ob : Option Nat} {ad : Nat → Addr} (h : ErD w br ad) (k : Kept (fun i => i = br ∨ ob = some i) w w') (ho : ∀ k, ob = some k → bE ≤ k) (hg : 2 < bE ∧ 3 < bE ∧ 0 < bE ∧ 4 < bE ∧ 9 < bE) : ErD w' br ad := by
  have hn := h.ne
  have key : ∀ g, ¬ g = br → g < bE → ¬ (g = br ∨ ob = some g) := fun g h1 h2 h3 => h3.elim h1 (fun e => by have := ho g e; omega)
  exact ⟨k.cell h.s0 (key _ hn.1 hg.1), k.cell h.s1 (key _ hn.2.1 hg.2.1), k.cell h.s2 (key _ hn.2.2.1 hg.2.2.1), k.cell h.s4 (key _ hn.2.2.2.1 hg.2.2.2.1), k.cell h.s9 (key _ hn.2.2.2.2 hg.2.2.2.2), hn⟩
theorem addr_add (g j : Nat) : (⟨g, 0, none⟩ : Addr).add j = ⟨g, j, none⟩ := by unfold Addr.add; split <;> simp_all
set_option maxRecDepth 20000 in
set_option maxHeartbeats 8000000 in
theorem readEntries_any (l : List Int) (br : Nat) (v : Value) (ad : Nat → Addr) (w : World) (h : Rd w br v l 0) (hE : ErD w br ad) (hl : l.length ≤ 1099511627776) :
    Calls Tryd.prog 29 #[.pointer (some ⟨br, 0, none⟩)] w fun e w' => rsPost w.heap.size l br v (ad 9) (par l) e w' ∧ Kept (fun i => i = br) w w' := by
  have hbr : br < w.heap.size := lt_of_block h.blk
  have HI := hideQ h.isb
  have CL := hideQ (left_any br v l 0 w h)
  have HR := hideQ h
  have HE := hideQ hE
  have HV := hideQ (fun i (hi : v.ownBlock = some i) => (h.own.lt i hi).2)
  have HG0 := hideQ hE.lt
  obtain ⟨i0, hi0, hz0, hz1, hz2⟩ := info_parts Tryd.infoE
  clear h hE
  rw [Nat.sub_zero] at CL
  obtain ⟨m7, hm7⟩ : ∃ m7, m7 = l.length / 7 := ⟨_, rfl⟩
  have h7b : ((l.length : Nat) : Int) / 7 = (m7 : Int) := by omega
  have h7 : ((l.length : Nat) : Int).tdiv 7 = (m7 : Int) := by rw [Int.tdiv_eq_ediv_of_nonneg (by omega)]; exact h7b
  have hm7l : m7 ≤ 1099511627776 := by omega
  have HM7 := hideQ hm7
  clear hm7
  go_enter Tryd.func29, Tryd.ntmps29
  go_wp2_with (go_at_call 54; refine CL.out.mono ?_; rintro e W1 ⟨rfl, n1, rfl⟩)
  have HK1 := hideQ (Kept.drewN w n1)
  replace HR := hideQ (HR.out.kept HK1.out (fun f => f) (fun _ _ f => f))
  replace HE := hideQ (HE.out.keptF HK1.out)
  have HK := hideQ (HK1.out.mono (G := fun i => i = br) (fun _ f => f.elim))
  generalize w.drewN n1 = W1 at *
  clear CL HK1 h7 h7b
  cases hU : upn m7 l 0 with
  | none =>
    obtain ⟨x, CU⟩ := upto_n _ HR.out (by omega) HE.out hU
    have HC := hideQ CU
    clear CU
    go_at_call 53
    refine HC.out.mono ?_
    rintro e W9 ⟨rfl, K9⟩
    go_wp2_with fail
    go_at_call 52
    refine (takenI_no _ x (ad 9) _ (HE.out.keptF K9).s9).mono ?_
    rintro e W8 ⟨rfl, rfl⟩
    exact ⟨rfl, rsp_none (par_u (by rw [← HM7.out]; exact hU)), HK.out.trans K9 (fun _ f => f.elim)⟩
  | some nq =>
    obtain ⟨n, q⟩ := nq
    have HC := hideQ (upto_s _ HR.out (by omega) HE.out hU)
    have hn : n ≤ 1099511627776 := by obtain ⟨-, -, -, hx⟩ := upn_rdu hU; omega
    have HU : Hid (upn (l.length / 7) l 0 = some (n, q)) := hideQ (by rw [← HM7.out]; exact hU)
    have hnb : nbk n ≤ 1099511627776 := by unfold nbk; omega
    clear hU
    go_at_call 53
    refine HC.out.mono ?_
    rintro e W9 ⟨rfl, hR9, K9⟩
    replace HE := hideQ (HE.out.kept K9)
    replace HK := hideQ (HK.out.trans K9 (fun _ h => .inl h))
    replace HR := hideQ hR9
    clear hR9 K9 HC
    go_wp2_with (first
      | (go_at_call 52; refine (takenI_ok _ _).mono ?_; rintro e V ⟨rfl, rfl⟩)
      | (go_at_call 56; refine (blocksOf_any n _ hn).mono ?_; rintro e V2 ⟨rfl, rfl⟩))
    have CR := hideQ (readLengths_any l (nbk n) q br v ad _ HR.out HE.out hnb hl)
    have hbr2 : br < V2.heap.size := lt_of_block HR.out.blk
    have hsw : w.heap.size ≤ V2.heap.size := HK.out.size
    go_at_call 55
    refine CR.out.mono ?_
    rintro e W3 ⟨hp, K3⟩
    clear CR
    replace HK := hideQ (HK.out.trans K3 (fun _ h => .inl h))
    replace HE := hideQ (HE.out.kept K3)
    cases hL : rls l (nbk n) q with
    | none =>
      rw [hL] at hp
      obtain rfl : e = pan (ad 9) := hp
      exact ⟨rfl, rsp_none (par_l HU.out hL), HK.out⟩
    | some Lq =>
      obtain ⟨L, q1⟩ := Lq
      rw [hL] at hp
      obtain ⟨vL, rfl, hoL, hR3⟩ := hp
      replace HR := hideQ hR3
      have HOL := hideQ hoL
      have HLl := hideQ ((rls_back HI.out hL (upn_back HI.out HU.out).2.1).2.2.1)
      have HP := hideQ (par_b HU.out hL)
      obtain ⟨aL, cL, hvL⟩ := row_shape hoL
      subst hvL
      have hs3 : V2.heap.size ≤ W3.heap.size := K3.size
      clear hR3 hoL K3 hL HU
      obtain ⟨nL, hnL⟩ : ∃ nL, nL = L.length := ⟨_, rfl⟩
      rw [← hnL] at HOL HLl ⊢
      have HNL := hideQ hnL
      clear hnL
      have hnL2 : nL ≤ 1099511627776 := by have := HLl.out; omega
      go_wp2_with (at_make; refine wpList_make_own _ rfl _ _ 22 rfl W3.heap.size 31 i0 _ 5 Tryd.underlying22 hi0 hz0 hz1 _ _ _ n rfl rfl rfl ?m1 ?m2 (Nat.le_refl _) ?_; (case m1 => rw [hz2]; omega); (case m2 => unfold maxLen; omega); intro Wm hown hgrow; have HO := hideQ hown; have HKm := hideQ ((Kept.grown hgrow).mono (G := fun _ => False) (fun i hi => by cases hi)); clear hown hgrow)
      replace HR := hideQ (HR.out.kept HKm.out (fun f => f) (fun _ _ f => f))
      replace HE := hideQ (HE.out.keptF HKm.out)
      replace HK := hideQ (HK.out.trans HKm.out (fun _ f => f.elim))
      have HLb : Hid (∀ k, (Value.slice aL nL cL).ownBlock = some k → k < W3.heap.size) := hideQ (fun k hk => (HOL.out.lt k hk).2)
      replace HOL := hideQ (HKm.out.row HOL.out (fun _ _ f => f))
      have hb3 : W3.heap.size ≤ Wm.heap.size := HKm.out.size
      have HG3 : Hid (2 < W3.heap.size ∧ 3 < W3.heap.size ∧ 0 < W3.heap.size ∧ 4 < W3.heap.size ∧ 9 < W3.heap.size) := hideQ (by have := HG0.out; omega)
      have HG : Hid (2 < W3.heap.size ∧ 3 < W3.heap.size ∧ 0 < W3.heap.size ∧ 4 < W3.heap.size ∧ 9 < W3.heap.size) := hideQ HG3.out
      have HV3 : Hid (∀ i, v.ownBlock = some i → i < W3.heap.size) := hideQ (fun i hi => by have := HV.out i hi; omega)
      have hbr3 : br < W3.heap.size := by omega
      clear HKm HV hi0 hz0 hz1 hz2
      obtain ⟨bE, hbE⟩ : ∃ bE, bE = W3.heap.size := ⟨_, rfl⟩
      rw [← hbE] at HO HLb HG HV3 hbr3 hb3 hs3 ⊢
      clear hbE
      go_loopw [5, 27] (fun v5 v27 wr => ∃ (j p' : Nat) (E : List En) (va : Value), j ≤ nL ∧ v27 = .int .i64 j ∧ v5 = va ∧ Hid (Rd wr br v l p') ∧ Hid (ErD wr br ad) ∧ Hid (wr.ownsRow bE 31 5 va E.length (ecs E)) ∧ Hid (wr.ownsRow V2.heap.size 3 1 (.slice aL nL cL) nL (iv L)) ∧ Hid (E.length = min n (16 * j) ∧ par l = prb E (rbs l (L.drop j) (n - E.length) (lastk ByteArray.empty E) p')) ∧ Hid (Kept (fun i => i = br) w wr) ∧ Hid (bE ≤ wr.heap.size)) (fun _ v27 _ => nL - (intOf v27).toNat)
      case atStart => exact ⟨0, q1, [], _, by omega, rfl, rfl, HR, HE, HO, HOL, hideQ ⟨by simp, by rw [prb_nil]; exact HP.out⟩, HK, hideQ hb3⟩
      case round =>
        obtain ⟨j, p', E, va, hj, rfl, rfl, HRr, HEr, HOr, HLr, HFr, HKr, HSr⟩ := hrel
        clear HR HE HO HOL HP HK
        by_cases hlt : j < nL
        · have hjj : (j : Int) < (nL : Int) := by omega
          obtain ⟨hE1, hE2⟩ := HFr.out
          have hjn : 16 * j < n := by have h9 := HLl.out; unfold nbk at h9; omega
          have hEl : E.length = 16 * j := by omega
          have hjL : j < L.length := by rw [← HNL.out]; exact hlt
          obtain ⟨x, hx⟩ : ∃ x, x = L[j] := ⟨_, rfl⟩
          have hdr : L.drop j = x :: L.drop (j + 1) := by rw [List.drop_eq_getElem_cons hjL, ← hx]
          rw [hdr] at hE2
          have HE2 := hideQ hE2
          obtain ⟨gL, hgL⟩ : ∃ gL, aL = some ⟨gL, 0, none⟩ := by
            rcases HLr.out.2 with ⟨e, e2⟩ | ⟨g, cap, cur, e, _⟩
            · omega
            · exact ⟨g, by injection e⟩
          subst hgL
          have hcL : wr.cell? ⟨gL, j, none⟩ = some (.int .i64 (x : Int)) := by
            have h9 := HLr.out.cells (g := gL) rfl j (.int .i64 (x : Int)) (by rw [iv, List.getElem?_map, List.getElem?_eq_getElem hjL, ← hx]; rfl)
            rwa [addr_add] at h9
          obtain ⟨aE, cE, rfl⟩ := row_shape HOr.out
          obtain ⟨cnt, hcnt⟩ : ∃ cnt, min 16 (n - 16 * j) = cnt + 1 := ⟨min 16 (n - 16 * j) - 1, by omega⟩
          have hcnt16 : cnt ≤ 16 := by omega
          obtain ⟨ob, hob⟩ : ∃ ob, (Value.slice aE E.length cE).ownBlock = ob := ⟨_, rfl⟩
          have HObl : Hid (∀ k, ob = some k → bE ≤ k) := hideQ (fun k hk => (HOr.out.lt k (hob.trans hk)).1)
          have CA := hideQ (at_any br v l p' wr HRr.out)
          have HPl := hideQ HRr.out.le
          have CB : Hid (∀ z : Int, z = (cnt : Int) + 1 → Calls Tryd.prog 58 #[.pointer (some ⟨br, 0, none⟩), .slice aE (16 * j) cE, .int .i64 z] wr fun e w' => rbPost bE wr.heap.size l br v ob (ad 9) E (rbk l (cnt + 1) ByteArray.empty p') e w' ∧ Kept (fun i => i = br ∨ ob = some i) wr w') := hideQ (fun z hz => by
            have h9 := readBlock_any l E cnt p' br bE v _ ob hob ad wr HRr.out HEr.out HOr.out hbr3 HV3.out HG.out HSr.out hcnt16 (by omega)
            rw [hEl] at h9
            rw [hz]
            exact h9)
          have HEl := hideQ hEl
          have HCn := hideQ hcnt
          rw [hEl]
          clear hEl hcnt hE1 hE2 hdr hx HFr hob
          go_wp2_with (go_at_call 57; refine CA.out.mono ?_; rintro e V5 ⟨rfl, rfl⟩)
          all_goals
            go_at_call 58
            refine (CB.out _ (by have := HCn.out; omega)).mono ?_
            rintro e W6 ⟨hp, K6⟩
            clear CB CA hcL
            have HK6 := hideQ (HKr.out.trans K6 (fun i hi => hi.elim (fun e => .inl e) (fun e => .inr (by have := HObl.out i e; omega))))
            have HLr6 := hideQ (K6.row HLr.out (fun k hk f => by
              rcases f with f | f
              · have := (HLr.out.lt k hk).1; omega
              · have := HObl.out k f; have := HLb.out k hk; omega))
            have HS6 : Hid (bE ≤ W6.heap.size) := hideQ (by have := K6.size; have := HSr.out; omega)
            have HE6 := hideQ (ErD.keptO HEr.out K6 HObl.out HG.out)
            have HMn : Hid (min 16 (n - E.length) = cnt + 1) := hideQ (by rw [HEl.out]; exact HCn.out)
            clear K6 HLr HSr HEr HRr HOr HKr
            cases hB : rbk l (cnt + 1) ByteArray.empty p' with
            | none =>
              rw [hB] at hp
              obtain rfl : e = pan (ad 9) := hp
              exact ⟨rfl, rsp_none (by rw [HE2.out, rbs_no (by rw [HMn.out]; exact hB)]; rfl), HK6.out⟩
            | some Fq =>
              obtain ⟨F, q6⟩ := Fq
              rw [hB] at hp
              have HBk := hideQ hB
              rw [← HMn.out] at HBk
              by_cases hk : klt (lastk ByteArray.empty E) (headk F) = true
              · obtain ⟨va', rfl, ho6, hR6, -⟩ := (by
                  have h9 : (if klt (lastk ByteArray.empty E) (headk F) = true then _ else _) := hp
                  rw [if_pos hk] at h9
                  exact h9 : ∃ va', e = .returned va' ∧ W6.ownsRow bE 31 5 va' (E ++ F).length (ecs (E ++ F)) ∧ Rd W6 br v l q6 ∧ ∀ k, va'.ownBlock = some k → ob = some k ∨ _ ≤ k)
                have CA := hideQ (at_any br v l q6 W6 hR6)
                have HR6 := hideQ hR6
                have HO6 := hideQ ho6
                have HFl := hideQ ((rbk_back HI.out hB HPl.out).2.2.2.2.1)
                have HPq := hideQ ((rbk_back HI.out hB HPl.out).1)
                have hq6l : q6 ≤ 1099511627776 := by have := hR6.le; omega
                have hp6l : p' ≤ 1099511627776 := by have := HPl.out; omega
                by_cases hq : q6 = p' + x
                · have hqq : (((q6 : Int) - (p' : Int)) == (x : Int)) = true := by rw [beq_iff_eq]; omega
                  have HSt : Hid (par l = prb (E ++ F) (rbs l (L.drop (j + 1)) (n - (E ++ F).length) (lastk ByteArray.empty (E ++ F)) q6)) := hideQ (by
                    rw [HE2.out, rbs_ok HBk.out ⟨hk, hq⟩, prb_prb, lastk_append, List.length_append, Nat.sub_sub])
                  have hxq : (q6 : Int) - (p' : Int) = (x : Int) := by omega
                  clear hR6 ho6 hp hB hk hq
                  go_wp2_with (first
                    | (go_at_call 57; refine CA.out.mono ?_; rintro e V7 ⟨rfl, rfl⟩)
                    | (go_at_call 30; refine (need_ok _).mono ?_; rintro e V8 ⟨rfl, rfl⟩))
                  go_roundw
                  case rel => exact ⟨j + 1, q6, E ++ F, _, hlt, by go_num, rfl, HR6, HE6, HO6, HLr6, hideQ ⟨by rw [List.length_append, HFl.out, HEl.out]; have := HCn.out; omega, HSt.out⟩, HK6, HS6⟩
                  case measure => simp [intOf]; omega
                · have hqq : (((q6 : Int) - (p' : Int)) == (x : Int)) = false := by
                    have := HPq.out
                    rw [beq_eq_false_iff_ne]; omega
                  have HNo : Hid (par l = none) := hideQ (by rw [HE2.out, rbs_bad HBk.out (fun h => hq h.2)]; rfl)
                  clear hR6 ho6 hp hB hk hq
                  go_wp2_with (go_at_call 57; refine CA.out.mono ?_; rintro e V7 ⟨rfl, rfl⟩)
                  go_at_call 30
                  refine (need_no (ad 9) _ HE6.out.s9).mono ?_
                  rintro e V8 ⟨rfl, rfl⟩
                  exact ⟨rfl, rsp_none HNo.out, HK6.out⟩
              · obtain rfl : e = pan (ad 9) := (by
                  have h9 : (if klt (lastk ByteArray.empty E) (headk F) = true then _ else _) := hp
                  rw [if_neg hk] at h9
                  exact h9)
                exact ⟨rfl, rsp_none (by rw [HE2.out, rbs_bad HBk.out (fun h => hk h.1)]; rfl), HK6.out⟩
        · obtain rfl : j = nL := by omega
          have HOk : Hid (par l = some (E, p')) := hideQ (by
            rw [HFr.out.2, HNL.out, List.drop_length]
            simp [rbs, prb])
          clear HFr
          go_wp2
          go_ret
          refine ⟨?_, HKr.out⟩
          rw [HOk.out]
          exact ⟨_, rfl, own_lowerD HOr.out (by omega), HRr.out⟩
end Go.Proofs.YtcanbhbhdgogoaaDoor
