import Derived.Test.YtohnkamobmkhkaaDoorVfk
namespace Go.Proofs.YtohnkamobmkhkaaDoor
open Go.ChangeShapes Go.WideShapes Go.ChangeAt Go.RowKit

theorem ibL_ge : ∀ (L : List In), L.length ≤ (ibL L).length
  | [] => by simp
  | x :: r => by
    have := ibL_ge r
    rw [ibL_cons, List.length_append, List.length_cons]
    unfold ib
    simp only [List.length_cons]
    omega
/-- What a world must hold for the laws of layer 21. -/
structure VE (w : World) (a0 a1 ac : Addr) : Prop where
  e : Ew w a0 a1 ac
  o : OpT w
  t : TkT w
theorem VE.kept {w w' : World} {a0 a1 ac : Addr} (h : VE w a0 a1 ac) (k : Kept (fun _ => False) w w') : VE w' a0 a1 ac := ⟨h.e.kept k, h.o.kept k, h.t.kept k⟩
/-- What Heights answers. -/
def htP (w : World) (p : Pg) (ac : Addr) (e : Ending) (w' : World) : Prop :=
  (∀ L, Vok p L → ∃ a c, e = .returned (.tuple #[.slice a L.length c, .nilIface]) ∧ Gro w w' 3 1 (.slice a L.length c) L.length (is (hL L))) ∧ ((¬ ∃ L, Vok p L) → e = .returned (.tuple #[.slice none 0 0, errV ac])) ∧ Kept (fun _ => False) w w'
theorem htP_bad {w : World} {p : Pg} {ac : Addr} {e : Ending} {w' : World} (h : ¬ ∃ L, Vok p L) (he : e = .returned (.tuple #[.slice none 0 0, errV ac])) (k : Kept (fun _ => False) w w') : htP w p ac e w' :=
  ⟨fun L hv => absurd ⟨L, hv⟩ h, fun _ => he, k⟩
theorem htP_good {w : World} {p : Pg} {ac : Addr} {e : Ending} {w' : World} {L : List In} {a : Option Addr} {c n : Nat} (h : Vok p L) (hn : n = L.length) (he : e = .returned (.tuple #[.slice a n c, .nilIface])) (k : Gro w w' 3 1 (.slice a n c) n (is (hL L))) : htP w p ac e w' := by
  subst hn
  exact ⟨fun M hv => by obtain rfl := h.uniq hv; exact ⟨a, c, he, k⟩, fun f => absurd ⟨L, h⟩ f, k.kept⟩
theorem gro_lower {w0 w1 w : World} {e : TypeId} {sz n : Nat} {v : Value} {xs : List Value} (h : Gro w1 w e sz v n xs) (k : Kept (fun _ => False) w0 w1) : Gro w0 w e sz v n xs :=
  ⟨own_lowerJ h.own k.size, k.trans h.kept (fun _ f => f.elim)⟩
set_option maxRecDepth 20000 in
set_option maxHeartbeats 8000000 in
theorem heights_any (p : Pg) (aA aC aN aD aO : Option Addr) (cA cC cN cD cO : Nat) (a0 a1 ac : Addr) (w : World) (hP : PgAt w p aA aC aN aD aO) (hO : p.Ok) (hE : VE w a0 a1 ac) :
    Calls Tryd.prog 12 #[.agg #[.slice aA p.av.length cA, .slice aC p.cu.length cC, .slice aN p.nr.length cN, .bool p.al, .slice aD p.dr.length cD, .slice aO p.co.length cO]] w (htP w p ac) := by
  have KA := Kept.alloc w (.cells #[.slice aA p.av.length cA, .slice aC p.cu.length cC, .slice aN p.nr.length cN, .bool p.al, .slice aD p.dr.length cD, .slice aO p.co.length cO] 27)
  have HBX : Hid ((w.alloc (.cells #[.slice aA p.av.length cA, .slice aC p.cu.length cC, .slice aN p.nr.length cN, .bool p.al, .slice aD p.dr.length cD, .slice aO p.co.length cO] 27)).heap[w.heap.size]? = some (.cells #[.slice aA p.av.length cA, .slice aC p.cu.length cC, .slice aN p.nr.length cN, .bool p.al, .slice aD p.dr.length cD, .slice aO p.co.length cO] 27 (0, 0))) := hideI (heap_alloc_new w _)
  obtain ⟨V, hV⟩ : ∃ V, V = w.alloc (.cells #[.slice aA p.av.length cA, .slice aC p.cu.length cC, .slice aN p.nr.length cN, .bool p.al, .slice aD p.dr.length cD, .slice aO p.co.length cO] 27) := ⟨_, rfl⟩
  rw [← hV] at KA HBX
  have HP := hideI (hP.kept KA)
  have HE := hideI (hE.kept KA)
  have HKA := hideI KA
  have HO := hideI hO
  have HB6 := fun (W : World) (K : Kept (fun _ => False) V W) => hideI (box6 (K.heap HBX.out (fun f => f)))
  obtain ⟨b1, hb1⟩ := asB (TbOk p)
  have H1 := hideI (goodTables_any p aA aC aN aD aO cA cC cN cD cO V HP.out hO b1 hb1)
  have HB1 := hideI hb1
  have H2 := fun (W : World) (K : Kept (fun _ => False) V W) => hideI (decode_any p.co aO cO a0 a1 ac W (HP.out.kept K).co hO.co (by have := hO.len; omega) (HE.out.kept K).e (HE.out.kept K).o)
  have HGC := fun (W : World) (K : Kept (fun _ => False) V W) => (HE.out.kept K).e.gc
  have HVB := fun (h : ¬ (TbOk p ∧ ∃ L, dcI p.co = some L ∧ Gd p L)) => hideI (fun (hx : ∃ L, Vok p L) => h (by obtain ⟨L, q⟩ := hx; exact ⟨q.tb, L, q.dc, q.gd⟩))
  obtain ⟨z0, z1, z2, z3, z4, z5⟩ := (HB6 V (Kept.refl _ _)).out
  clear hP hE KA hO hb1
  cases b1 with
  | false =>
    have HV := HVB (fun h => by have := HB1.out.2 h.1; cases this)
    subst hV
    clear H2 HB6 HVB HB1 HBX
    go_enter Tryd.func12, Tryd.ntmps12
    go_wp2_with (go_at_call 24; refine H1.out.mono ?_; clear H1; rintro e W1 ⟨rfl, K1⟩; have HK1 := hideI K1; have gc1 := HGC W1 K1; clear K1 HGC)
    go_quiet (fail)
    go_wp2
    go_ret2
    exact htP_bad HV.out rfl ((HKA.out.trans HK1.out (fun _ f => f.elim)).trans (Kept.drewN _ _) (fun _ f => f.elim))
  | true =>
    cases hd : dcI p.co with
    | none =>
      rw [hd] at H2
      have HV := HVB (fun h => by obtain ⟨L, q, _⟩ := h.2; rw [hd] at q; cases q)
      subst hV
      clear HVB HB1 HBX hd
      go_enter Tryd.func12, Tryd.ntmps12
      go_wp2_with (first
        | (go_at_call 24; refine H1.out.mono ?_; clear H1; rintro e W1 ⟨rfl, K1⟩; have HK1 := hideI K1; have HD := H2 W1 K1; obtain ⟨y0, y1, y2, y3, y4, y5⟩ := (HB6 W1 K1).out; clear K1 H2 HB6)
        | (go_at_call 18; refine HD.out.mono ?_; clear HD; rintro e W2 ⟨h1, -, K2⟩; have he := h1 rfl; unfold errV at he; subst he; have HK2 := hideI (HK1.out.trans K2 (fun _ f => f.elim)); have gc2 := HGC W2 HK2.out; clear K2 HGC h1))
      go_quiet (fail)
      go_wp2
      go_ret2
      exact htP_bad HV.out rfl ((HKA.out.trans HK2.out (fun _ f => f.elim)).trans (Kept.drewN _ _) (fun _ f => f.elim))
    | some L =>
      obtain ⟨b2, hb2⟩ := asB (EnOk L)
      obtain ⟨b3, hb3⟩ := asB (PaOk p L)
      obtain ⟨b4, hb4⟩ := asB (SkOk L)
      have HB2 : Hid (IsB b2 (EnOk L)) := hideI hb2
      have HB3 : Hid (IsB b3 (PaOk p L)) := hideI hb3
      have HB4 : Hid (IsB b4 (SkOk L)) := hideI hb4
      obtain ⟨f1, f2, f3⟩ := dcI_form p.co.length p.co L (Nat.le_refl _) HO.out.co hd
      have HLO := hideI f2
      have HLX : Hid (∀ x ∈ L, 0 ≤ x.op ∧ x.op < 17) := hideI (fun x hx => isO_iff.1 (okI_isO (f3 x hx)))
      have hl26 : L.length ≤ 67108864 := by
        have q1 := ibL_ge L
        rw [f1] at q1
        have q2 := HO.out.len
        omega
      have hl40 : L.length ≤ 1099511627776 := by omega
      have HDD := hideI hd
      have HVN : Hid (¬ Gd p L → ¬ ∃ M, Vok p M) := hideI (fun h hx => h (by obtain ⟨M, q⟩ := hx; have e := q.dc; rw [HDD.out] at e; obtain rfl := Option.some.inj e; exact q.gd))
      have HVY : Hid (Gd p L → Vok p L) := hideI (fun h => ⟨HB1.out.1 rfl, HDD.out, h⟩)
      rw [hd] at H2
      obtain ⟨n, hn⟩ : ∃ n, n = L.length := ⟨_, rfl⟩
      have HN := hideI hn
      have hl27 : n ≤ 67108864 := by omega
      clear hb2 hb3 hb4 f1 f2 f3 hl26 hd HVB HB1 hn HBX
      cases b2 with
      | false =>
        have HV := hideI (HVN.out (fun h => HB2.out.no h.en))
        clear HVN HVY HB3 HB4
        subst hV
        go_enter Tryd.func12, Tryd.ntmps12
        go_wp2_with (first
          | (go_at_call 24; refine H1.out.mono ?_; clear H1; rintro e W1 ⟨rfl, K1⟩; have HK1 := hideI K1; have HD := H2 W1 K1; obtain ⟨y0, y1, y2, y3, y4, y5⟩ := (HB6 W1 K1).out; clear K1 H2)
          | (go_at_call 18; refine HD.out.mono ?_; clear HD; rintro e W2 ⟨-, h2, K2⟩; obtain ⟨aL, cL, he, ho⟩ := h2 L rfl; rw [← HN.out] at he; subst he; have HK2 := hideI (HK1.out.trans K2 (fun _ f => f.elim)); have HI2 := hideI (ins_of_own ho); have HEO := hideI (endsOnce_any L aL cL W2 HI2.out hl40 _ HB2.out); rw [← HN.out] at HEO; clear K2 h2 ho)
          | (go_at_call 25; refine HEO.out.mono ?_; clear HEO; rintro e W3 ⟨rfl, K3⟩; have HK3 := hideI (HK2.out.trans K3 (fun _ f => f.elim)); have HI3 := hideI (HI2.out.kept K3 (fun _ _ f => f)); have gc3 := HGC W3 HK3.out; clear HGC; clear K3))
        go_quiet (fail)
        go_wp2
        go_ret2
        exact htP_bad HV.out rfl ((HKA.out.trans HK3.out (fun _ f => f.elim)).trans (Kept.drewN _ _) (fun _ f => f.elim))
      | true =>
        cases b3 with
        | false =>
          have HV := hideI (HVN.out (fun h => HB3.out.no h.pa))
          clear HVN HVY HB4
          subst hV
          go_enter Tryd.func12, Tryd.ntmps12
          go_wp2_with (first
            | (go_at_call 24; refine H1.out.mono ?_; clear H1; rintro e W1 ⟨rfl, K1⟩; have HK1 := hideI K1; have HD := H2 W1 K1; obtain ⟨y0, y1, y2, y3, y4, y5⟩ := (HB6 W1 K1).out; clear K1 H2)
            | (go_at_call 18; refine HD.out.mono ?_; clear HD; rintro e W2 ⟨-, h2, K2⟩; obtain ⟨aL, cL, he, ho⟩ := h2 L rfl; rw [← HN.out] at he; subst he; have HK2 := hideI (HK1.out.trans K2 (fun _ f => f.elim)); have HI2 := hideI (ins_of_own ho); have HEO := hideI (endsOnce_any L aL cL W2 HI2.out hl40 _ HB2.out); rw [← HN.out] at HEO; clear K2 h2 ho)
            | (go_at_call 25; refine HEO.out.mono ?_; clear HEO; rintro e W3 ⟨rfl, K3⟩; have HK3 := hideI (HK2.out.trans K3 (fun _ f => f.elim)); have HI3 := hideI (HI2.out.kept K3 (fun _ _ f => f)); have HGP := hideI (goodOperands_any p L aA aC aN aD aO aL cA cC cN cD cO cL W3 HO.out HLO.out HI3.out hl40 _ HB3.out); rw [← HN.out] at HGP; obtain ⟨t0, t1, t2, t3, t4, t5⟩ := (HB6 W3 HK3.out).out; clear K3)
            | (go_at_call 26; refine HGP.out.mono ?_; clear HGP; rintro e W4 ⟨rfl, K4⟩; have HK4 := hideI (HK3.out.trans K4 (fun _ f => f.elim)); have gc4 := HGC W4 HK4.out; clear HGC; clear K4))
          go_quiet (fail)
          go_wp2
          go_ret2
          exact htP_bad HV.out rfl ((HKA.out.trans HK4.out (fun _ f => f.elim)).trans (Kept.drewN _ _) (fun _ f => f.elim))
        | true =>
          have HPA := hideI (HB3.out.yes)
          have HEN := hideI (HB2.out.yes)
          by_cases hst : StOk L
          · have HS := hideI hst
            clear hst
            cases b4 with
            | false =>
              have HV := hideI (HVN.out (fun h => HB4.out.no h.sk))
              clear HVN HVY
              subst hV
              go_enter Tryd.func12, Tryd.ntmps12
              go_wp2_with (first
                | (go_at_call 24; refine H1.out.mono ?_; clear H1; rintro e W1 ⟨rfl, K1⟩; have HK1 := hideI K1; have HD := H2 W1 K1; obtain ⟨y0, y1, y2, y3, y4, y5⟩ := (HB6 W1 K1).out; clear K1 H2)
                | (go_at_call 18; refine HD.out.mono ?_; clear HD; rintro e W2 ⟨-, h2, K2⟩; obtain ⟨aL, cL, he, ho⟩ := h2 L rfl; rw [← HN.out] at he; subst he; have HK2 := hideI (HK1.out.trans K2 (fun _ f => f.elim)); have HI2 := hideI (ins_of_own ho); have HEO := hideI (endsOnce_any L aL cL W2 HI2.out hl40 _ HB2.out); rw [← HN.out] at HEO; clear K2 h2 ho)
                | (go_at_call 25; refine HEO.out.mono ?_; clear HEO; rintro e W3 ⟨rfl, K3⟩; have HK3 := hideI (HK2.out.trans K3 (fun _ f => f.elim)); have HI3 := hideI (HI2.out.kept K3 (fun _ _ f => f)); have HGP := hideI (goodOperands_any p L aA aC aN aD aO aL cA cC cN cD cO cL W3 HO.out HLO.out HI3.out hl40 _ HB3.out); rw [← HN.out] at HGP; obtain ⟨t0, t1, t2, t3, t4, t5⟩ := (HB6 W3 HK3.out).out; clear K3)
                | (go_at_call 26; refine HGP.out.mono ?_; clear HGP; rintro e W4 ⟨rfl, K4⟩; have HK4 := hideI (HK3.out.trans K4 (fun _ f => f.elim)); have HI4 := hideI (HI3.out.kept K4 (fun _ _ f => f)); have HST := hideI (straight_any L aL cL W4 HI4.out hl40 HLX.out (HE.out.kept HK4.out).t); rw [← HN.out] at HST; clear K4)
                | (go_at_call 27; refine HST.out.mono ?_; clear HST; rintro e W5 ⟨h5, -, K5⟩; obtain ⟨aH, cH, he, hg5⟩ := h5 HS.out; rw [← HN.out] at he hg5; subst he; have HK5 := hideI (HK4.out.trans K5 (fun _ f => f.elim)); have HI5 := hideI (HI4.out.kept K5 (fun _ _ f => f)); have HG5 := hideI hg5; have HSK := hideI (skips_any p L aL aH cL cH W5 HI5.out (gro_ints hg5 (by rw [hL_len]; exact HN.out)) hl40 HPA.out _ HB4.out); rw [← HN.out] at HSK; clear K5 h5 hg5)
                | (go_at_call 28; refine HSK.out.mono ?_; clear HSK; rintro e W6 ⟨rfl, K6⟩; have HK6 := hideI (HK5.out.trans K6 (fun _ f => f.elim)); have HG6 := hideI (HG5.out.later K6); have gc6 := HGC W6 HK6.out; clear K6 HGC))
              go_quiet (fail)
              go_wp2
              go_ret2
              exact htP_bad HV.out rfl ((HKA.out.trans HK6.out (fun _ f => f.elim)).trans (Kept.drewN _ _) (fun _ f => f.elim))
            | true =>
              have hn0 : 0 < n := by have := HEN.out.1; have := HN.out; omega
              obtain ⟨la, hla⟩ : ∃ la, la = hA L (n - 1) := ⟨_, rfl⟩
              have HLA := hideI hla.symm
              have hi1 : (0 : Int) ≤ (n : Int) - 1 := by omega
              have hi2 : (n : Int) - 1 < (n : Int) := by omega
              have hi3 : ((n : Int) - 1).toNat = n - 1 := by omega
              by_cases hl1 : la = 1
              · have HVG := hideI (HVY.out ⟨HEN.out, HPA.out, HS.out, HB4.out.yes, by rw [← HN.out, HLA.out]; exact hl1⟩)
                have hb1 : ((la : Int) != 1) = false := by rw [hl1]; rfl
                clear HVN HVY hla hl1
                subst hV
                go_enter Tryd.func12, Tryd.ntmps12
                go_wp2_with (first
                  | (go_at_call 24; refine H1.out.mono ?_; clear H1; rintro e W1 ⟨rfl, K1⟩; have HK1 := hideI K1; have HD := H2 W1 K1; obtain ⟨y0, y1, y2, y3, y4, y5⟩ := (HB6 W1 K1).out; clear K1 H2)
                  | (go_at_call 18; refine HD.out.mono ?_; clear HD; rintro e W2 ⟨-, h2, K2⟩; obtain ⟨aL, cL, he, ho⟩ := h2 L rfl; rw [← HN.out] at he; subst he; have HK2 := hideI (HK1.out.trans K2 (fun _ f => f.elim)); have HI2 := hideI (ins_of_own ho); have HEO := hideI (endsOnce_any L aL cL W2 HI2.out hl40 _ HB2.out); rw [← HN.out] at HEO; clear K2 h2 ho)
                  | (go_at_call 25; refine HEO.out.mono ?_; clear HEO; rintro e W3 ⟨rfl, K3⟩; have HK3 := hideI (HK2.out.trans K3 (fun _ f => f.elim)); have HI3 := hideI (HI2.out.kept K3 (fun _ _ f => f)); have HGP := hideI (goodOperands_any p L aA aC aN aD aO aL cA cC cN cD cO cL W3 HO.out HLO.out HI3.out hl40 _ HB3.out); rw [← HN.out] at HGP; obtain ⟨t0, t1, t2, t3, t4, t5⟩ := (HB6 W3 HK3.out).out; clear K3)
                  | (go_at_call 26; refine HGP.out.mono ?_; clear HGP; rintro e W4 ⟨rfl, K4⟩; have HK4 := hideI (HK3.out.trans K4 (fun _ f => f.elim)); have HI4 := hideI (HI3.out.kept K4 (fun _ _ f => f)); have HST := hideI (straight_any L aL cL W4 HI4.out hl40 HLX.out (HE.out.kept HK4.out).t); rw [← HN.out] at HST; clear K4)
                  | (go_at_call 27; refine HST.out.mono ?_; clear HST; rintro e W5 ⟨h5, -, K5⟩; obtain ⟨aH, cH, he, hg5⟩ := h5 HS.out; rw [← HN.out] at he hg5; subst he; have HK5 := hideI (HK4.out.trans K5 (fun _ f => f.elim)); have HI5 := hideI (HI4.out.kept K5 (fun _ _ f => f)); have HG5 := hideI hg5; have HSK := hideI (skips_any p L aL aH cL cH W5 HI5.out (gro_ints hg5 (by rw [hL_len]; exact HN.out)) hl40 HPA.out _ HB4.out); rw [← HN.out] at HSK; clear K5 h5 hg5)
                  | (go_at_call 28; refine HSK.out.mono ?_; clear HSK; rintro e W6 ⟨rfl, K6⟩; have HK6 := hideI (HK5.out.trans K6 (fun _ f => f.elim)); have HG6 := hideI (HG5.out.later K6); have gc6 := HGC W6 HK6.out; obtain ⟨gh, rfl, -, hcc⟩ := HG6.out.cell hn0; have hcl := hcc (n - 1) _ (isV_get (hL_at L (by rw [← HN.out]; omega))); rw [HLA.out] at hcl; clear hcc; clear K6 HGC))
                go_ret2
                exact htP_good HVG.out HN.out rfl (gro_lower HG6.out ((HKA.out.trans HK4.out (fun _ f => f.elim))))
              · have hb1 : ((la : Int) != 1) = true := by rw [bne_iff_ne]; omega
                have HV := hideI (HVN.out (fun h => hl1 (by have := h.one; rw [← HN.out, HLA.out] at this; exact this)))
                clear HVN HVY hla hl1
                subst hV
                go_enter Tryd.func12, Tryd.ntmps12
                go_wp2_with (first
                  | (go_at_call 24; refine H1.out.mono ?_; clear H1; rintro e W1 ⟨rfl, K1⟩; have HK1 := hideI K1; have HD := H2 W1 K1; obtain ⟨y0, y1, y2, y3, y4, y5⟩ := (HB6 W1 K1).out; clear K1 H2)
                  | (go_at_call 18; refine HD.out.mono ?_; clear HD; rintro e W2 ⟨-, h2, K2⟩; obtain ⟨aL, cL, he, ho⟩ := h2 L rfl; rw [← HN.out] at he; subst he; have HK2 := hideI (HK1.out.trans K2 (fun _ f => f.elim)); have HI2 := hideI (ins_of_own ho); have HEO := hideI (endsOnce_any L aL cL W2 HI2.out hl40 _ HB2.out); rw [← HN.out] at HEO; clear K2 h2 ho)
                  | (go_at_call 25; refine HEO.out.mono ?_; clear HEO; rintro e W3 ⟨rfl, K3⟩; have HK3 := hideI (HK2.out.trans K3 (fun _ f => f.elim)); have HI3 := hideI (HI2.out.kept K3 (fun _ _ f => f)); have HGP := hideI (goodOperands_any p L aA aC aN aD aO aL cA cC cN cD cO cL W3 HO.out HLO.out HI3.out hl40 _ HB3.out); rw [← HN.out] at HGP; obtain ⟨t0, t1, t2, t3, t4, t5⟩ := (HB6 W3 HK3.out).out; clear K3)
                  | (go_at_call 26; refine HGP.out.mono ?_; clear HGP; rintro e W4 ⟨rfl, K4⟩; have HK4 := hideI (HK3.out.trans K4 (fun _ f => f.elim)); have HI4 := hideI (HI3.out.kept K4 (fun _ _ f => f)); have HST := hideI (straight_any L aL cL W4 HI4.out hl40 HLX.out (HE.out.kept HK4.out).t); rw [← HN.out] at HST; clear K4)
                  | (go_at_call 27; refine HST.out.mono ?_; clear HST; rintro e W5 ⟨h5, -, K5⟩; obtain ⟨aH, cH, he, hg5⟩ := h5 HS.out; rw [← HN.out] at he hg5; subst he; have HK5 := hideI (HK4.out.trans K5 (fun _ f => f.elim)); have HI5 := hideI (HI4.out.kept K5 (fun _ _ f => f)); have HG5 := hideI hg5; have HSK := hideI (skips_any p L aL aH cL cH W5 HI5.out (gro_ints hg5 (by rw [hL_len]; exact HN.out)) hl40 HPA.out _ HB4.out); rw [← HN.out] at HSK; clear K5 h5 hg5)
                  | (go_at_call 28; refine HSK.out.mono ?_; clear HSK; rintro e W6 ⟨rfl, K6⟩; have HK6 := hideI (HK5.out.trans K6 (fun _ f => f.elim)); have HG6 := hideI (HG5.out.later K6); have gc6 := HGC W6 HK6.out; obtain ⟨gh, rfl, -, hcc⟩ := HG6.out.cell hn0; have hcl := hcc (n - 1) _ (isV_get (hL_at L (by rw [← HN.out]; omega))); rw [HLA.out] at hcl; clear hcc; clear K6 HGC))
                go_quiet (fail)
                go_wp2
                go_ret2
                exact htP_bad HV.out rfl ((HKA.out.trans HK6.out (fun _ f => f.elim)).trans (Kept.drewN _ _) (fun _ f => f.elim))
          · have HS := hideI hst
            clear hst
            have HV := hideI (HVN.out (fun h => HS.out h.st))
            clear HVN HVY
            subst hV
            go_enter Tryd.func12, Tryd.ntmps12
            go_wp2_with (first
              | (go_at_call 24; refine H1.out.mono ?_; clear H1; rintro e W1 ⟨rfl, K1⟩; have HK1 := hideI K1; have HD := H2 W1 K1; obtain ⟨y0, y1, y2, y3, y4, y5⟩ := (HB6 W1 K1).out; clear K1 H2)
              | (go_at_call 18; refine HD.out.mono ?_; clear HD; rintro e W2 ⟨-, h2, K2⟩; obtain ⟨aL, cL, he, ho⟩ := h2 L rfl; rw [← HN.out] at he; subst he; have HK2 := hideI (HK1.out.trans K2 (fun _ f => f.elim)); have HI2 := hideI (ins_of_own ho); have HEO := hideI (endsOnce_any L aL cL W2 HI2.out hl40 _ HB2.out); rw [← HN.out] at HEO; clear K2 h2 ho)
              | (go_at_call 25; refine HEO.out.mono ?_; clear HEO; rintro e W3 ⟨rfl, K3⟩; have HK3 := hideI (HK2.out.trans K3 (fun _ f => f.elim)); have HI3 := hideI (HI2.out.kept K3 (fun _ _ f => f)); have HGP := hideI (goodOperands_any p L aA aC aN aD aO aL cA cC cN cD cO cL W3 HO.out HLO.out HI3.out hl40 _ HB3.out); rw [← HN.out] at HGP; obtain ⟨t0, t1, t2, t3, t4, t5⟩ := (HB6 W3 HK3.out).out; clear K3)
              | (go_at_call 26; refine HGP.out.mono ?_; clear HGP; rintro e W4 ⟨rfl, K4⟩; have HK4 := hideI (HK3.out.trans K4 (fun _ f => f.elim)); have HI4 := hideI (HI3.out.kept K4 (fun _ _ f => f)); have HST := hideI (straight_any L aL cL W4 HI4.out hl40 HLX.out (HE.out.kept HK4.out).t); rw [← HN.out] at HST; clear K4)
              | (go_at_call 27; refine HST.out.mono ?_; clear HST; rintro e W5 ⟨-, h5, K5⟩; have he := h5 HS.out; subst he; have HK5 := hideI (HK4.out.trans K5 (fun _ f => f.elim)); have gc5 := HGC W5 HK5.out; clear K5 h5 HGC))
            go_quiet (fail)
            go_wp2
            go_ret2
            exact htP_bad HV.out rfl ((HKA.out.trans HK5.out (fun _ f => f.elim)).trans (Kept.drewN _ _) (fun _ f => f.elim))
end Go.Proofs.YtohnkamobmkhkaaDoor
