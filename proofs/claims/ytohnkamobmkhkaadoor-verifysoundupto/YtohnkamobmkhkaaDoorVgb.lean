import Derived.Test.YtohnkamobmkhkaaDoorVft
import Derived.Test.YtohnkamobmkhkaaDoorVfx
namespace Go.Proofs.YtohnkamobmkhkaaDoor
open Go.ChangeShapes Go.WideShapes Go.ChangeAt Go.RowKit

set_option maxRecDepth 20000 in
set_option maxHeartbeats 32000000 in
theorem sound_walk (p : Pg) (aA aC aN aD aO : Option Addr) (cA cC cN cD cO : Nat) (ad : Nat → Addr) (w : World) (hP : PgAt w p aA aC aN aD aO) (hO : p.Ok) (hE : VN w ad) :
    Calls Tryd.prog 5 #[.agg #[.slice aA p.av.length cA, .slice aC p.cu.length cC, .slice aN p.nr.length cN, .bool p.al, .slice aD p.dr.length cD, .slice aO p.co.length cO]] w fun e w' => e = .returned (.bool true) ∧ Kept (fun _ => False) w w' := by
  have KA := Kept.alloc w (.cells #[.slice aA p.av.length cA, .slice aC p.cu.length cC, .slice aN p.nr.length cN, .bool p.al, .slice aD p.dr.length cD, .slice aO p.co.length cO] 27)
  have HBX : Hid ((w.alloc (.cells #[.slice aA p.av.length cA, .slice aC p.cu.length cC, .slice aN p.nr.length cN, .bool p.al, .slice aD p.dr.length cD, .slice aO p.co.length cO] 27)).heap[w.heap.size]? = some (.cells #[.slice aA p.av.length cA, .slice aC p.cu.length cC, .slice aN p.nr.length cN, .bool p.al, .slice aD p.dr.length cD, .slice aO p.co.length cO] 27 (0, 0))) := hideI (heap_alloc_new w _)
  obtain ⟨V, hV⟩ : ∃ V, V = w.alloc (.cells #[.slice aA p.av.length cA, .slice aC p.cu.length cC, .slice aN p.nr.length cN, .bool p.al, .slice aD p.dr.length cD, .slice aO p.co.length cO] 27) := ⟨_, rfl⟩
  rw [← hV] at KA HBX
  have HP := hideI (hP.kept KA)
  have HE := hideI (hE.kept KA)
  have HKA := hideI KA
  have HO := hideI hO
  have HB6 := fun (W : World) (K : Kept (fun _ => False) V W) => hideI (box6 (K.heap HBX.out (fun f => f)))
  have HFX := hideI (fixed_any ad V HE.out)
  have HCK := fun (W : World) (K : Kept (fun _ => False) V W) => hideI (check_any p aA aC aN aD aO cA cC cN cD cO (ad 0) (ad 1) (ad 20) W (HP.out.kept K) HO.out (HE.out.kept K).ve)
  have HHT := fun (W : World) (K : Kept (fun _ => False) V W) => hideI (heights_any p aA aC aN aD aO cA cC cN cD cO (ad 0) (ad 1) (ad 20) W (HP.out.kept K) HO.out (HE.out.kept K).ve)
  have HDC := fun (W : World) (K : Kept (fun _ => False) V W) => hideI (decode_any p.co aO cO (ad 0) (ad 1) (ad 20) W (HP.out.kept K).co HO.out.co (by have := HO.out.len; omega) (HE.out.kept K).ve.e (HE.out.kept K).o)
  obtain ⟨tb, htb⟩ := asB (TbOk p)
  have HTB := fun (W : World) (K : Kept (fun _ => False) V W) => hideI (tables_any p aA aC aN aD aO cA cC cN cD cO W (HP.out.kept K) HO.out tb htb)
  have HTK : Hid (IsB tb (TbOk p)) := hideI htb
  have hl5 := HO.out.len.2.2.2.2
  clear hP hE KA hO htb
  by_cases hv : ∃ L, Vok p L
  · obtain ⟨L, hv⟩ := hv
    have HV := hideI hv
    have HDS := hideI hv.dc
    obtain ⟨n, hn⟩ : ∃ n, n = L.length := ⟨_, rfl⟩
    have HN := hideI hn
    obtain ⟨f1, f2, f3⟩ := dcI_form p.co.length p.co L (Nat.le_refl _) HO.out.co HDS.out
    have HLO := hideI f2
    have HLX : Hid (∀ x ∈ L, 0 ≤ x.op ∧ x.op < 17) := hideI (fun x hx => isO_iff.1 (okI_isO (f3 x hx)))
    have hlco : ¬ (n : Int) > (p.co.length : Int) := by
      have q1 := ibL_ge L
      rw [f1] at q1
      omega
    have hl26 : L.length ≤ 67108864 := by omega
    clear hn f1 f2 f3
    obtain rfl : tb = true := isB_t HTK.out hv.tb
    obtain ⟨M, hM⟩ : ∃ M, M = mxL (hL L) := ⟨_, rfl⟩
    have HM := hideI hM
    have hn0 : 1 ≤ n := by rw [HN.out]; exact hv.gd.en.1
    have hMn : M ≤ (n : Int) := by rw [hM, HN.out]; exact hL_mx L
    have HL0 : Hid (∀ k, k < n → (hL L)[k]?.getD 0 = (hA L k : Nat)) := hideI (fun k hk => by rw [hL_at L (by rw [← HN.out]; exact hk)]; rfl)
    have HL1 : Hid (hA L (n - 1) = 1) := hideI (by rw [HN.out]; exact hv.gd.one)
    have hne : ((n : Int) != (n : Int)) = false := by simp
    subst hV
    clear hv hM HTK
    go_enter Tryd.func5, Tryd.ntmps5
    go_wp2_with (first
      | (go_at_call 8; refine HFX.out.mono ?_; clear HFX; rintro e W1 ⟨rfl, K1⟩; have HK1 := hideI K1; have HC := HCK W1 K1; obtain ⟨z0, z1, z2, z3, z4, z5⟩ := (HB6 W1 K1).out; clear K1 HCK)
      | (go_at_call 10; refine HC.out.mono ?_; clear HC; rintro e W2 ⟨h, -, K2⟩; have he := h L HV.out; rw [← HN.out, ← HM.out] at he; subst he; have KP := Kept.alloc W2 (.cells #[.int .i64 (n : Nat), .int .i64 M] 31); have HK2 := hideI ((HK1.out.trans K2 (fun _ f => f.elim)).trans KP (fun _ f => f.elim)); have HPX := hideI (heap_alloc_new W2 (.cells #[.int .i64 (n : Nat), .int .i64 M] 31 (0, 0))); have HH := HHT _ HK2.out; obtain ⟨y0, y1, y2, y3, y4, y5⟩ := (HB6 _ HK2.out).out; clear h K2 KP HHT)
      | (go_at_call 12; refine HH.out.mono ?_; clear HH; rintro e W3 ⟨h, -, K3⟩; obtain ⟨aH, cH, he, hg⟩ := h L HV.out; rw [← HN.out] at he hg; subst he; have HK3 := hideI (HK2.out.trans K3 (fun _ f => f.elim)); have HPX3 := hideI (K3.heap HPX.out (fun f => f)); have HI3 := hideI (gro_ints hg (by rw [hL_len]; exact HN.out)); obtain ⟨⟨p0, p1⟩, -⟩ := pf_cells HPX3.out; obtain ⟨s0, s1, s2, s3, s4, s5⟩ := (HB6 _ HK3.out).out; clear h K3 hg HPX))
    go_quiet (fail)
    have HK3d := hideI (HK3.out.trans (Kept.drewN W3 nq) (fun _ f => f.elim))
    have HPX3d := hideI ((Kept.drewN W3 nq).heap HPX3.out (fun f => f))
    have HD := HDC _ HK3d.out
    obtain ⟨r0, r1, r2, r3, r4, r5⟩ := (HB6 _ HK3d.out).out
    go_wp2_with (first
      | (go_at_call 18; refine HD.out.mono ?_; clear HD; rintro e W4 ⟨-, h, K4⟩; obtain ⟨aL, cL, he, ho⟩ := h L HDS.out; rw [← HN.out] at he; subst he; have HK4 := hideI (HK3d.out.trans K4 (fun _ f => f.elim)); have HPX4 := hideI (K4.heap HPX3d.out (fun f => f)); have HL4 := hideI (ins_of_own ho); have HTa := HTB _ HK4.out; obtain ⟨q0, q1, q2, q3, q4, q5⟩ := (HB6 _ HK4.out).out; obtain ⟨⟨p2, p3⟩, -⟩ := pf_cells HPX4.out; have HKd4 := hideI K4; clear h K4 ho HPX3d)
      | (go_at_call 19; refine HTa.out.mono ?_; clear HTa; rintro e W5 ⟨rfl, K5⟩; have HK5 := hideI (HK4.out.trans K5 (fun _ f => f.elim)); have HPX5 := hideI (K5.heap HPX4.out (fun f => f)); have HL5 := hideI (HL4.out.kept K5 (fun _ _ f => f)); have HWY := hideI (ways_any p L aA aC aN aD aO aL cA cC cN cD cO cL W5 HO.out HL5.out hl26 HLX.out HLO.out); rw [← HN.out] at HWY; obtain ⟨t0, t1, t2, t3, t4, t5⟩ := (HB6 _ HK5.out).out; have HK45 := hideI K5; clear K5 HPX4)
      | (go_at_call 20; refine HWY.out.mono ?_; clear HWY; rintro e W6 ⟨h, -, K6⟩; obtain ⟨aW, cW, he, hiw⟩ := h HV.out.gd; rw [← HN.out] at he; subst he; have HK6 := hideI (HK5.out.trans K6 (fun _ f => f.elim)); have HPX6 := hideI (K6.heap HPX5.out (fun f => f)); obtain ⟨⟨p6, p7⟩, -⟩ := pf_cells HPX6.out; have HIW := hideI hiw; have HI6 := hideI (HI3.out.keptI (show Kept (fun _ => False) W3 W6 from ((((Kept.drewN W3 nq).trans HKd4.out (fun _ f => f.elim)).trans HK45.out (fun _ f => f.elim))).trans K6 (fun _ f => f.elim))); clear h K6 hiw HPX5))
    have hi1 : (0 : Int) < (n : Int) := by omega
    clear hne p0 p1 p2 p3 p6 p7
    go_loopw [11, 101] (fun v11 v101 wr => ∃ (k : Nat), k ≤ n ∧ v101 = .int .i64 k ∧ v11 = .int .i64 (mxL ((hL L).take k)) ∧ Hid (Kept (fun _ => False) W6 wr)) (fun _ v101 _ => n - (intOf v101).toNat)
    case atStart => exact ⟨0, by omega, rfl, rfl, hideI (Kept.refl _ _)⟩
    case round =>
      obtain ⟨k, hk, rfl, rfl, HK⟩ := hrel
      by_cases hlt : k < n
      · have hki : (k : Int) < (n : Int) := by omega
        have hkl : k < (hL L).length := by rw [hL_len, ← HN.out]; exact hlt
        obtain ⟨b1, o1, e1, c1⟩ := HI6.out.get hkl
        obtain ⟨b2, o2, e2, c2⟩ := HIW.out.get hkl
        rw [HL0.out k hlt] at c1 c2
        subst e1 e2
        have c1 := HK.out.cell c1 (fun f => f)
        have c2 := HK.out.cell c2 (fun f => f)
        have HMX : Hid (mxL ((hL L).take (k + 1)) = max (mxL ((hL L).take k)) (hA L k : Nat)) := hideI (by rw [mx_take hkl, hL_get])
        generalize hA L k = h at *
        generalize mxL ((hL L).take k) = m at *
        have hbn : ((h : Int) != (h : Int)) = false := by simp
        obtain ⟨m2, hm2⟩ : ∃ m2, m2 = if (h : Int) > m then (h : Int) else m := ⟨_, rfl⟩
        have HM2 : Hid (mxL ((hL L).take (k + 1)) = m2) := hideI (by rw [HMX.out, hm2]; split <;> omega)
        have Hm2 := hideI hm2
        clear hm2 HMX hkl
        go_wp2
        go_quiet (fail)
        have c1' := (Kept.drewN wr nq).cell c1 (fun f => f)
        go_wp2_with (refine wpList_maxV rfl _ _ rfl m (h : Int) m2 rfl rfl Hm2.out ?_)
        go_roundw
        case rel => exact ⟨k + 1, hlt, by go_num, by rw [HM2.out], hideI (HK.out.trans (Kept.drewN wr nq) (fun _ f => f.elim))⟩
        case measure => simp [intOf]; omega
      · obtain rfl : k = n := by omega
        have hki : ¬ (k : Int) < (k : Int) := by omega
        have hfull : mxL ((hL L).take k) = M := by rw [List.take_of_length_le (by rw [hL_len, ← HN.out]; exact Nat.le_refl _), ← HM.out]
        rw [hfull]
        obtain ⟨⟨p0, p1⟩, -⟩ := pf_cells (HK.out.heap HPX6.out (fun f => f))
        obtain ⟨b1, o1, e1, c1⟩ := HI6.out.get (k := 0) (by rw [hL_len, ← HN.out]; omega)
        obtain ⟨b2, o2, e2, c2⟩ := HI6.out.get (k := k - 1) (by rw [hL_len, ← HN.out]; omega)
        rw [HL0.out 0 (by omega), Nat.add_zero] at c1
        rw [HL0.out (k - 1) (by omega), HL1.out] at c2
        rw [e1] at e2
        cases e2
        subst e1
        have c1 := HK.out.cell c1 (fun f => f)
        have c2 := HK.out.cell c2 (fun f => f)
        rw [show hA L 0 = 0 from rfl] at c1
        have g1 : (M == M) = true := by simp
        have g2 : ((k : Int) - 1).toNat = k - 1 := by omega
        have g3 : (0 : Int) ≤ (k : Int) - 1 := by omega
        have g4 : (k : Int) - 1 < (k : Int) := by omega
        clear hfull
        go_wp2
        go_ret
        exact ⟨by simp; try omega, (HKA.out.trans HK6.out (fun _ f => f.elim)).trans HK.out (fun _ f => f.elim)⟩
  · have HV := hideI hv
    cases hd : dcI p.co with
    | none =>
      have HDN := hideI hd
      subst hV
      clear hv hd HTB HTK hl5
      go_enter Tryd.func5, Tryd.ntmps5
      go_wp2_with (first
        | (go_at_call 8; refine HFX.out.mono ?_; clear HFX; rintro e W1 ⟨rfl, K1⟩; have HK1 := hideI K1; have HC := HCK W1 K1; obtain ⟨z0, z1, z2, z3, z4, z5⟩ := (HB6 W1 K1).out; clear K1 HCK)
        | (go_at_call 10; refine HC.out.mono ?_; clear HC; rintro e W2 ⟨-, h, K2⟩; have he := h HV.out; unfold errV at he; subst he; have KP := Kept.alloc W2 (.cells #[.int .i64 0, .int .i64 0] 31); have HK2 := hideI ((HK1.out.trans K2 (fun _ f => f.elim)).trans KP (fun _ f => f.elim)); have HPX := hideI (heap_alloc_new W2 (.cells #[.int .i64 0, .int .i64 0] 31 (0, 0))); have HH := HHT _ HK2.out; obtain ⟨y0, y1, y2, y3, y4, y5⟩ := (HB6 _ HK2.out).out; clear h K2 KP HHT)
        | (go_at_call 12; refine HH.out.mono ?_; clear HH; rintro e W3 ⟨-, h, K3⟩; have he := h HV.out; unfold errV at he; subst he; have HK3 := hideI (HK2.out.trans K3 (fun _ f => f.elim)); have HPX3 := hideI (K3.heap HPX.out (fun f => f)); obtain ⟨⟨p0, p1⟩, -⟩ := pf_cells HPX3.out; obtain ⟨s0, s1, s2, s3, s4, s5⟩ := (HB6 _ HK3.out).out; clear h K3 HPX))
      go_quiet (fail)
      have HK3d := hideI (HK3.out.trans (Kept.drewN W3 nq) (fun _ f => f.elim))
      have HPX3d := hideI ((Kept.drewN W3 nq).heap HPX3.out (fun f => f))
      have HD := HDC _ HK3d.out
      obtain ⟨r0, r1, r2, r3, r4, r5⟩ := (HB6 _ HK3d.out).out
      go_wp2_with (first
        | (go_at_call 18; refine HD.out.mono ?_; clear HD; rintro e W4 ⟨h, -, K4⟩; have he := h HDN.out; unfold errV at he; subst he; have HK4 := hideI (HK3d.out.trans K4 (fun _ f => f.elim)); have HPX4 := hideI (K4.heap HPX3d.out (fun f => f)); obtain ⟨⟨p2, p3⟩, -⟩ := pf_cells HPX4.out; clear h K4 HPX3d))
      go_ret
      exact ⟨rfl, (HKA.out.trans HK4.out (fun _ f => f.elim))⟩
    | some L =>
      have HDS := hideI hd
      obtain ⟨n, hn⟩ : ∃ n, n = L.length := ⟨_, rfl⟩
      have HN := hideI hn
      obtain ⟨f1, f2, f3⟩ := dcI_form p.co.length p.co L (Nat.le_refl _) HO.out.co HDS.out
      have HLO := hideI f2
      have HLX : Hid (∀ x ∈ L, 0 ≤ x.op ∧ x.op < 17) := hideI (fun x hx => isO_iff.1 (okI_isO (f3 x hx)))
      have hlco : ¬ (n : Int) > (p.co.length : Int) := by
        have q1 := ibL_ge L
        rw [f1] at q1
        omega
      have hl26 : L.length ≤ 67108864 := by omega
      clear hn f1 f2 f3
      have HNG : Hid (TbOk p → ¬ Gd p L) := hideI (fun a b => HV.out ⟨L, a, HDS.out, b⟩)
      clear hv hd
      cases tb with
      | false =>
        subst hV
        clear HNG HTK
        go_enter Tryd.func5, Tryd.ntmps5
        go_wp2_with (first
          | (go_at_call 8; refine HFX.out.mono ?_; clear HFX; rintro e W1 ⟨rfl, K1⟩; have HK1 := hideI K1; have HC := HCK W1 K1; obtain ⟨z0, z1, z2, z3, z4, z5⟩ := (HB6 W1 K1).out; clear K1 HCK)
          | (go_at_call 10; refine HC.out.mono ?_; clear HC; rintro e W2 ⟨-, h, K2⟩; have he := h HV.out; unfold errV at he; subst he; have KP := Kept.alloc W2 (.cells #[.int .i64 0, .int .i64 0] 31); have HK2 := hideI ((HK1.out.trans K2 (fun _ f => f.elim)).trans KP (fun _ f => f.elim)); have HPX := hideI (heap_alloc_new W2 (.cells #[.int .i64 0, .int .i64 0] 31 (0, 0))); have HH := HHT _ HK2.out; obtain ⟨y0, y1, y2, y3, y4, y5⟩ := (HB6 _ HK2.out).out; clear h K2 KP HHT)
          | (go_at_call 12; refine HH.out.mono ?_; clear HH; rintro e W3 ⟨-, h, K3⟩; have he := h HV.out; unfold errV at he; subst he; have HK3 := hideI (HK2.out.trans K3 (fun _ f => f.elim)); have HPX3 := hideI (K3.heap HPX.out (fun f => f)); obtain ⟨⟨p0, p1⟩, -⟩ := pf_cells HPX3.out; obtain ⟨s0, s1, s2, s3, s4, s5⟩ := (HB6 _ HK3.out).out; clear h K3 HPX))
        go_quiet (fail)
        have HK3d := hideI (HK3.out.trans (Kept.drewN W3 nq) (fun _ f => f.elim))
        have HPX3d := hideI ((Kept.drewN W3 nq).heap HPX3.out (fun f => f))
        have HD := HDC _ HK3d.out
        obtain ⟨r0, r1, r2, r3, r4, r5⟩ := (HB6 _ HK3d.out).out
        go_wp2_with (first
          | (go_at_call 18; refine HD.out.mono ?_; clear HD; rintro e W4 ⟨-, h, K4⟩; obtain ⟨aL, cL, he, ho⟩ := h L HDS.out; rw [← HN.out] at he; subst he; have HK4 := hideI (HK3d.out.trans K4 (fun _ f => f.elim)); have HPX4 := hideI (K4.heap HPX3d.out (fun f => f)); have HL4 := hideI (ins_of_own ho); have HTa := HTB _ HK4.out; obtain ⟨q0, q1, q2, q3, q4, q5⟩ := (HB6 _ HK4.out).out; obtain ⟨⟨p2, p3⟩, -⟩ := pf_cells HPX4.out; clear h K4 ho HPX3d)
          | (go_at_call 19; refine HTa.out.mono ?_; clear HTa; rintro e W5 ⟨rfl, K5⟩; have HK5 := hideI (HK4.out.trans K5 (fun _ f => f.elim)); have HPX5 := hideI (K5.heap HPX4.out (fun f => f)); obtain ⟨⟨p4, p5⟩, -⟩ := pf_cells HPX5.out; clear K5 HPX4))
        go_ret
        exact ⟨rfl, (HKA.out.trans HK5.out (fun _ f => f.elim))⟩
      | true =>
        have HNG := hideI (HNG.out HTK.out.yes)
        subst hV
        clear HTK
        go_enter Tryd.func5, Tryd.ntmps5
        go_wp2_with (first
          | (go_at_call 8; refine HFX.out.mono ?_; clear HFX; rintro e W1 ⟨rfl, K1⟩; have HK1 := hideI K1; have HC := HCK W1 K1; obtain ⟨z0, z1, z2, z3, z4, z5⟩ := (HB6 W1 K1).out; clear K1 HCK)
          | (go_at_call 10; refine HC.out.mono ?_; clear HC; rintro e W2 ⟨-, h, K2⟩; have he := h HV.out; unfold errV at he; subst he; have KP := Kept.alloc W2 (.cells #[.int .i64 0, .int .i64 0] 31); have HK2 := hideI ((HK1.out.trans K2 (fun _ f => f.elim)).trans KP (fun _ f => f.elim)); have HPX := hideI (heap_alloc_new W2 (.cells #[.int .i64 0, .int .i64 0] 31 (0, 0))); have HH := HHT _ HK2.out; obtain ⟨y0, y1, y2, y3, y4, y5⟩ := (HB6 _ HK2.out).out; clear h K2 KP HHT)
          | (go_at_call 12; refine HH.out.mono ?_; clear HH; rintro e W3 ⟨-, h, K3⟩; have he := h HV.out; unfold errV at he; subst he; have HK3 := hideI (HK2.out.trans K3 (fun _ f => f.elim)); have HPX3 := hideI (K3.heap HPX.out (fun f => f)); obtain ⟨⟨p0, p1⟩, -⟩ := pf_cells HPX3.out; obtain ⟨s0, s1, s2, s3, s4, s5⟩ := (HB6 _ HK3.out).out; clear h K3 HPX))
        go_quiet (fail)
        have HK3d := hideI (HK3.out.trans (Kept.drewN W3 nq) (fun _ f => f.elim))
        have HPX3d := hideI ((Kept.drewN W3 nq).heap HPX3.out (fun f => f))
        have HD := HDC _ HK3d.out
        obtain ⟨r0, r1, r2, r3, r4, r5⟩ := (HB6 _ HK3d.out).out
        go_wp2_with (first
          | (go_at_call 18; refine HD.out.mono ?_; clear HD; rintro e W4 ⟨-, h, K4⟩; obtain ⟨aL, cL, he, ho⟩ := h L HDS.out; rw [← HN.out] at he; subst he; have HK4 := hideI (HK3d.out.trans K4 (fun _ f => f.elim)); have HPX4 := hideI (K4.heap HPX3d.out (fun f => f)); have HL4 := hideI (ins_of_own ho); have HTa := HTB _ HK4.out; obtain ⟨q0, q1, q2, q3, q4, q5⟩ := (HB6 _ HK4.out).out; obtain ⟨⟨p2, p3⟩, -⟩ := pf_cells HPX4.out; clear h K4 ho HPX3d)
          | (go_at_call 19; refine HTa.out.mono ?_; clear HTa; rintro e W5 ⟨rfl, K5⟩; have HK5 := hideI (HK4.out.trans K5 (fun _ f => f.elim)); have HPX5 := hideI (K5.heap HPX4.out (fun f => f)); have HL5 := hideI (HL4.out.kept K5 (fun _ _ f => f)); have HWY := hideI (ways_any p L aA aC aN aD aO aL cA cC cN cD cO cL W5 HO.out HL5.out hl26 HLX.out HLO.out); rw [← HN.out] at HWY; obtain ⟨t0, t1, t2, t3, t4, t5⟩ := (HB6 _ HK5.out).out; clear K5 HPX4)
          | (go_at_call 20; refine HWY.out.mono ?_; clear HWY; rintro e W6 ⟨-, h, K6⟩; have he := h HNG.out; subst he; have HK6 := hideI (HK5.out.trans K6 (fun _ f => f.elim)); have HPX6 := hideI (K6.heap HPX5.out (fun f => f)); obtain ⟨⟨p6, p7⟩, -⟩ := pf_cells HPX6.out; clear h K6 HPX5))
        go_ret
        exact ⟨rfl, (HKA.out.trans HK6.out (fun _ f => f.elim))⟩
end Go.Proofs.YtohnkamobmkhkaaDoor
