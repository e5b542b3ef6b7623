import Derived.Test.YtiebmmpnmklpnaaDoorVst
import Derived.Test.YtiebmmpnmklpnaaDoorMrg5
namespace Go.Proofs.YtiebmmpnmklpnaaDoor
open Go.ChangeShapes Go.WideShapes Go.ChangeAt Go.RowKit

set_option maxRecDepth 20000 in
set_option maxHeartbeats 32000000 in
theorem more_walk (p : Pg) (aA aC aN aD aO aV aT : Option Addr) (cA cC cN cD cO cV cT : Nat) (X : List Int) (T : List ByteArray) (dv : Int) (ad : Nat → Addr) (w : World) (hP : PgAt w p aA aC aN aD aO) (hO : p.Ok) (hE : VN w ad) (hX : IntsAt w aV X) (hXl : X.length ≤ 67108864) (hXi : IsInts X) (hT : TxAt w aT T) (hTl : T.length ≤ 67108864) (hsz : psz p + szT T ≤ 67000000) :
    Calls Tryd.prog 4 #[.agg #[.slice aA p.av.length cA, .slice aC p.cu.length cC, .slice aN p.nr.length cN, .bool p.al, .slice aD p.dr.length cD, .slice aO p.co.length cO], .slice aV X.length cV, .slice aT T.length cT, .int .i64 dv] w fun e w' => e = .returned (.bool true) ∧ Kept (fun _ => False) w w' := by
  have KA := Kept.alloc w (.cells #[.slice aA p.av.length cA, .slice aC p.cu.length cC, .slice aN p.nr.length cN, .bool p.al, .slice aD p.dr.length cD, .slice aO p.co.length cO] 27)
  have HBX : Hid ((w.alloc (.cells #[.slice aA p.av.length cA, .slice aC p.cu.length cC, .slice aN p.nr.length cN, .bool p.al, .slice aD p.dr.length cD, .slice aO p.co.length cO] 27)).heap[w.heap.size]? = some (.cells #[.slice aA p.av.length cA, .slice aC p.cu.length cC, .slice aN p.nr.length cN, .bool p.al, .slice aD p.dr.length cD, .slice aO p.co.length cO] 27 (0, 0))) := hideI (heap_alloc_new w _)
  obtain ⟨V, hV⟩ : ∃ V, V = w.alloc (.cells #[.slice aA p.av.length cA, .slice aC p.cu.length cC, .slice aN p.nr.length cN, .bool p.al, .slice aD p.dr.length cD, .slice aO p.co.length cO] 27) := ⟨_, rfl⟩
  rw [← hV] at KA HBX
  have HP := hideI (hP.kept KA)
  have HE := hideI (hE.kept KA)
  have HKA := hideI KA
  have HO := hideI hO
  have HX := hideI hX
  have HT := hideI hT
  have HXI := hideI hXi
  have HSZ := hideI hsz
  have HB6 := fun (W : World) (K : Kept (fun _ => False) V W) => hideI (box6 (K.heap HBX.out (fun f => f)))
  have HFX := hideI (fixed_any ad V HE.out)
  have HCK := fun (W : World) (K : Kept (fun _ => False) V W) => hideI (check_any p aA aC aN aD aO cA cC cN cD cO (ad 0) (ad 1) (ad 20) W (HP.out.kept K) HO.out (HE.out.kept K).ve)
  have HCP := fun (W : World) (K : Kept (fun _ => False) V W) => hideI (copied_any p aA aC aN aD aO cA cC cN cD cO W (HP.out.kept K) HO.out)
  have hl5 := HO.out.len.2.2.2.2
  clear hP hE KA hO hX hT hXi hsz
  obtain ⟨nX, hnX⟩ : ∃ nX, nX = X.length := ⟨_, rfl⟩
  obtain ⟨nT, hnT⟩ : ∃ nT, nT = T.length := ⟨_, rfl⟩
  rw [← hnX] at hXl ⊢
  rw [← hnT] at hTl ⊢
  have HNX := hideI hnX
  have HNT := hideI hnT
  clear hnX hnT
  by_cases hv : ∃ L, Vok p L
  · obtain ⟨L, hv⟩ := hv
    have HV := hideI hv
    have HDS := hideI hv.dc
    obtain ⟨n, hn⟩ : ∃ n, n = L.length := ⟨_, rfl⟩
    have HN := hideI hn
    obtain ⟨f1, f2, f3⟩ := dcI_form p.co.length p.co L (Nat.le_refl _) HO.out.co HDS.out
    have hl26 : n ≤ 67108864 := by
      have q1 := ibL_ge L
      rw [f1] at q1
      omega
    obtain ⟨M, hM⟩ : ∃ M, M = mxL (hL L) := ⟨_, rfl⟩
    have HM := hideI hM
    have ha16 : p.av.length ≤ 16 := hv.tb.1.2.1
    subst hV
    clear hn f1 f2 f3 hv hM
    go_enter Tryd.func4, Tryd.ntmps4
    go_wp2_with (first
      | (go_at_call 6; refine HFX.out.mono ?_; clear HFX; rintro e W1 ⟨rfl, K1⟩; have HK1 := hideI K1; have HC := HCK W1 K1; obtain ⟨z0, z1, z2, z3, z4, z5⟩ := (HB6 W1 K1).out; clear K1 HCK)
      | (go_at_call 8; refine HC.out.mono ?_; clear HC z0 z1 z2 z3 z4 z5; rintro e W3 ⟨h, -, K3⟩; have he := h L HV.out; rw [← HN.out, ← HM.out] at he; subst he; have KP := Kept.alloc W3 (.cells #[.int .i64 (n : Nat), .int .i64 M] 31); have HK3 := hideI ((HK1.out.trans K3 (fun _ f => f.elim)).trans KP (fun _ f => f.elim)); have HPX := hideI (heap_alloc_new W3 (.cells #[.int .i64 (n : Nat), .int .i64 M] 31 (0, 0))); have HC := HCP _ HK3.out; obtain ⟨z0, z1, z2, z3, z4, z5⟩ := (HB6 _ HK3.out).out; clear h K3 KP HCP)
      | (go_at_call 7; refine HC.out.mono ?_; clear HC z0 z1 z2 z3 z4 z5; rintro e W2 ⟨vA, vC, vN, vD, vO, rfl, hcp⟩; have HCPP := hideI hcp; obtain ⟨bA, bC, bN, bD, bO, dA, dC, dN, dD, dO, rfl, rfl, rfl, rfl, rfl, -⟩ := hcp.at; clear hcp))
    obtain ⟨V3, hV3⟩ : ∃ V3, V3 = W3.alloc (.cells #[.int .i64 (n : Nat), .int .i64 M] 31) := ⟨_, rfl⟩
    rw [← hV3] at HCPP HK3 HPX
    clear hV3
    have HK0 := hideI (HKA.out.trans HK3.out (fun _ f => f.elim))
    have HX3 := hideI (HX.out.keptI HK0.out)
    have HT3 := hideI (HT.out.kept HK0.out)
    have HE3 := hideI (HE.out.kept HK3.out)
    have HMS := hideI (Mo.start HCPP.out (Kept.refl _ V3))
    have HBV : Hid (V3.heap.size ≤ (W2.alloc (.cells #[.slice bA p.av.length dA, .slice bC p.cu.length dC, .slice bN p.nr.length dN, .bool p.al, .slice bD p.dr.length dD, .slice bO p.co.length dO] 27)).heap.size) := hideI (Nat.le_trans HCPP.out.kept.size (Kept.alloc _ _).size)
    have HAI := hideI HO.out.av
    clear HKA HK1 HK3 HX HT HE HP HB6 HBX
    go_loopw [36] (fun v36 wr => ∃ (j : Nat) (av : List Int) (a : Option Addr) (c : Nat), j ≤ nX ∧ v36 = .int .i64 j ∧ Hid (Mo V3 (W2.alloc (.cells #[.slice bA p.av.length dA, .slice bC p.cu.length dC, .slice bN p.nr.length dN, .bool p.al, .slice bD p.dr.length dD, .slice bO p.co.length dO] 27)) V3.heap.size W2.heap.size p (.slice bA p.av.length dA) (.slice bC p.cu.length dC) (.slice bN p.nr.length dN) (.slice bD p.dr.length dD) (.slice bO p.co.length dO) av p.cu (.slice a av.length c) (.slice bC p.cu.length dC) wr) ∧ Hid (Grw p av p.cu) ∧ Hid (IsInts av)) (fun v36 _ => nX - (intOf v36).toNat)
    case atStart => exact ⟨0, p.av, bA, dA, by omega, rfl, HMS, hideI ⟨⟨[], by simp, fun x hx => (by cases hx)⟩, ha16, ⟨[], by simp, fun x hx => (by cases hx)⟩⟩, HAI⟩
    case round =>
      obtain ⟨j, av, a, c, hj, rfl, HM1, HG1, HAI1⟩ := hrel
      obtain ⟨c0, c1, c2, c3, c4, c5⟩ := box6 HM1.out.box
      have h16 := HG1.out.a16
      by_cases hlt : j < nX
      · have hjl : j < X.length := by rw [← HNX.out]; exact hlt
        have hji : (j : Int) < (nX : Int) := by omega
        obtain ⟨bx, ox, rfl, hc⟩ := HX3.out.get hjl
        rw [List.getElem?_eq_getElem hjl, Option.getD_some] at hc
        have h0 := HM1.out.old.cell hc (fun f => f)
        generalize X[j] = x at *
        obtain ⟨na, hna⟩ : ∃ na, na = av.length := ⟨_, rfl⟩
        rw [← hna] at HM1 c0 h16
        have HNA := hideI hna
        clear hna hc hjl
        have HB0 : Hid (V3.heap.size ≤ wr.heap.size) := hideI (Nat.le_trans HBV.out HM1.out.kept.size)
        by_cases h15 : na < 16
        · have h15i : (na : Int) < 16 := by omega
          go_wp2_with (at_builtin; refine wpList_moA rfl _ _ rfl a c na HNA rfl HM1 _ rfl HB0 rfl (wrap64 ((IntKind.u64.wrap x).tmod 100000)) (by omega) ?_; intro a' c' W' HM2 hc hf)
          obtain ⟨y0, y1⟩ := mod_y x 100000 (by decide) (by decide)
          have HY := hideI (And.intro y0 y1)
          clear y0 y1
          generalize wrap64 ((IntKind.u64.wrap x).tmod 100000) = y at *
          rw [show na + 1 = (av ++ [y]).length by simp [HNA.out]] at HM2 ⊢
          go_roundw
          case rel => exact ⟨j + 1, av ++ [y], a', c', hlt, by go_num, HM2, hideI (HG1.out.snA HY.out.1 (by rw [← HNA.out]; exact h15)), hideI (isI_snoc HAI1.out HY.out.1 (by have := HY.out.2; omega))⟩
          case measure => simp [intOf]; omega
        · have h15i : ¬ (na : Int) < 16 := by omega
          go_wp2_with fail
          rw [HNA.out] at HM1
          go_roundw
          case rel => exact ⟨j + 1, av, a, c, hlt, by go_num, HM1, HG1, HAI1⟩
          case measure => simp [intOf]; omega
      · obtain rfl : j = nX := by omega
        have HAV := hideI (HG1.out.avOk HV.out)
        obtain ⟨na, hna⟩ : ∃ na, na = av.length := ⟨_, rfl⟩
        rw [← hna] at HM1 c0 h16
        have HNA := hideI hna
        have hna1 : 1 ≤ na := by rw [hna]; exact HAV.out.1
        clear hna
        have HAI2 := HAI1
        go_wp2_with fail
        clear c0 c1 c2 c3 c4 c5
        go_loopw [56] (fun v56 wr => ∃ (j : Nat) (cu : List Lf) (a2 : Option Addr) (c2 : Nat), j ≤ nT ∧ v56 = .int .i64 j ∧ Hid (Mo V3 (W2.alloc (.cells #[.slice bA p.av.length dA, .slice bC p.cu.length dC, .slice bN p.nr.length dN, .bool p.al, .slice bD p.dr.length dD, .slice bO p.co.length dO] 27)) V3.heap.size W2.heap.size p (.slice bA p.av.length dA) (.slice bC p.cu.length dC) (.slice bN p.nr.length dN) (.slice bD p.dr.length dD) (.slice bO p.co.length dO) av cu (.slice a na c) (.slice a2 cu.length c2) wr) ∧ Hid (Grw p av cu) ∧ Hid (cu.length ≤ p.cu.length + j ∧ szC cu ≤ szC p.cu + szT (T.take j))) (fun v56 _ => nT - (intOf v56).toNat)
        case atStart => exact ⟨0, p.cu, bC, dC, by omega, rfl, HM1, HG1, hideI ⟨by omega, by omega⟩⟩
        case round =>
          obtain ⟨j, cu, a2, c2, hj, rfl, HM2, HG2, HSC⟩ := hrel
          obtain ⟨c0, c1, c2', c3, c4, c5⟩ := box6 HM2.out.box
          obtain ⟨nc, hnc⟩ : ∃ nc, nc = cu.length := ⟨_, rfl⟩
          have hncb : nc ≤ 134217728 := by have := HSC.out.1; have := HO.out.len; omega
          rw [← hnc] at HM2 c1
          have HNC := hideI hnc
          clear hnc
          by_cases hlt : j < nT
          · have hjl : j < T.length := by rw [← HNT.out]; exact hlt
            have hji : (j : Int) < (nT : Int) := by omega
            obtain ⟨bt, ot, ea, hc⟩ := HT3.out (by intro e; rw [e] at hjl; simp at hjl)
            have h0 := HM2.out.old.cell (hc j hjl) (fun f => f)
            subst ea
            have HS1 := hideI (szT_take hjl)
            generalize T[j] = t at *
            clear hc hjl
            have HB0 : Hid (V3.heap.size ≤ wr.heap.size) := hideI (Nat.le_trans HBV.out HM2.out.kept.size)
            by_cases h64 : t.size ≤ 64
            · have h64i : (t.size : Int) ≤ 64 := by omega
              go_wp2_with (at_builtin; refine wpList_moC rfl _ _ rfl a2 c2 nc HNC rfl HM2 _ rfl HB0 rfl ((na : Int) - 1) t (by omega) ?_; intro a3 c3 W' HM3 hc3 hf3)
              rw [show nc + 1 = (cu ++ [(⟨(na : Int) - 1, t⟩ : Lf)]).length by simp [HNC.out]] at HM3 ⊢
              go_roundw
              case rel => exact ⟨j + 1, cu ++ [⟨(na : Int) - 1, t⟩], a3, c3, hlt, by go_num, HM3, hideI (HG2.out.snC ⟨by simp only; omega, by simp only; rw [← HNA.out]; omega, h64⟩), hideI ⟨by have := HSC.out.1; simp; omega, by rw [szC_snoc, HS1.out]; have := HSC.out.2; simp only; omega⟩⟩
              case measure => simp [intOf]; omega
            · have h64i : ¬ (t.size : Int) ≤ 64 := by omega
              go_wp2_with fail
              rw [HNC.out] at HM2
              go_roundw
              case rel => exact ⟨j + 1, cu, a2, c2, hlt, by go_num, HM2, HG2, hideI ⟨by have := HSC.out.1; omega, by rw [HS1.out]; have := HSC.out.2; omega⟩⟩
              case measure => simp [intOf]; omega
          · obtain rfl : j = nT := by omega
            have HSZ2 : Hid (psz p + szT (T.take j) ≤ 67000000) := hideI (by have := HSZ.out; have := szT_le T j; omega)
            obtain ⟨xs, hrw⟩ := Mo.rest HCPP.out HM2.out
            have HRW := hideI hrw
            by_cases hz : nc = 0
            · subst hz
              go_wp2_with fail
              go_at_call 8
              have hz0 : cu.length = 0 := HNC.out.symm
              have HVQ := hideI (HV.out.mo0 HG2.out hz0)
              have HRQ := hideI hrw
              have HOQ := hideI (HG2.out.ok HV.out HO.out HAI2.out HSC.out.2 HSZ2.out p.nr p.al p.dr HO.out.nr (by omega) HO.out.dr (by omega))
              have HOL := hideI (HG2.out.ok HV.out HO.out HAI2.out HSC.out.2 HSZ2.out p.nr true [] HO.out.nr (by omega) (fun x hx => (by cases hx)) (by simp))
              have HVL := hideI HVQ.out.moL
              have HC := hideI (check_rw HRQ.out p.al rfl HOQ.out (ad 0) (ad 1) (ad 20) (HE3.out.kept HRQ.out.old).ve)
              refine HC.out.mono ?_
              clear HC
              rintro e W9 ⟨h, -, K9⟩
              have he := h L HVQ.out
              rw [← HN.out, ← HM.out] at he
              subst he
              have hlt9 : W2.heap.size < W9.heap.size := lt_of_block (HRQ.out.later K9).box
              have HRX := hideI (HRQ.out.later K9)
              have HPY := hideI (heap_alloc_new ((W9.setCell ⟨W2.heap.size, 4, none⟩ (.slice none 0 0)).setCell ⟨W2.heap.size, 3, none⟩ (.bool true)) (.cells #[.int .i64 (n : Nat), .int .i64 M] 31 (0, 0)))
              have HPZ := hideI (show ((W9.setCell ⟨W2.heap.size, 4, none⟩ (.slice none 0 0)).setCell ⟨W2.heap.size, 3, none⟩ (.bool true)).heap.size = W9.heap.size by simp)
              rw [HPZ.out] at HPY
              obtain ⟨d0, d1, d2, d3, d4, d5⟩ := box6 HRX.out.box
              have zf := box6f HRX.out.box
              have HR2 := hideI (((HRX.out.drive (.slice none 0 0) [] (row_nil _)).1.all true).1.later (Kept.alloc _ (.cells #[.int .i64 (n : Nat), .int .i64 M] 31)))
              have HC2 := hideI (check_rw HR2.out true rfl HOL.out (ad 0) (ad 1) (ad 20) (HE3.out.kept HR2.out.old).ve)
              clear h K9 HPZ
              go_wp2_with fail
              go_at_call 8
              refine HC2.out.mono ?_
              clear HC2 d0 d1 d2 d3 d4 d5 zf
              rintro e W11 ⟨h, -, K11⟩
              have he := h L HVL.out
              rw [← HN.out, ← HM.out] at he
              subst he
              have KP := Kept.alloc W11 (.cells #[.int .i64 (n : Nat), .int .i64 M] 31)
              have HK11 := hideI (HR2.out.old.trans K11 (fun _ f => f.elim))
              have HPX11 := hideI (HK11.out.heap HPX.out (fun f => f))
              have HPY11 := hideI (K11.heap HPY.out (fun f => f))
              obtain ⟨⟨p0, p1⟩, -⟩ := pf_cells HPX11.out
              obtain ⟨⟨q0, q1⟩, -⟩ := pf_cells HPY11.out
              have lt3 : W3.heap.size < W11.heap.size := lt_of_block HPX11.out
              have ne3 : W3.heap.size ≠ W11.heap.size := Nat.ne_of_lt lt3
              have lt9 : W9.heap.size < W11.heap.size := lt_of_block HPY11.out
              have ne9 : W9.heap.size ≠ W11.heap.size := Nat.ne_of_lt lt9
              have p0' := KP.cell p0 (fun f => f)
              have p1' := KP.cell p1 (fun f => f)
              have q0' := KP.cell q0 (fun f => f)
              have q1' := KP.cell q1 (fun f => f)
              clear h K11
              go_wp2_with fail
              go_ret
              exact ⟨rfl, (HK0.out.trans HK11.out (fun _ f => f.elim)).trans KP (fun _ f => f.elim)⟩
            · have hz1 : (nc : Int) > 0 := by omega
              have hz2 : ¬ (nc : Int) = 0 := by omega
              have hwn : IntKind.u64.wrap (nc : Int) = (nc : Int) := by rw [IntKind.wrap_u64]; omega
              have hz3 : ((nc : Int) == 0) = false := by simp; omega
              have hnn := HO.out.len
              have HRN := hideI ((HRW.out.later (Kept.alloc wr (.cells #[.int .i64 ((nc : Int) - 1), .int .i64 ((nc : Int) - 1)] 3))).later (Kept.alloc _ (.cells #[.int .i64 0, .int .i64 5] 3)))
              have R1 := hideI (own_stay (row_two wr ((nc : Int) - 1) ((nc : Int) - 1)) (Kept.alloc _ (.cells #[.int .i64 0, .int .i64 5] 3)))
              have R2 := hideI (row_two (wr.alloc (.cells #[.int .i64 ((nc : Int) - 1), .int .i64 ((nc : Int) - 1)] 3)) 0 5)
              rw [show (wr.alloc (.cells #[.int .i64 ((nc : Int) - 1), .int .i64 ((nc : Int) - 1)] 3)).heap.size = wr.heap.size + 1 by simp] at R2
              have HB2 : Hid (V3.heap.size ≤ ((wr.alloc (.cells #[.int .i64 ((nc : Int) - 1), .int .i64 ((nc : Int) - 1)] 3)).alloc (.cells #[.int .i64 0, .int .i64 5] 3)).heap.size) := hideI (Nat.le_trans (Nat.le_trans HBV.out HM2.out.kept.size) (by simp; omega))
              go_wp2_with (at_builtin; refine wpList_moN (q := ⟨av, cu, p.nr, p.al, p.dr, p.co⟩) rfl _ _ rfl bN dN p.nr.length (hideI rfl) rfl HRN _ (by simp) HB2 rfl (.slice (some ⟨wr.heap.size, 0, none⟩) 2 2) (.slice (some ⟨wr.heap.size + 1, 0, none⟩) 2 2) ⟨[(nc : Int) - 1, (nc : Int) - 1], [0, 5], 3⟩ R1 R2 (by omega) ?_; intro a4 c4 W' HR5 hbx; obtain ⟨e0, e1, e2, e3, e4, e5⟩ := box6 hbx; have ef := box6f hbx; have hg5 : W2.heap.size < W'.heap.size := lt_of_block hbx; have hg6 : W2.heap.size ≠ W'.heap.size := Nat.ne_of_lt hg5)
              obtain ⟨y0, y1⟩ := mod_y dv nc (by omega) (by omega)
              generalize wrap64 ((IntKind.u64.wrap dv).tmod (nc : Int)) = d at *
              have HY := hideI (And.intro y0 y1)
              clear y0 y1 e0 e1 e2 e3 e4 e5 ef hwn hz3
              go_at_call 8
              have HVQ := hideI (HV.out.moP HG2.out (d := d) (by rw [← HNC.out]; omega) HY.out.1 (by rw [← HNC.out]; exact HY.out.2))
              unfold moP at HVQ
              rw [← HNC.out] at HVQ
              have HRQ := hideI ((HR5.out.all false).1.drive1 W'.heap.size (by simp) d)
              have HOQ := hideI (HG2.out.ok HV.out HO.out HAI2.out HSC.out.2 HSZ2.out (p.nr ++ [⟨[(nc : Int) - 1, (nc : Int) - 1], [0, 5], 3⟩]) false [d] (nr_more HO.out (by omega) (by omega)) (nr_sum p _) (isI_one HY.out.1 (by have := HY.out.2; omega)) (by simp))
              have HOL := hideI (HG2.out.ok HV.out HO.out HAI2.out HSC.out.2 HSZ2.out (p.nr ++ [⟨[(nc : Int) - 1, (nc : Int) - 1], [0, 5], 3⟩]) true [] (nr_more HO.out (by omega) (by omega)) (nr_sum p _) (fun x hx => (by cases hx)) (by simp))
              have HVL := hideI HVQ.out.moL
              have HC := hideI (check_rw HRQ.out false rfl HOQ.out (ad 0) (ad 1) (ad 20) (HE3.out.kept HRQ.out.old).ve)
              refine HC.out.mono ?_
              clear HC
              rintro e W9 ⟨h, -, K9⟩
              have he := h L HVQ.out
              rw [← HN.out, ← HM.out] at he
              subst he
              have hlt9 : W2.heap.size < W9.heap.size := lt_of_block (HRQ.out.later K9).box
              have HRX := hideI (HRQ.out.later K9)
              have HPY := hideI (heap_alloc_new ((W9.setCell ⟨W2.heap.size, 4, none⟩ (.slice none 0 0)).setCell ⟨W2.heap.size, 3, none⟩ (.bool true)) (.cells #[.int .i64 (n : Nat), .int .i64 M] 31 (0, 0)))
              have HPZ := hideI (show ((W9.setCell ⟨W2.heap.size, 4, none⟩ (.slice none 0 0)).setCell ⟨W2.heap.size, 3, none⟩ (.bool true)).heap.size = W9.heap.size by simp)
              rw [HPZ.out] at HPY
              obtain ⟨d0, d1, d2, d3, d4, d5⟩ := box6 HRX.out.box
              have zf := box6f HRX.out.box
              have HR2 := hideI (((HRX.out.drive (.slice none 0 0) [] (row_nil _)).1.all true).1.later (Kept.alloc _ (.cells #[.int .i64 (n : Nat), .int .i64 M] 31)))
              have HC2 := hideI (check_rw HR2.out true rfl HOL.out (ad 0) (ad 1) (ad 20) (HE3.out.kept HR2.out.old).ve)
              clear h K9 HPZ
              go_wp2_with fail
              go_at_call 8
              refine HC2.out.mono ?_
              clear HC2 d0 d1 d2 d3 d4 d5 zf
              rintro e W11 ⟨h, -, K11⟩
              have he := h L HVL.out
              rw [← HN.out, ← HM.out] at he
              subst he
              have KP := Kept.alloc W11 (.cells #[.int .i64 (n : Nat), .int .i64 M] 31)
              have HK11 := hideI (HR2.out.old.trans K11 (fun _ f => f.elim))
              have HPX11 := hideI (HK11.out.heap HPX.out (fun f => f))
              have HPY11 := hideI (K11.heap HPY.out (fun f => f))
              obtain ⟨⟨p0, p1⟩, -⟩ := pf_cells HPX11.out
              obtain ⟨⟨q0, q1⟩, -⟩ := pf_cells HPY11.out
              have lt3 : W3.heap.size < W11.heap.size := lt_of_block HPX11.out
              have ne3 : W3.heap.size ≠ W11.heap.size := Nat.ne_of_lt lt3
              have lt9 : W9.heap.size < W11.heap.size := lt_of_block HPY11.out
              have ne9 : W9.heap.size ≠ W11.heap.size := Nat.ne_of_lt lt9
              have p0' := KP.cell p0 (fun f => f)
              have p1' := KP.cell p1 (fun f => f)
              have q0' := KP.cell q0 (fun f => f)
              have q1' := KP.cell q1 (fun f => f)
              clear h K11
              go_wp2_with fail
              go_ret
              exact ⟨rfl, (HK0.out.trans HK11.out (fun _ f => f.elim)).trans KP (fun _ f => f.elim)⟩
  · have HV := hideI hv
    subst hV
    clear hv
    go_enter Tryd.func4, Tryd.ntmps4
    go_wp2_with (first
      | (go_at_call 6; refine HFX.out.mono ?_; clear HFX; rintro e W1 ⟨rfl, K1⟩; have HK1 := hideI K1; have HC := HCK W1 K1; obtain ⟨z0, z1, z2, z3, z4, z5⟩ := (HB6 W1 K1).out; clear K1 HCK)
      | (go_at_call 8; refine HC.out.mono ?_; clear HC z0 z1 z2 z3 z4 z5; rintro e W3 ⟨-, h, K3⟩; have he := h HV.out; unfold errV at he; subst he; have KP := Kept.alloc W3 (.cells #[.int .i64 0, .int .i64 0] 31); have HK3 := hideI ((HK1.out.trans K3 (fun _ f => f.elim)).trans KP (fun _ f => f.elim)); clear h K3 KP))
    go_ret
    exact ⟨rfl, HKA.out.trans HK3.out (fun _ f => f.elim)⟩
end Go.Proofs.YtiebmmpnmklpnaaDoor
