import Derived.Test.YtiebmmpnmklpnaaDoorMrg9
import Derived.Test.YtiebmmpnmklpnaaDoorVrm
import Derived.Test.YtiebmmpnmklpnaaDoorMrg10
import Derived.Test.YtiebmmpnmklpnaaDoorVfx
namespace Go.Proofs.YtiebmmpnmklpnaaDoor
open Go.ChangeShapes Go.WideShapes Go.ChangeAt Go.RowKit

theorem sameI_nil (w : World) : Calls Tryd.prog 13 #[.slice none 0 0, .slice none 0 0] w fun e w' => e = .returned (.bool true) ∧ ∃ m, w' = w.drewN m := sameI_still [] none none 0 0 w (fun h => absurd rfl h) (fun h => absurd rfl h) (by simp)
set_option maxRecDepth 20000 in
set_option maxHeartbeats 32000000 in
theorem plays21_walk (p : Pg) (aA aC aN aD aO : Option Addr) (cA cC cN cD cO : Nat) (ad : Nat → Addr) (w : World) (hP : PgAt w p aA aC aN aD aO) (hO : p.Ok) (hE : VN w ad) :
    Calls Tryd.prog 3 #[.agg #[.slice aA p.av.length cA, .slice aC p.cu.length cC, .slice aN p.nr.length cN, .bool p.al, .slice aD p.dr.length cD, .slice aO p.co.length cO]] w fun e w' => e = .returned (.bool true) ∧ Kept (fun _ => False) w w' := by
  have KA := Kept.alloc w (.cells #[.slice aA p.av.length cA, .slice aC p.cu.length cC, .slice aN p.nr.length cN, .bool p.al, .slice aD p.dr.length cD, .slice aO p.co.length cO] 27)
  have HBX : Hid ((w.alloc (.cells #[.slice aA p.av.length cA, .slice aC p.cu.length cC, .slice aN p.nr.length cN, .bool p.al, .slice aD p.dr.length cD, .slice aO p.co.length cO] 27)).heap[w.heap.size]? = some (.cells #[.slice aA p.av.length cA, .slice aC p.cu.length cC, .slice aN p.nr.length cN, .bool p.al, .slice aD p.dr.length cD, .slice aO p.co.length cO] 27 (0, 0))) := hideI (heap_alloc_new w _)
  obtain ⟨V, hV⟩ : ∃ V, V = w.alloc (.cells #[.slice aA p.av.length cA, .slice aC p.cu.length cC, .slice aN p.nr.length cN, .bool p.al, .slice aD p.dr.length cD, .slice aO p.co.length cO] 27) := ⟨_, rfl⟩
  rw [← hV] at KA HBX
  have HP := hideI (hP.kept KA)
  have HE := hideI (hE.kept KA)
  have HKA := hideI KA
  have HO := hideI hO
  have HB6 := fun (W : World) (K : Kept (fun _ => False) V W) => hideI (box6 (K.heap HBX.out (fun f => f)))
  have HFX := hideI (fixed_any ad V HE.out)
  have HCP := fun (W : World) (K : Kept (fun _ => False) V W) => hideI (copied_any p aA aC aN aD aO cA cC cN cD cO W (HP.out.kept K) HO.out)
  have HRC := fun (W : World) (K : Kept (fun _ => False) V W) => hideI (rcheck_any p aA aC aN aD aO cA cC cN cD cO W (HP.out.kept K) HO.out)
  have HRH := fun (W : World) (K : Kept (fun _ => False) V W) => hideI (rheights_any p aA aC aN aD aO cA cC cN cD cO W (HP.out.kept K) HO.out)
  have hl5 := HO.out.len.2.2.2.2
  clear hP hE KA hO
  by_cases hv : ∃ L, Vok p L
  · obtain ⟨L, hv⟩ := hv
    have HV := hideI hv
    have HDS := hideI hv.dc
    obtain ⟨n, hn⟩ : ∃ n, n = L.length := ⟨_, rfl⟩
    have HN := hideI hn
    obtain ⟨f1, f2, f3⟩ := dcI_form p.co.length p.co L (Nat.le_refl _) HO.out.co HDS.out
    have hl26 : n ≤ 67108864 := by
      have q1 := ibL_ge L
      rw [f1] at q1
      omega
    obtain ⟨M, hM⟩ : ∃ M, M = mxL (hL L) := ⟨_, rfl⟩
    have HM := hideI hM
    subst hV
    clear hn f1 f2 f3 hv hM
    go_enter Tryd.func3, Tryd.ntmps3
    go_wp2_with (first
      | (go_at_call 6; refine HFX.out.mono ?_; clear HFX; rintro e W1 ⟨rfl, K1⟩; have HK1 := hideI K1; have HC := HCP W1 K1; obtain ⟨z0, z1, z2, z3, z4, z5⟩ := (HB6 W1 K1).out; clear K1 HCP)
      | (go_at_call 7; refine HC.out.mono ?_; clear HC z0 z1 z2 z3 z4 z5; rintro e W2 ⟨vA, vC, vN, vD, vO, rfl, hcp⟩; obtain ⟨bA, bC, bN, bD, bO, dA, dC, dN, dD, dO, rfl, rfl, rfl, rfl, rfl, hQ2⟩ := hcp.at; have KP := Kept.alloc W2 (.cells #[.slice bA p.av.length dA, .slice bC p.cu.length dC, .slice bN p.nr.length dN, .bool p.al, .slice bD p.dr.length dD, .slice bO p.co.length dO] 27); have HK2 := hideI ((HK1.out.trans hcp.kept (fun _ f => f.elim)).trans KP (fun _ f => f.elim)); have HQ := hideI (hQ2.kept KP); have HQX := hideI (heap_alloc_new W2 (.cells #[.slice bA p.av.length dA, .slice bC p.cu.length dC, .slice bN p.nr.length dN, .bool p.al, .slice bD p.dr.length dD, .slice bO p.co.length dO] 27 (0, 0))); obtain ⟨V2, hV2⟩ : ∃ V2, V2 = W2.alloc (.cells #[.slice bA p.av.length dA, .slice bC p.cu.length dC, .slice bN p.nr.length dN, .bool p.al, .slice bD p.dr.length dD, .slice bO p.co.length dO] 27) := ⟨_, rfl⟩; rw [← hV2] at HK2 HQ HQX; have HC6 := fun (W : World) (K : Kept (fun _ => False) V2 W) => hideI (box6 (K.heap HQX.out (fun f => f))); have HC := hideI (check_any p bA bC bN bD bO dA dC dN dD dO (ad 0) (ad 1) (ad 20) V2 HQ.out HO.out (HE.out.kept HK2.out).ve); obtain ⟨c0, c1, c2, c3, c4, c5⟩ := (HC6 V2 (Kept.refl _ _)).out; obtain ⟨z0, z1, z2, z3, z4, z5⟩ := (HB6 V2 HK2.out).out; clear KP hQ2 hcp; subst hV2)
      | (go_at_call 8; refine HC.out.mono ?_; clear HC c0 c1 c2 c3 c4 c5 z0 z1 z2 z3 z4 z5; rintro e W3 ⟨h, -, K3⟩; have he := h L HV.out; rw [← HN.out, ← HM.out] at he; subst he; have KP := Kept.alloc W3 (.cells #[.int .i64 (n : Nat), .int .i64 M] 31); have HX3 := hideI (K3.trans KP (fun _ f => f.elim)); have HK3 := hideI (HK2.out.trans HX3.out (fun _ f => f.elim)); have HPX := hideI (heap_alloc_new W3 (.cells #[.int .i64 (n : Nat), .int .i64 M] 31 (0, 0))); have HC := HRC _ HK3.out; obtain ⟨z0, z1, z2, z3, z4, z5⟩ := (HB6 _ HK3.out).out; clear h K3 KP)
      | (go_at_call 9; refine HC.out.mono ?_; clear HC HRC z0 z1 z2 z3 z4 z5; rintro e W4 ⟨h, -, K4⟩; have he := h L HV.out; rw [← HN.out, ← HM.out] at he; subst he; have KP := Kept.alloc W4 (.cells #[.int .i64 (n : Nat), .int .i64 M] 31); have HX4 := hideI (HX3.out.trans (K4.trans KP (fun _ f => f.elim)) (fun _ f => f.elim)); have HK4 := hideI (HK2.out.trans HX4.out (fun _ f => f.elim)); have HPX4 := hideI ((K4.trans KP (fun _ f => f.elim)).heap HPX.out (fun f => f)); have HPY := hideI (heap_alloc_new W4 (.cells #[.int .i64 (n : Nat), .int .i64 M] 31 (0, 0))); have HC := hideI (heights_any p bA bC bN bD bO dA dC dN dD dO (ad 0) (ad 1) (ad 20) _ (HQ.out.kept HX4.out) HO.out (HE.out.kept HK4.out).ve); obtain ⟨c0, c1, c2, c3, c4, c5⟩ := (HC6 _ HX4.out).out; clear h K4 KP HPX)
      | (go_at_call 10; refine HC.out.mono ?_; clear HC c0 c1 c2 c3 c4 c5; rintro e W5 ⟨h, -, K5⟩; obtain ⟨aH, cH, he, hg⟩ := h L HV.out; rw [← HN.out] at he hg; subst he; have HI5 := hideI (gro_ints hg (by rw [hL_len]; exact HN.out)); have HX5 := hideI (HX4.out.trans K5 (fun _ f => f.elim)); have HK5 := hideI (HK4.out.trans K5 (fun _ f => f.elim)); have HPX5 := hideI (K5.heap HPX4.out (fun f => f)); have HPY5 := hideI (K5.heap HPY.out (fun f => f)); have HC := HRH _ HK5.out; obtain ⟨z0, z1, z2, z3, z4, z5⟩ := (HB6 _ HK5.out).out; clear h K5 HPX4 HPY)
      | (go_at_call 11; refine HC.out.mono ?_; clear HC HRH z0 z1 z2 z3 z4 z5; rintro e W6 ⟨h, -, K6⟩; obtain ⟨aR, cR, he, hi⟩ := h L HV.out; rw [← HN.out] at he; subst he; have HI6 := hideI (HI5.out.keptI K6); have HJ6 := hideI hi; have HX6 := hideI (HX5.out.trans K6 (fun _ f => f.elim)); have HK6 := hideI (HK5.out.trans K6 (fun _ f => f.elim)); have HPX6 := hideI (K6.heap HPX5.out (fun f => f)); have HPY6 := hideI (K6.heap HPY5.out (fun f => f)); obtain ⟨⟨p0, p1⟩, -⟩ := pf_cells HPX6.out; obtain ⟨⟨q0, q1⟩, -⟩ := pf_cells HPY6.out; clear h K6 HPX5 HPY5)
      | (go_at_call 12; refine (num_nil _).mono ?_; rintro e W7 ⟨rfl, rfl⟩)
      | (go_at_call 13; have HC := hideI (sameI_still (hL L) aH aR cH cR _ HI6.out HJ6.out (by rw [hL_len, ← HN.out]; omega)); rw [hL_len, ← HN.out] at HC; refine HC.out.mono ?_; clear HC; clear p0 p1 q0 q1; rintro e W8 ⟨rfl, m8, hm8⟩; have HX8 := hideI (HX6.out.trans (Kept.drewN _ m8) (fun _ f => f.elim)); rw [← hm8] at HX8; have HK8 := hideI (HK6.out.trans (Kept.drewN _ m8) (fun _ f => f.elim)); rw [← hm8] at HK8; clear hm8; have HC := hideI (alike_any p bA bC bN bD bO aA aC aN aD aO dA dC dN dD dO cA cC cN cD cO W8 (HQ.out.kept HX8.out) (HP.out.kept HK8.out) HO.out); obtain ⟨c0, c1, c2, c3, c4, c5⟩ := (HC6 _ HX8.out).out; obtain ⟨z0, z1, z2, z3, z4, z5⟩ := (HB6 _ HK8.out).out)
      | (go_at_call 14; refine HC.out.mono ?_; clear HC; rintro e W9 ⟨rfl, K9⟩; have HK9 := hideI (HK8.out.trans K9 (fun _ f => f.elim))))
    go_ret
    exact ⟨rfl, HKA.out.trans HK9.out (fun _ f => f.elim)⟩
  · have HV := hideI hv
    subst hV
    clear hv
    go_enter Tryd.func3, Tryd.ntmps3
    go_wp2_with (first
      | (go_at_call 6; refine HFX.out.mono ?_; clear HFX; rintro e W1 ⟨rfl, K1⟩; have HK1 := hideI K1; have HC := HCP W1 K1; obtain ⟨z0, z1, z2, z3, z4, z5⟩ := (HB6 W1 K1).out; clear K1 HCP)
      | (go_at_call 7; refine HC.out.mono ?_; clear HC z0 z1 z2 z3 z4 z5; rintro e W2 ⟨vA, vC, vN, vD, vO, rfl, hcp⟩; obtain ⟨bA, bC, bN, bD, bO, dA, dC, dN, dD, dO, rfl, rfl, rfl, rfl, rfl, hQ2⟩ := hcp.at; have KP := Kept.alloc W2 (.cells #[.slice bA p.av.length dA, .slice bC p.cu.length dC, .slice bN p.nr.length dN, .bool p.al, .slice bD p.dr.length dD, .slice bO p.co.length dO] 27); have HK2 := hideI ((HK1.out.trans hcp.kept (fun _ f => f.elim)).trans KP (fun _ f => f.elim)); have HQ := hideI (hQ2.kept KP); have HQX := hideI (heap_alloc_new W2 (.cells #[.slice bA p.av.length dA, .slice bC p.cu.length dC, .slice bN p.nr.length dN, .bool p.al, .slice bD p.dr.length dD, .slice bO p.co.length dO] 27 (0, 0))); obtain ⟨V2, hV2⟩ : ∃ V2, V2 = W2.alloc (.cells #[.slice bA p.av.length dA, .slice bC p.cu.length dC, .slice bN p.nr.length dN, .bool p.al, .slice bD p.dr.length dD, .slice bO p.co.length dO] 27) := ⟨_, rfl⟩; rw [← hV2] at HK2 HQ HQX; have HC6 := fun (W : World) (K : Kept (fun _ => False) V2 W) => hideI (box6 (K.heap HQX.out (fun f => f))); have HC := hideI (check_any p bA bC bN bD bO dA dC dN dD dO (ad 0) (ad 1) (ad 20) V2 HQ.out HO.out (HE.out.kept HK2.out).ve); obtain ⟨c0, c1, c2, c3, c4, c5⟩ := (HC6 V2 (Kept.refl _ _)).out; obtain ⟨z0, z1, z2, z3, z4, z5⟩ := (HB6 V2 HK2.out).out; clear KP hQ2 hcp; subst hV2)
      | (go_at_call 8; refine HC.out.mono ?_; clear HC c0 c1 c2 c3 c4 c5 z0 z1 z2 z3 z4 z5; rintro e W3 ⟨-, h, K3⟩; have he := h HV.out; unfold errV at he; subst he; have KP := Kept.alloc W3 (.cells #[.int .i64 0, .int .i64 0] 31); have HX3 := hideI (K3.trans KP (fun _ f => f.elim)); have HK3 := hideI (HK2.out.trans HX3.out (fun _ f => f.elim)); have HPX := hideI (heap_alloc_new W3 (.cells #[.int .i64 0, .int .i64 0] 31 (0, 0))); have HC := HRC _ HK3.out; obtain ⟨z0, z1, z2, z3, z4, z5⟩ := (HB6 _ HK3.out).out; clear h K3 KP)
      | (go_at_call 9; refine HC.out.mono ?_; clear HC HRC z0 z1 z2 z3 z4 z5; rintro e W4 ⟨-, h, K4⟩; have he := h HV.out; subst he; have KP := Kept.alloc W4 (.cells #[.int .i64 0, .int .i64 0] 31); have HX4 := hideI (HX3.out.trans (K4.trans KP (fun _ f => f.elim)) (fun _ f => f.elim)); have HK4 := hideI (HK2.out.trans HX4.out (fun _ f => f.elim)); have HPX4 := hideI ((K4.trans KP (fun _ f => f.elim)).heap HPX.out (fun f => f)); have HPY := hideI (heap_alloc_new W4 (.cells #[.int .i64 0, .int .i64 0] 31 (0, 0))); have HC := hideI (heights_any p bA bC bN bD bO dA dC dN dD dO (ad 0) (ad 1) (ad 20) _ (HQ.out.kept HX4.out) HO.out (HE.out.kept HK4.out).ve); obtain ⟨c0, c1, c2, c3, c4, c5⟩ := (HC6 _ HX4.out).out; clear h K4 KP HPX)
      | (go_at_call 10; refine HC.out.mono ?_; clear HC c0 c1 c2 c3 c4 c5; rintro e W5 ⟨-, h, K5⟩; have he := h HV.out; unfold errV at he; subst he; have HX5 := hideI (HX4.out.trans K5 (fun _ f => f.elim)); have HK5 := hideI (HK4.out.trans K5 (fun _ f => f.elim)); have HPX5 := hideI (K5.heap HPX4.out (fun f => f)); have HPY5 := hideI (K5.heap HPY.out (fun f => f)); have HC := HRH _ HK5.out; obtain ⟨z0, z1, z2, z3, z4, z5⟩ := (HB6 _ HK5.out).out; clear h K5 HPX4 HPY)
      | (go_at_call 11; refine HC.out.mono ?_; clear HC HRH z0 z1 z2 z3 z4 z5; rintro e W6 ⟨-, h, K6⟩; have he := h HV.out; subst he; have HX6 := hideI (HX5.out.trans K6 (fun _ f => f.elim)); have HK6 := hideI (HK5.out.trans K6 (fun _ f => f.elim)); have HPX6 := hideI (K6.heap HPX5.out (fun f => f)); have HPY6 := hideI (K6.heap HPY5.out (fun f => f)); obtain ⟨⟨p0, p1⟩, -⟩ := pf_cells HPX6.out; obtain ⟨⟨q0, q1⟩, -⟩ := pf_cells HPY6.out; clear h K6 HPX5 HPY5)
      | (go_at_call 12; refine (num_code (HE.out.kept HK6.out).e).mono ?_; rintro e W7 ⟨rfl, rfl⟩)
      | (go_at_call 13; refine (sameI_nil _).mono ?_; clear p0 p1 q0 q1; rintro e W8 ⟨rfl, m8, hm8⟩; have HX8 := hideI (HX6.out.trans (Kept.drewN _ m8) (fun _ f => f.elim)); rw [← hm8] at HX8; have HK8 := hideI (HK6.out.trans (Kept.drewN _ m8) (fun _ f => f.elim)); rw [← hm8] at HK8; clear hm8; have HC := hideI (alike_any p bA bC bN bD bO aA aC aN aD aO dA dC dN dD dO cA cC cN cD cO W8 (HQ.out.kept HX8.out) (HP.out.kept HK8.out) HO.out); obtain ⟨c0, c1, c2, c3, c4, c5⟩ := (HC6 _ HX8.out).out; obtain ⟨z0, z1, z2, z3, z4, z5⟩ := (HB6 _ HK8.out).out)
      | (go_at_call 14; refine HC.out.mono ?_; clear HC; rintro e W9 ⟨rfl, K9⟩; have HK9 := hideI (HK8.out.trans K9 (fun _ f => f.elim))))
    go_ret
    exact ⟨rfl, HKA.out.trans HK9.out (fun _ f => f.elim)⟩
end Go.Proofs.YtiebmmpnmklpnaaDoor
