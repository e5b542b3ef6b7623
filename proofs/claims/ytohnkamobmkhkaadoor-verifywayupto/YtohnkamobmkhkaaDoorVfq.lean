import Derived.Test.YtohnkamobmkhkaaDoorVfp
namespace Go.Proofs.YtohnkamobmkhkaaDoor
open Go.ChangeShapes Go.WideShapes Go.ChangeAt Go.RowKit

/-- What a world must hold for the statements of layer 21. -/
structure VN (w : World) (ad : Nat → Addr) : Prop where
  e : Errs21 w ad
  o : OpT w
  t : TkT w
theorem VN.kept {w w' : World} {ad : Nat → Addr} (h : VN w ad) (k : Kept (fun _ => False) w w') : VN w' ad := ⟨h.e.kept k, h.o.kept k, h.t.kept k⟩
theorem VN.ve {w : World} {ad : Nat → Addr} (h : VN w ad) : VE w (ad 0) (ad 1) (ad 20) := ⟨h.e.ew, h.o, h.t⟩
theorem fx_at0 {w : World} {aA aC aN aD aO : Option Addr} (h : PgAt w (fxP [0]) aA aC aN aD aO) : PgAt w (fxP []) none aC aN aD aO := ⟨fun e => absurd rfl e, h.cu, h.nr, h.dr, h.co⟩
theorem ii0 : IsInts [0] := by intro x hx; simp at hx; subst hx; decide
theorem iin : IsInts [] := by intro x hx; cases hx
theorem fx_row (W : World) : IntsAt (W.alloc (.cells #[.int .i64 0, .int .i64 1, .int .i64 1, .int .i64 2, .int .i64 1] 3)) (some ⟨W.heap.size, 0, none⟩) (hL fxL) := by
  intro _
  refine ⟨W.heap.size, 0, rfl, fun k hk => ?_⟩
  rw [fx_hL] at hk ⊢
  have hk5 : k < 5 := hk
  match k, hk5 with
  | 0, _ => simp
  | 1, _ => simp
  | 2, _ => simp
  | 3, _ => simp
  | 4, _ => simp
theorem bx_put {W : World} {g : Nat} {x0 x1 x2 x3 x4 x5 v0 : Value} {t : TypeId} (h : W.heap[g]? = some (.cells #[x0, x1, x2, x3, x4, x5] t (0, 0))) : (W.setCell ⟨g, 0, none⟩ v0).heap[g]? = some (.cells #[v0, x1, x2, x3, x4, x5] t (0, 0)) := by
  have h1 := heap_setCell_same W g 0 _ t v0 h
  simpa using h1
set_option maxRecDepth 20000 in
set_option maxHeartbeats 8000000 in
theorem fixed_any (ad : Nat → Addr) (w : World) (hE : VN w ad) :
    Calls Tryd.prog 8 #[] w fun e w' => e = .returned (.bool true) ∧ Kept (fun _ => False) w w' := by
  have HE := hideI hE
  have HLa := hideI (least_any w)
  have HLb := fun W => hideI (least_any W)
  have HNC := fun (W : World) (K : Kept (fun _ => False) w W) => hideI (num_code (HE.out.kept K).e)
  obtain ⟨nb, hnb⟩ : ∃ nb, nb = (ibL fxL).length := ⟨_, rfl⟩
  have HNB := hideI hnb
  clear hE hnb
  have HCK := fun (W : World) (aA aC aO : Option Addr) (cO : Nat) (K : Kept (fun _ => False) w W) (hP : PgAt W (fxP [0]) aA aC none none aO) => hideI (show Calls Tryd.prog 10 #[.agg #[.slice aA 1 1, .slice aC 1 1, .slice none 0 0, .bool true, .slice none 0 0, .slice aO nb cO]] W (ckP W (fxP [0]) (ad 20)) by
    rw [HNB.out]; exact check_any (fxP [0]) aA aC none none aO 1 1 0 0 cO (ad 0) (ad 1) (ad 20) W hP (fx_ok [0] ii0 (by decide)) (HE.out.kept K).ve)
  have HCZ := fun (W : World) (aC aO : Option Addr) (cO : Nat) (K : Kept (fun _ => False) w W) (hP : PgAt W (fxP []) none aC none none aO) => hideI (show Calls Tryd.prog 10 #[.agg #[.slice none 0 0, .slice aC 1 1, .slice none 0 0, .bool true, .slice none 0 0, .slice aO nb cO]] W (ckP W (fxP []) (ad 20)) by
    rw [HNB.out]; exact check_any (fxP []) none aC none none aO 0 1 0 0 cO (ad 0) (ad 1) (ad 20) W hP (fx_ok [] iin (by decide)) (HE.out.kept K).ve)
  have HHT := fun (W : World) (aA aC aO : Option Addr) (cO : Nat) (K : Kept (fun _ => False) w W) (hP : PgAt W (fxP [0]) aA aC none none aO) => hideI (show Calls Tryd.prog 12 #[.agg #[.slice aA 1 1, .slice aC 1 1, .slice none 0 0, .bool true, .slice none 0 0, .slice aO nb cO]] W (htP W (fxP [0]) (ad 20)) by
    rw [HNB.out]; exact heights_any (fxP [0]) aA aC none none aO 1 1 0 0 cO (ad 0) (ad 1) (ad 20) W hP (fx_ok [0] ii0 (by decide)) (HE.out.kept K).ve)
  have HSI := fun (W : World) (aH : Option Addr) (cH : Nat) (h : IntsAt W aH (hL fxL)) => hideI (show Calls Tryd.prog 15 #[.slice aH 5 cH, .slice (some ⟨W.heap.size, 0, none⟩) 5 5] (W.alloc (.cells #[.int .i64 0, .int .i64 1, .int .i64 1, .int .i64 2, .int .i64 1] 3)) (fun e w' => e = .returned (.bool true) ∧ Kept (fun _ => False) (W.alloc (.cells #[.int .i64 0, .int .i64 1, .int .i64 1, .int .i64 2, .int .i64 1] 3)) w') from (sameI_iff (hL fxL) (hL fxL) aH (some ⟨W.heap.size, 0, none⟩) cH 5 _ (h.keptI (Kept.alloc _ _)) (fx_row W) (by decide) (by decide)).mono (fun e w' ⟨v, he, hv, hk⟩ => by
    have hv := hv.2 rfl
    subst hv
    exact ⟨he, hk⟩))
  go_enter Tryd.func8, Tryd.ntmps8
  go_wp2_with (first
    | (go_at_call 22; refine HLa.out.mono ?_; rintro e W1 ⟨aA, aC, aO, cO, he, hP, K1⟩; rw [← HNB.out] at he; subst he; have HP1 := hideI hP; have HK1 := hideI K1; have KB := Kept.alloc W1 (.cells #[.slice aA 1 1, .slice aC 1 1, .slice none 0 0, .bool true, .slice none 0 0, .slice aO nb cO] 27); have HKB := hideI KB; have HBX := hideI (heap_alloc_new W1 (.cells #[.slice aA 1 1, .slice aC 1 1, .slice none 0 0, .bool true, .slice none 0 0, .slice aO nb cO] 27 (0, 0))); obtain ⟨r0, r1, r2, r3, r4, r5⟩ := box6 HBX.out; have HC1 := HCK _ aA aC aO cO (K1.trans KB (fun _ f => f.elim)) (hP.kept KB); clear hP K1 KB HCK HLa)
    | (go_at_call 10; refine HC1.out.mono ?_; rintro e W2 ⟨h, -, K2⟩; have he : e = .returned (.tuple #[.agg #[.int .i64 5, .int .i64 2], .nilIface]) := (by rw [h fxL fx_vok, fx_mx]; rfl); subst he; have KP := Kept.alloc W2 (.cells #[.int .i64 5, .int .i64 2] 31); have HK2 := hideI ((HKB.out.trans K2 (fun _ f => f.elim)).trans KP (fun _ f => f.elim)); have HPX := hideI (heap_alloc_new W2 (.cells #[.int .i64 5, .int .i64 2] 31 (0, 0))); have HBX2 := hideI (KP.heap (K2.heap HBX.out (fun f => f)) (fun f => f)); obtain ⟨z0, z1, z2, z3, z4, z5⟩ := box6 HBX2.out; have HH1 := HHT _ aA aC aO cO (HK1.out.trans HK2.out (fun _ f => f.elim)) (HP1.out.kept HK2.out); clear h K2 KP HC1 HBX)
    | (go_at_call 12; refine HH1.out.mono ?_; rintro e W3 ⟨h, -, K3⟩; obtain ⟨aH, cH, he, hg⟩ := h fxL fx_vok; have he : e = .returned (.tuple #[.slice aH 5 cH, .nilIface]) := he; subst he; have KR := Kept.alloc W3 (.cells #[.int .i64 0, .int .i64 1, .int .i64 1, .int .i64 2, .int .i64 1] 3); have HK3 := hideI ((HK2.out.trans K3 (fun _ f => f.elim)).trans KR (fun _ f => f.elim)); have hp3 := K3.heap HPX.out (fun f => f); obtain ⟨⟨p0, p1⟩, -⟩ := pf_cells hp3; obtain ⟨⟨p2, p3⟩, -⟩ := pf_cells (KR.heap hp3 (fun f => f)); have HBX3 := hideI (KR.heap (K3.heap HBX2.out (fun f => f)) (fun f => f)); have HS := HSI W3 aH cH (gro_ints hg rfl); clear h K3 KR HH1 hg hp3 HSI HPX HBX2)
    | (go_at_call 15; refine HS.out.mono ?_; rintro e W4 ⟨rfl, K4⟩; have HBX4 := hideI (K4.heap HBX3.out (fun f => f)); obtain ⟨s0, s1, s2, s3, s4, s5⟩ := box6 HBX4.out; have sf := box6f HBX4.out; have KS := Kept.setCell W4 ⟨W1.heap.size, 0, none⟩ (.slice none 0 0); have HK4 := hideI ((HK3.out.trans K4 (fun _ f => f.elim)).trans KS (fun i e => .inr (by simp only at e; omega))); have HBX5 := hideI (bx_put (v0 := .slice none 0 0) HBX4.out); obtain ⟨u0, u1, u2, u3, u4, u5⟩ := box6 HBX5.out; have HC2 := HCZ _ aC aO cO (HK1.out.trans HK4.out (fun _ f => f.elim)) (fx_at0 (HP1.out.kept HK4.out)); clear K4 KS HS HCZ HBX3 HBX4)
    | (go_at_call 10; refine HC2.out.mono ?_; rintro e W5 ⟨-, h, K5⟩; have he := h fx_bad; unfold errV at he; subst he; have HK5 := hideI (HK4.out.trans K5 (fun _ f => f.elim)); have HL2 := HLb W5; clear h K5 HC2 HLb)
    | (go_at_call 22; refine HL2.out.mono ?_; rintro e W6 ⟨aA2, aC2, aO2, cO2, he, hP, K6⟩; rw [← HNB.out] at he; subst he; have HK6 := hideI (HK5.out.trans K6 (fun _ f => f.elim)); have HH2 := HHT _ aA2 aC2 aO2 cO2 (HK1.out.trans HK6.out (fun _ f => f.elim)) hP; clear hP K6 HL2 HHT)
    | (go_at_call 12; refine HH2.out.mono ?_; rintro e W7 ⟨h, -, K7⟩; obtain ⟨aH2, cH2, he, hg⟩ := h fxL fx_vok; have he : e = .returned (.tuple #[.slice aH2 5 cH2, .nilIface]) := he; subst he; have HK7 := hideI (HK6.out.trans K7 (fun _ f => f.elim)); have HN := HNC W7 (HK1.out.trans HK7.out (fun _ f => f.elim)); clear h K7 HH2 hg HNC)
    | (go_at_call 14; refine HN.out.mono ?_; rintro e W8 ⟨rfl, rfl⟩; clear HN))
  go_ret
  exact ⟨rfl, HK1.out.trans HK7.out (fun _ f => f.elim)⟩
end Go.Proofs.YtohnkamobmkhkaaDoor
