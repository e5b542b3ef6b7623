import Derived.Test.YtkgcafomlhfonaaTkg
namespace Go.Proofs.Ytkgcafomlhfonaa.Tk
open Go.ChangeShapes Go.WideShapes Go.ChangeAt Go.RowKit

theorem perm_dn {M H : List Ht} {x : Ht} {a o : Nat} (ha : a < M.length) (ho : o < M.length) (hao : a ≠ o) (h : (M.set a x).Perm H) : ((M.set a (g M o)).set o x).Perm H := by
  rw [set_set_up x ha hao]
  exact (swap_perm (by rw [List.length_set]; exact ha) (by rw [List.length_set]; exact ho) hao).trans h
/-- The one that 'under' tells goes above no other that stands there. -/
theorem undr_top {M : List Ht} {a : Nat} (x : Ht) (ha : a < M.length) (h : (undr M a).2 = true) : (undr M a).1 < M.length ∧ par (undr M a).1 = a ∧ 0 < (undr M a).1 ∧ ∀ c, 0 < c → c < (M.set a x).length → par c = a → ¬ Bt (g (M.set a x) (undr M a).1) (g (M.set a x) c) := by
  have E : ∀ j, j ≠ a → g (M.set a x) j = g M j := fun j hj => by rw [g_set ha, if_neg hj]
  unfold undr at h ⊢
  split
  · rename_i q
    refine ⟨q.1, by unfold par; simp only; omega, by simp only; omega, fun c hc hcl hp => ?_⟩
    rw [List.length_set] at hcl
    simp only
    rw [E _ (by omega), E c (by unfold par at hp; omega)]
    have : c = 2 * a + 1 ∨ c = 2 * a + 2 := by unfold par at hp; omega
    rcases this with rfl | rfl
    · exact bt_asym q.2
    · exact bt_irr _
  · rename_i q
    rw [if_neg q] at h
    have hl := of_decide_eq_true h
    refine ⟨hl, by unfold par; simp only; omega, by simp only; omega, fun c hc hcl hp => ?_⟩
    rw [List.length_set] at hcl
    simp only
    rw [E _ (by omega), E c (by unfold par at hp; omega)]
    have : c = 2 * a + 1 ∨ c = 2 * a + 2 := by unfold par at hp; omega
    rcases this with rfl | rfl
    · exact bt_irr _
    · exact fun e => q ⟨hcl, e⟩
theorem undr_none {M : List Ht} {a : Nat} (h : (undr M a).2 = false) : ∀ c, 0 < c → par c = a → ¬ c < M.length := by
  unfold undr at h
  split at h
  · cases h
  · have hl := of_decide_eq_false h
    intro c hc hp
    unfold par at hp
    omega
set_option maxRecDepth 20000 in
set_option maxHeartbeats 8000000 in
theorem replaceTop_any (B p : Nat) (k : Int) (v : Value) (H : List Ht) (x : Ht) (w : World) (h : KpAt B w p k v H) (hp : Hp H) (hne : 0 < H.length) (hlim : H.length ≤ 8796093022208) :
    Calls Try.prog 35 #[.pointer (some ⟨p, 1, none⟩), .agg #[.int .i64 x.1, .int .u64 x.2]] w fun e w' => e = .returned (.tuple #[]) ∧ ∃ H', KpAt B w' p k v H' ∧ Kept (fun i => v.ownBlock = some i) w w' ∧ Hp H' ∧ H'.Perm (x :: H.tail) := by
  have AB := hideT (fun y W' => above_any y x W')
  obtain ⟨n, hn⟩ : ∃ n, n = H.length := ⟨_, rfl⟩
  obtain ⟨gb, c, rfl⟩ : ∃ gb c, v = .slice (some ⟨gb, 0, none⟩) n c := by
    rcases h.row.2 with ⟨_, e⟩ | ⟨g, cap, cur, e, _⟩
    · omega
    · exact ⟨g, cap, by rw [e, hn]⟩
  have HK := hideT h
  have HN := hideT hn
  have HG := hideT (show gb ≠ p ∧ gb < w.heap.size from ⟨fun e => h.far (by rw [e]; rfl), (h.row.lt gb rfl).2⟩)
  have hpl := h.lt.1
  rw [← hn] at hlim hne
  have HD0 : Hid (Dn (H.set 0 x) 0) := hideT (Dn.start hp (by rw [← hn]; exact hne) x)
  have HP0 : Hid ((H.set 0 x).Perm (x :: H.tail)) := hideT (by cases H with | nil => simp at hn; omega | cons y t => exact .refl _)
  clear h hp hn
  go_enter Try.func35, Try.ntmps35
  go_wp2
  obtain ⟨b3, hb3⟩ : ∃ b3, b3 = w.heap.size := ⟨_, rfl⟩
  obtain ⟨V, hV⟩ : ∃ V, V = w.alloc (.cells #[.int .i64 x.1, .int .u64 x.2] 29) := ⟨_, rfl⟩
  have kV : Kept (fun _ => False) w V := by rw [hV]; exact Kept.alloc _ _
  have bV : V.heap[b3]? = some (.cells #[.int .i64 x.1, .int .u64 x.2] 29 (0, 0)) := by rw [hV, hb3]; exact heap_alloc_new w _
  have HKV := hideT (HK.out.same kV)
  rw [← hb3] at hpl HG
  rw [← hV, ← hb3]
  have HkV := hideT kV
  have HbV := hideT bV
  have HPL := hideT hpl
  clear hV kV bV hb3
  go_loopw [4] (fun s4 wr => ∃ (a : Nat) (M : List Ht), s4 = .int .i64 a ∧ Hid (wr.heap[p]? = some (.cells #[.int .i64 k, .func (.func 28) #[] #[], .slice (some ⟨gb, 0, none⟩) n c] 57 (0, 0))) ∧ Hid (RowH B wr (.slice (some ⟨gb, 0, none⟩) n c) M) ∧ Hid (M.length = n) ∧ Hid (Dn (M.set a x) a) ∧ Hid ((M.set a x).Perm (x :: H.tail)) ∧ Hid (Kept (fun i => i = gb) V wr)) (fun s4 _ => n - (intOf s4).toNat)
  case atStart => exact ⟨0, H, by go_num, hideT HKV.out.box, hideT HKV.out.row, hideT HN.out.symm, HD0, HP0, hideT (Kept.refl _ _)⟩
  case round =>
    obtain ⟨a, M, rfl, HBX, HRW, HML, HDN, HPM, HKR⟩ := hrel
    have hal : a < M.length := by have := HDN.out.lt; rwa [List.length_set] at this
    have haln : a < n := by rw [← HML.out]; exact hal
    have HC2 := hideT ((cell_of_row _ _ _ _ _ _ HBX.out : wr.cell? ⟨p, 2, none⟩ = _).trans rfl : wr.cell? ⟨p, 2, none⟩ = some (.slice (some ⟨gb, 0, none⟩) n c))
    have HC1 := hideT ((cell_of_row _ _ _ _ _ _ HBX.out : wr.cell? ⟨p, 1, none⟩ = _).trans rfl : wr.cell? ⟨p, 1, none⟩ = some (.func (.func 28) #[] #[]))
    have bX := HKR.out.heap HbV.out (fun e => by have := HG.out.2; omega)
    have x0 : wr.cell? ⟨b3, 0, none⟩ = some (.int .i64 x.1) := (cell_of_row _ _ _ _ _ _ bX).trans rfl
    have x1 : wr.cell? ⟨b3, 1, none⟩ = some (.int .u64 x.2) := (cell_of_row _ _ _ _ _ _ bX).trans rfl
    have HX := hideT (And.intro x0 x1)
    have HAL := hideT hal
    have UN := hideT (under_any B p gb n c k M a wr HBX.out HRW.out HML.out haln hlim)
    obtain ⟨u, hu⟩ : ∃ u, u = (undr M a).1 := ⟨_, rfl⟩
    obtain ⟨t, ht⟩ : ∃ t, t = (undr M a).2 := ⟨_, rfl⟩
    rw [← hu, ← ht] at UN
    have HU := hideT hu
    have HT := hideT ht
    clear bX x0 x1 hal hu ht
    go_upto_region 3 with (go_at_call 41; refine UN.out.mono ?_; rintro e W5 ⟨rfl, h5⟩)
    have K5 := hideT (gw_kept h5)
    have H5 := hideT h5
    clear h5
    cases t with
    | false =>
      have HNO := hideT (undr_none HT.out.symm)
      have e5 := K5.out.cell HC2.out (fun f => f)
      go_quiet (fail)
      clear e5
      go_upto_region 6 with fail
      rename_i nq
      have KW : Hid (Kept (fun _ => False) wr (W5.drewN nq)) := hideT (gw_kept (H5.out.drewN nq))
      obtain ⟨W6, hW6⟩ : ∃ W6, W6 = W5.drewN nq := ⟨_, rfl⟩
      rw [← hW6] at KW ⊢
      clear hW6
      have D2 := hideT (KW.out.cell HC2.out (fun f => f))
      have DX := hideT (And.intro (KW.out.cell HX.out.1 (fun f => f)) (KW.out.cell HX.out.2 (fun f => f)))
      have T0 : Kept (fun _ => False) W6 (World.drew W6) := Kept.drew W6
      refine wp_region_z (S := fun W' => Kept (fun _ => False) W6 W') (z := 7) (by kernel_rfl) ?_
      change wpAnyZ _ _ _ _ _ _ _ _ _ (World.drew _)
      refine wpAnyZ_take (i := 0) (v := .pointer (some ⟨p, 1, none⟩)) rfl (by kernel_rfl) (by kernel_rfl) (by kernel_rfl) (by kernel_rfl) (fun _ _ _ h => h) (Or.inl ⟨by kernel_rfl, fun W' hW => ?_⟩) T0 ?_
      · go_simp
      refine wpAnyZ_take (i := 1) (v := .pointer (some ⟨p, 1, none⟩)) rfl (by kernel_rfl) (by kernel_rfl) (by kernel_rfl) (by kernel_rfl) (fun _ _ _ h => h) (Or.inl ⟨by kernel_rfl, fun W' hW => ?_⟩) T0 ?_
      · go_simp
      refine wpAnyZ_take (i := 2) (v := .pointer (some ⟨p, 2, none⟩)) rfl (by kernel_rfl) (by kernel_rfl) (by kernel_rfl) (by kernel_rfl) (fun _ _ _ h => h) (Or.inl ⟨by kernel_rfl, fun W' hW => ?_⟩) T0 ?_
      · go_simp
      refine wpAnyZ_take (i := 3) (v := .slice (some ⟨gb, 0, none⟩) n c) rfl (by kernel_rfl) (by kernel_rfl) (by kernel_rfl) (by kernel_rfl) (fun _ _ _ h => h) (Or.inl ⟨by kernel_rfl, fun W' hW => ?_⟩) T0 ?_
      · have e := hW.cell D2.out (fun f => f)
        go_simp
      refine wpAnyZ_take (i := 4) (v := .int .i64 (a : Nat)) rfl (by kernel_rfl) (by kernel_rfl) (by kernel_rfl) (by kernel_rfl) (fun _ _ _ h => h) (Or.inl ⟨by kernel_rfl, fun W' hW => ?_⟩) T0 ?_
      · go_simp
      refine wpAnyZ_take (i := 5) (v := .agg #[.int .i64 x.1, .int .u64 x.2]) rfl (by kernel_rfl) (by kernel_rfl) (by kernel_rfl) (by kernel_rfl) (fun _ _ _ h => h) (Or.inl ⟨by kernel_rfl, fun W' hW => ?_⟩) T0 ?_
      · exact load_hit (x := .tmp 3) (b := b3) (off := 0) (y := x) rfl (by go_simp) (hW.cell DX.out.1 (fun f => f)) (hW.cell DX.out.2 (fun f => f))
      refine wpAnyZ_take (i := 6) (v := .pointer (some ⟨gb, a * 2, none⟩)) rfl (by kernel_rfl) (by kernel_rfl) (by kernel_rfl) (by kernel_rfl) (fun _ _ _ h => h) (Or.inl ⟨by kernel_rfl, fun W' hW => ?_⟩) T0 ?_
      · go_simp
        all_goals (intro h; omega)
      have RW := (HRW.out.same KW.out (fun _ _ f => f)).same T0 (fun _ _ f => f)
      obtain ⟨th, RW2, KW2⟩ := RW.set a HAL.out x
      refine wpAnyZ_store 7 29 (.tmp 51) (.tmp 50) gb (a * 2) #[.int .i64 x.1, .int .u64 x.2] (by kernel_rfl) rfl rfl rfl (by kernel_rfl) (by kernel_rfl) th size_hit (hit_all x) ?_
      intro Z hZ
      replace hZ : Z = (World.drew W6).setCells gb (a * 2) [.int .i64 x.1, .int .u64 x.2] := hZ
      refine wpAnyZ_done (by kernel_rfl) ?_ _
      have KZ := hideT (((KW.out.trans T0 (fun _ f => f.elim)).mono (fun _ f => f.elim)).trans KW2 (fun i e => .inl e) : Kept (fun i => i = gb) wr _)
      have HRZ := hideT RW2
      have HBZ := hideT (KZ.out.heap HBX.out (fun e => HG.out.1 e.symm))
      rw [← hZ] at HRZ HBZ KZ
      clear hZ RW2 KW2 RW th T0
      go_end0
      refine ⟨rfl, M.set a x, ⟨HBZ.out, HRZ.out, by simp only [Value.ownBlock, ne_eq, Option.some.injEq]; exact HG.out.1⟩, (HkV.out.mono (fun _ f => f.elim)).trans ((HKR.out.trans KZ.out (fun i e => .inl e)).mono (fun i e => .inl (by rw [e]; rfl))) (fun i e => .inl e), HDN.out.stop (fun c hc hcl hp => absurd (by rwa [List.length_set] at hcl) (HNO.out c hc hp)), HPM.out⟩
    | true =>
      have UT := undr_top x HAL.out HT.out.symm
      rw [← HU.out] at UT
      obtain ⟨hul, hu1, hu2, hu3⟩ := UT
      have HUL := hideT hul
      have HUP2 := hideT (And.intro hu1 (And.intro hu2 hu3))
      have huln : u < n := by rw [← HML.out]; exact hul
      have HM0 := HsAt.hit HRW.out hul
      obtain ⟨y, hy⟩ : ∃ y, y = g M u := ⟨_, rfl⟩
      rw [← hy] at HM0
      have HM := hideT HM0
      have HY := hideT hy
      have EA := hideT (fun W' => AB.out y W')
      obtain ⟨r, hr⟩ : ∃ r, r = decide (Bt x y) := ⟨_, rfl⟩
      rw [← hr] at EA
      have HR := hideT hr
      have D2 := hideT (K5.out.cell HC2.out (fun f => f))
      have D1 := hideT (K5.out.cell HC1.out (fun f => f))
      have DX := hideT (And.intro (K5.out.cell HX.out.1 (fun f => f)) (K5.out.cell HX.out.2 (fun f => f)))
      have DM := hideT (And.intro (K5.out.cell HM.out.1 (fun f => f)) (K5.out.cell HM.out.2 (fun f => f)))
      clear hul hu1 hu2 hu3 HM0 hy hr
      have S0 : Gw W5 W5.drew := (Gw.refl W5).drew
      refine wp_region_held (S := fun W' => Gw W5 W') (by kernel_rfl) ?_
      change wpAnyH _ _ _ _ _ _ _ _ (World.drew _)
      refine wpAnyH_take (i := 0) (v := .bool true) rfl (by kernel_rfl) (by kernel_rfl) (by kernel_rfl) (fun _ _ _ h => h) (Or.inl ⟨by kernel_rfl, fun W' hW => ?_⟩) S0 ?_
      · go_simp
      refine wpAnyH_take (i := 1) (v := .bool false) rfl (by kernel_rfl) (by kernel_rfl) (by kernel_rfl) (fun _ _ _ h => h) (Or.inl ⟨by kernel_rfl, fun W' hW => ?_⟩) S0 ?_
      · go_simp
      refine wpAnyH_take (i := 2) (v := .bool false) rfl (by kernel_rfl) (by kernel_rfl) (by kernel_rfl) (fun _ _ _ h => h) (Or.inl ⟨by kernel_rfl, fun W' hW => ?_⟩) S0 ?_
      · go_simp
      refine wpAnyH_take (i := 3) (v := .pointer (some ⟨p, 1, none⟩)) rfl (by kernel_rfl) (by kernel_rfl) (by kernel_rfl) (fun _ _ _ h => h) (Or.inl ⟨by kernel_rfl, fun W' hW => ?_⟩) S0 ?_
      · go_simp
      refine wpAnyH_take (i := 4) (v := .pointer (some ⟨p, 1, none⟩)) rfl (by kernel_rfl) (by kernel_rfl) (by kernel_rfl) (fun _ _ _ h => h) (Or.inl ⟨by kernel_rfl, fun W' hW => ?_⟩) S0 ?_
      · go_simp
      refine wpAnyH_take (i := 5) (v := .pointer (some ⟨p, 1, none⟩)) rfl (by kernel_rfl) (by kernel_rfl) (by kernel_rfl) (fun _ _ _ h => h) (Or.inl ⟨by kernel_rfl, fun W' hW => ?_⟩) S0 ?_
      · go_simp
      refine wpAnyH_take (i := 6) (v := .func (.func 28) #[] #[]) rfl (by kernel_rfl) (by kernel_rfl) (by kernel_rfl) (fun _ _ _ h => h) (Or.inl ⟨by kernel_rfl, fun W' hW => ?_⟩) S0 ?_
      · have e := (gw_kept hW).cell D1.out (fun f => f)
        go_simp
      refine wpAnyH_take (i := 7) (v := .pointer (some ⟨p, 1, none⟩)) rfl (by kernel_rfl) (by kernel_rfl) (by kernel_rfl) (fun _ _ _ h => h) (Or.inl ⟨by kernel_rfl, fun W' hW => ?_⟩) S0 ?_
      · go_simp
      refine wpAnyH_take (i := 8) (v := .pointer (some ⟨p, 1, none⟩)) rfl (by kernel_rfl) (by kernel_rfl) (by kernel_rfl) (fun _ _ _ h => h) (Or.inl ⟨by kernel_rfl, fun W' hW => ?_⟩) S0 ?_
      · go_simp
      refine wpAnyH_take (i := 9) (v := .pointer (some ⟨p, 2, none⟩)) rfl (by kernel_rfl) (by kernel_rfl) (by kernel_rfl) (fun _ _ _ h => h) (Or.inl ⟨by kernel_rfl, fun W' hW => ?_⟩) S0 ?_
      · go_simp
      refine wpAnyH_take (i := 10) (v := .slice (some ⟨gb, 0, none⟩) n c) rfl (by kernel_rfl) (by kernel_rfl) (by kernel_rfl) (fun _ _ _ h => h) (Or.inl ⟨by kernel_rfl, fun W' hW => ?_⟩) S0 ?_
      · have e := (gw_kept hW).cell D2.out (fun f => f)
        go_simp
      refine wpAnyH_take (i := 11) (v := .int .i64 u) rfl (by kernel_rfl) (by kernel_rfl) (by kernel_rfl) (fun _ _ _ h => h) (Or.inl ⟨by kernel_rfl, fun W' hW => ?_⟩) S0 ?_
      · go_simp
      refine wpAnyH_take (i := 12) (v := .pointer (some ⟨gb, u * 2, none⟩)) rfl (by kernel_rfl) (by kernel_rfl) (by kernel_rfl) (fun _ _ _ h => h) (Or.inl ⟨by kernel_rfl, fun W' hW => ?_⟩) S0 ?_
      · go_simp
        all_goals (intro h; omega)
      refine wpAnyH_take (i := 13) (v := .agg #[.int .i64 y.1, .int .u64 y.2]) rfl (by kernel_rfl) (by kernel_rfl) (by kernel_rfl) (fun _ _ _ h => h) (Or.inl ⟨by kernel_rfl, fun W' hW => ?_⟩) S0 ?_
      · exact load_hit (x := .tmp 25) (b := gb) (off := u * 2) (y := y) rfl (by go_simp) ((gw_kept hW).cell DM.out.1 (fun f => f)) ((gw_kept hW).cell DM.out.2 (fun f => f))
      refine wpAnyH_take (i := 14) (v := .agg #[.int .i64 x.1, .int .u64 x.2]) rfl (by kernel_rfl) (by kernel_rfl) (by kernel_rfl) (fun _ _ _ h => h) (Or.inl ⟨by kernel_rfl, fun W' hW => ?_⟩) S0 ?_
      · exact load_hit (x := .tmp 3) (b := b3) (off := 0) (y := x) rfl (by go_simp) ((gw_kept hW).cell DX.out.1 (fun f => f)) ((gw_kept hW).cell DX.out.2 (fun f => f))
      refine wpAnyH_all (rs := [15]) (by kernel_rfl) (by simp) ?_
      intro i hi
      obtain rfl : i = 15 := by simpa using hi
      have E15 := hideT (EA.out W5.drew)
      unfold wpOp
      go_simp
      first | refine E15.out.mono ?_ | refine Or.inl (E15.out.mono ?_)
      rintro e W7 ⟨rfl, h7⟩
      have h7 := S0.trans h7
      first | refine ⟨h7, ?_⟩ | refine Or.inl ⟨h7, ?_⟩
      refine wpAnyH_all (rs := [16]) (by kernel_rfl) (by simp) ?_
      intro i hi
      obtain rfl : i = 16 := by simpa using hi
      unfold wpOp
      go_simp
      first | (change wpAnyH _ _ _ _ _ _ _ _ _) | (refine Or.inl ?_; change wpAnyH _ _ _ _ _ _ _ _ _) | refine Or.inl ⟨h7, ?_⟩ | refine ⟨h7, ?_⟩
      refine wpAnyH_all (rs := [17]) (by kernel_rfl) (by simp) ?_
      intro i hi
      obtain rfl : i = 17 := by simpa using hi
      unfold wpOp
      go_simp
      first | (change wpAnyH _ _ _ _ _ _ _ _ _) | (refine Or.inl ?_; change wpAnyH _ _ _ _ _ _ _ _ _) | refine Or.inl ⟨h7, ?_⟩ | refine ⟨h7, ?_⟩
      refine wpAnyH_done (by kernel_rfl) ?_ _
      have KW : Hid (Kept (fun _ => False) wr W7) := hideT (gw_kept (H5.out.trans h7))
      clear h7 S0 D2 D1 DX DM
      cases r with
      | false =>
        have HNB := hideT (show ¬ Bt x y from of_decide_eq_false HR.out.symm)
        go_upto_region 6 with fail
        have D2 := hideT (KW.out.cell HC2.out (fun f => f))
        have DX := hideT (And.intro (KW.out.cell HX.out.1 (fun f => f)) (KW.out.cell HX.out.2 (fun f => f)))
        have T0 : Kept (fun _ => False) W7 (World.drew W7) := Kept.drew W7
        refine wp_region_z (S := fun W' => Kept (fun _ => False) W7 W') (z := 7) (by kernel_rfl) ?_
        change wpAnyZ _ _ _ _ _ _ _ _ _ (World.drew _)
        refine wpAnyZ_take (i := 0) (v := .pointer (some ⟨p, 1, none⟩)) rfl (by kernel_rfl) (by kernel_rfl) (by kernel_rfl) (by kernel_rfl) (fun _ _ _ h => h) (Or.inl ⟨by kernel_rfl, fun W' hW => ?_⟩) T0 ?_
        · go_simp
        refine wpAnyZ_take (i := 1) (v := .pointer (some ⟨p, 1, none⟩)) rfl (by kernel_rfl) (by kernel_rfl) (by kernel_rfl) (by kernel_rfl) (fun _ _ _ h => h) (Or.inl ⟨by kernel_rfl, fun W' hW => ?_⟩) T0 ?_
        · go_simp
        refine wpAnyZ_take (i := 2) (v := .pointer (some ⟨p, 2, none⟩)) rfl (by kernel_rfl) (by kernel_rfl) (by kernel_rfl) (by kernel_rfl) (fun _ _ _ h => h) (Or.inl ⟨by kernel_rfl, fun W' hW => ?_⟩) T0 ?_
        · go_simp
        refine wpAnyZ_take (i := 3) (v := .slice (some ⟨gb, 0, none⟩) n c) rfl (by kernel_rfl) (by kernel_rfl) (by kernel_rfl) (by kernel_rfl) (fun _ _ _ h => h) (Or.inl ⟨by kernel_rfl, fun W' hW => ?_⟩) T0 ?_
        · have e := hW.cell D2.out (fun f => f)
          go_simp
        refine wpAnyZ_take (i := 4) (v := .int .i64 (a : Nat)) rfl (by kernel_rfl) (by kernel_rfl) (by kernel_rfl) (by kernel_rfl) (fun _ _ _ h => h) (Or.inl ⟨by kernel_rfl, fun W' hW => ?_⟩) T0 ?_
        · go_simp
        refine wpAnyZ_take (i := 5) (v := .agg #[.int .i64 x.1, .int .u64 x.2]) rfl (by kernel_rfl) (by kernel_rfl) (by kernel_rfl) (by kernel_rfl) (fun _ _ _ h => h) (Or.inl ⟨by kernel_rfl, fun W' hW => ?_⟩) T0 ?_
        · exact load_hit (x := .tmp 3) (b := b3) (off := 0) (y := x) rfl (by go_simp) (hW.cell DX.out.1 (fun f => f)) (hW.cell DX.out.2 (fun f => f))
        refine wpAnyZ_take (i := 6) (v := .pointer (some ⟨gb, a * 2, none⟩)) rfl (by kernel_rfl) (by kernel_rfl) (by kernel_rfl) (by kernel_rfl) (fun _ _ _ h => h) (Or.inl ⟨by kernel_rfl, fun W' hW => ?_⟩) T0 ?_
        · go_simp
          all_goals (intro h; omega)
        have RW := (HRW.out.same KW.out (fun _ _ f => f)).same T0 (fun _ _ f => f)
        obtain ⟨th, RW2, KW2⟩ := RW.set a HAL.out x
        refine wpAnyZ_store 7 29 (.tmp 51) (.tmp 50) gb (a * 2) #[.int .i64 x.1, .int .u64 x.2] (by kernel_rfl) rfl rfl rfl (by kernel_rfl) (by kernel_rfl) th size_hit (hit_all x) ?_
        intro Z hZ
        replace hZ : Z = (World.drew W7).setCells gb (a * 2) [.int .i64 x.1, .int .u64 x.2] := hZ
        refine wpAnyZ_done (by kernel_rfl) ?_ _
        have KZ := hideT (((KW.out.trans T0 (fun _ f => f.elim)).mono (fun _ f => f.elim)).trans KW2 (fun i e => .inl e) : Kept (fun i => i = gb) wr _)
        have HRZ := hideT RW2
        have HBZ := hideT (KZ.out.heap HBX.out (fun e => HG.out.1 e.symm))
        rw [← hZ] at HRZ HBZ KZ
        clear hZ RW2 KW2 RW th T0
        go_end0
        refine ⟨rfl, M.set a x, ⟨HBZ.out, HRZ.out, by simp only [Value.ownBlock, ne_eq, Option.some.injEq]; exact HG.out.1⟩, (HkV.out.mono (fun _ f => f.elim)).trans ((HKR.out.trans KZ.out (fun i e => .inl e)).mono (fun i e => .inl (by rw [e]; rfl))) (fun i e => .inl e), HDN.out.stop (fun c hc hcl hp => by rw [g_set HAL.out, if_pos rfl]; have q := HUP2.out.2.2 c hc hcl hp; rw [g_set HAL.out, if_neg (fun e => by have := HUP2.out.1; have := HUP2.out.2.1; unfold par at *; omega), ← HY.out] at q; exact nbt_trans HNB.out q), HPM.out⟩
      | true =>
        have HB := hideT (show Bt x y from of_decide_eq_true HR.out.symm)
        go_upto_region 4 with fail
        have D2 := hideT (KW.out.cell HC2.out (fun f => f))
        have DX := hideT (And.intro (KW.out.cell HX.out.1 (fun f => f)) (KW.out.cell HX.out.2 (fun f => f)))
        have T0 : Kept (fun _ => False) W7 (World.drew W7) := Kept.drew W7
        have DM := hideT (And.intro (KW.out.cell HM.out.1 (fun f => f)) (KW.out.cell HM.out.2 (fun f => f)))
        refine wp_region_z (S := fun W' => Kept (fun _ => False) W7 W') (z := 13) (by kernel_rfl) ?_
        change wpAnyZ _ _ _ _ _ _ _ _ _ (World.drew _)
        refine wpAnyZ_take (i := 0) (v := .pointer (some ⟨p, 1, none⟩)) rfl (by kernel_rfl) (by kernel_rfl) (by kernel_rfl) (by kernel_rfl) (fun _ _ _ h => h) (Or.inl ⟨by kernel_rfl, fun W' hW => ?_⟩) T0 ?_
        · go_simp
        refine wpAnyZ_take (i := 1) (v := .pointer (some ⟨p, 1, none⟩)) rfl (by kernel_rfl) (by kernel_rfl) (by kernel_rfl) (by kernel_rfl) (fun _ _ _ h => h) (Or.inl ⟨by kernel_rfl, fun W' hW => ?_⟩) T0 ?_
        · go_simp
        refine wpAnyZ_take (i := 2) (v := .pointer (some ⟨p, 2, none⟩)) rfl (by kernel_rfl) (by kernel_rfl) (by kernel_rfl) (by kernel_rfl) (fun _ _ _ h => h) (Or.inl ⟨by kernel_rfl, fun W' hW => ?_⟩) T0 ?_
        · go_simp
        refine wpAnyZ_take (i := 3) (v := .slice (some ⟨gb, 0, none⟩) n c) rfl (by kernel_rfl) (by kernel_rfl) (by kernel_rfl) (by kernel_rfl) (fun _ _ _ h => h) (Or.inl ⟨by kernel_rfl, fun W' hW => ?_⟩) T0 ?_
        · have e := hW.cell D2.out (fun f => f)
          go_simp
        refine wpAnyZ_take (i := 4) (v := .int .i64 (a : Nat)) rfl (by kernel_rfl) (by kernel_rfl) (by kernel_rfl) (by kernel_rfl) (fun _ _ _ h => h) (Or.inl ⟨by kernel_rfl, fun W' hW => ?_⟩) T0 ?_
        · go_simp
        refine wpAnyZ_take (i := 5) (v := .pointer (some ⟨p, 1, none⟩)) rfl (by kernel_rfl) (by kernel_rfl) (by kernel_rfl) (by kernel_rfl) (fun _ _ _ h => h) (Or.inl ⟨by kernel_rfl, fun W' hW => ?_⟩) T0 ?_
        · go_simp
        refine wpAnyZ_take (i := 6) (v := .pointer (some ⟨p, 1, none⟩)) rfl (by kernel_rfl) (by kernel_rfl) (by kernel_rfl) (by kernel_rfl) (fun _ _ _ h => h) (Or.inl ⟨by kernel_rfl, fun W' hW => ?_⟩) T0 ?_
        · go_simp
        refine wpAnyZ_take (i := 7) (v := .pointer (some ⟨p, 2, none⟩)) rfl (by kernel_rfl) (by kernel_rfl) (by kernel_rfl) (by kernel_rfl) (fun _ _ _ h => h) (Or.inl ⟨by kernel_rfl, fun W' hW => ?_⟩) T0 ?_
        · go_simp
        refine wpAnyZ_take (i := 8) (v := .slice (some ⟨gb, 0, none⟩) n c) rfl (by kernel_rfl) (by kernel_rfl) (by kernel_rfl) (by kernel_rfl) (fun _ _ _ h => h) (Or.inl ⟨by kernel_rfl, fun W' hW => ?_⟩) T0 ?_
        · have e := hW.cell D2.out (fun f => f)
          go_simp
        refine wpAnyZ_take (i := 9) (v := .int .i64 (u : Nat)) rfl (by kernel_rfl) (by kernel_rfl) (by kernel_rfl) (by kernel_rfl) (fun _ _ _ h => h) (Or.inl ⟨by kernel_rfl, fun W' hW => ?_⟩) T0 ?_
        · go_simp
        refine wpAnyZ_take (i := 10) (v := .pointer (some ⟨gb, u * 2, none⟩)) rfl (by kernel_rfl) (by kernel_rfl) (by kernel_rfl) (by kernel_rfl) (fun _ _ _ h => h) (Or.inl ⟨by kernel_rfl, fun W' hW => ?_⟩) T0 ?_
        · go_simp
          all_goals (intro h; omega)
        refine wpAnyZ_take (i := 11) (v := .agg #[.int .i64 y.1, .int .u64 y.2]) rfl (by kernel_rfl) (by kernel_rfl) (by kernel_rfl) (by kernel_rfl) (fun _ _ _ h => h) (Or.inl ⟨by kernel_rfl, fun W' hW => ?_⟩) T0 ?_
        · exact load_hit (x := .tmp 41) (b := gb) (off := u * 2) (y := y) rfl (by go_simp) (hW.cell DM.out.1 (fun f => f)) (hW.cell DM.out.2 (fun f => f))
        refine wpAnyZ_take (i := 12) (v := .pointer (some ⟨gb, a * 2, none⟩)) rfl (by kernel_rfl) (by kernel_rfl) (by kernel_rfl) (by kernel_rfl) (fun _ _ _ h => h) (Or.inl ⟨by kernel_rfl, fun W' hW => ?_⟩) T0 ?_
        · go_simp
          all_goals (intro h; omega)
        have RW := (HRW.out.same KW.out (fun _ _ f => f)).same T0 (fun _ _ f => f)
        obtain ⟨th, RW2, KW2⟩ := RW.set a HAL.out y
        refine wpAnyZ_store 13 29 (.tmp 43) (.tmp 42) gb (a * 2) #[.int .i64 y.1, .int .u64 y.2] (by kernel_rfl) rfl rfl rfl (by kernel_rfl) (by kernel_rfl) th size_hit (hit_all y) ?_
        intro Z hZ
        replace hZ : Z = (World.drew W7).setCells gb (a * 2) [.int .i64 y.1, .int .u64 y.2] := hZ
        refine wpAnyZ_done (by kernel_rfl) ?_ _
        have KZ := hideT (((KW.out.trans T0 (fun _ f => f.elim)).mono (fun _ f => f.elim)).trans KW2 (fun i e => .inl e) : Kept (fun i => i = gb) wr _)
        have HRZ := hideT RW2
        have HBZ := hideT (KZ.out.heap HBX.out (fun e => HG.out.1 e.symm))
        rw [← hZ] at HRZ HBZ KZ
        clear hZ RW2 KW2 RW th T0
        have HD2 : Hid (Dn ((M.set a y).set u x) u) := hideT (by
          have hau : a ≠ u := fun e => by have h1 := HUP2.out.1; have h2 := HUP2.out.2.1; unfold par at h1; omega
          have gx : g (M.set a x) a = x := by rw [g_set HAL.out, if_pos rfl]
          have gu : g (M.set a x) u = y := by rw [g_set HAL.out, if_neg (fun e => hau e.symm), HY.out]
          have U := HDN.out.step (by rw [List.length_set]; exact HUL.out) HUP2.out.1 HUP2.out.2.1 HUP2.out.2.2 (by rw [gu, gx]; exact HB.out)
          rw [gu, gx] at U
          have E := set_set_up x HAL.out hau (o := u)
          rw [← HY.out, gu, gx] at E
          rw [E]; exact U)
        have HP2 : Hid (((M.set a y).set u x).Perm (x :: H.tail)) := hideT (by have := perm_dn HAL.out HUL.out (fun e => by have h1 := HUP2.out.1; have h2 := HUP2.out.2.1; unfold par at h1; omega) HPM.out; rwa [← HY.out] at this)
        have HK2 := hideT (HKR.out.trans KZ.out (fun i e => .inl e))
        have hau : a < u := by have := HUP2.out.1; have := HUP2.out.2.1; unfold par at *; omega
        clear KZ
        go_wp2
        go_round
        case rel => exact ⟨u, M.set a y, by go_num, HBZ, HRZ, hideT (by rw [List.length_set]; exact HML.out), HD2, HP2, HK2⟩
        case measure => simp [intOf]; omega
end Go.Proofs.Ytkgcafomlhfonaa.Tk
