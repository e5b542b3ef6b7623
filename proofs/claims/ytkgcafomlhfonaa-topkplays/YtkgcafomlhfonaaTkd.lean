import Derived.Test.YtkgcafomlhfonaaTkc
namespace Go.Proofs.Ytkgcafomlhfonaa.Tk
open Go.ChangeShapes Go.WideShapes Go.ChangeAt Go.RowKit

/-- A hit's two cells. -/
def enH (x : Ht) : List Value := [.int .i64 x.1, .int .u64 x.2]
/-- topk.compare. -/
def cfH (x y : Ht) : Int := orI (cmpI y.2 x.2) (cmpI x.1 y.1)
theorem ltH (x y : Ht) : decide (cfH x y < 0) = decide (Bt x y) := by
  unfold cfH orI cmpI Bt
  congr 1
  apply propext
  by_cases h1 : y.2 < x.2
  · simp [h1]
  · by_cases h2 : x.2 < y.2
    · simp [h1, h2]; omega
    · have e : x.2 = y.2 := by omega
      by_cases h3 : x.1 < y.1
      · simp [e, h3]
      · by_cases h4 : y.1 < x.1
        · simp [e, h3, h4]
        · simp [e, h3, h4]
set_option maxRecDepth 20000 in
set_option maxHeartbeats 4000000 in
theorem compare_any (x y : Ht) (W : World) : Calls Try.prog 32 #[.agg #[.int .i64 x.1, .int .u64 x.2], .agg #[.int .i64 y.1, .int .u64 y.2]] W fun e w' => e = .returned (.int .i64 (cfH x y)) ∧ Gw W w' := by
  have C1 := hideT (fun W' => compare_u y.2 x.2 W')
  have C2 := hideT (fun W' => compare_i x.1 y.1 W')
  unfold cfH
  generalize cmpI y.2 x.2 = r1 at *
  generalize cmpI x.1 y.1 = r2 at *
  have OR := hideT (fun b c W' h0 h1 => or_any r1 r2 b c W' h0 h1)
  generalize orI r1 r2 = r at *
  go_enter Try.func32, Try.ntmps32
  go_upto_region 1 with fail
  obtain ⟨b0, hb0⟩ : ∃ b0, b0 = W.heap.size := ⟨_, rfl⟩
  obtain ⟨V, hV⟩ : ∃ V, V = (W.alloc (.cells #[.int .i64 x.1, .int .u64 x.2] 29)).alloc (.cells #[.int .i64 y.1, .int .u64 y.2] 29) := ⟨_, rfl⟩
  have gV : Gw W V := by rw [hV]; exact ((Gw.refl W).alloc _).alloc _
  have c0 : V.cell? ⟨b0, 0, none⟩ = some (.int .i64 x.1) := by rw [hV, hb0]; go_simp
  have c1 : V.cell? ⟨b0, 1, none⟩ = some (.int .u64 x.2) := by rw [hV, hb0]; go_simp
  have d0 : V.cell? ⟨b0 + 1, 0, none⟩ = some (.int .i64 y.1) := by rw [hV, hb0]; go_simp
  have d1 : V.cell? ⟨b0 + 1, 1, none⟩ = some (.int .u64 y.2) := by rw [hV, hb0]; go_simp
  rw [← hV, ← hb0]
  have HC0 := hideT c0
  have HC1 := hideT c1
  have HD0 := hideT d0
  have HD1 := hideT d1
  have HV := hideT gV
  clear hV hb0 c0 c1 d0 d1 gV
  have S0 : Gw V V.drew := (Gw.refl V).drew
  refine wp_region_held (S := fun W' => Gw V W') (by kernel_rfl) ?_
  change wpAnyH _ _ _ _ _ _ _ _ (World.drew _)
  refine wpAnyH_take (i := 0) (v := .pointer (some ⟨b0 + 1, 1, none⟩)) rfl (by kernel_rfl) (by kernel_rfl) (by kernel_rfl) (fun _ _ _ h => h) (Or.inl ⟨by rfl, fun W' hW => ?_⟩) S0 ?_
  · go_simp
  refine wpAnyH_take (i := 1) (v := .int .u64 y.2) rfl (by kernel_rfl) (by kernel_rfl) (by kernel_rfl) (fun _ _ _ h => h) (Or.inl ⟨by rfl, fun W' hW => ?_⟩) S0 ?_
  · have e := (gw_kept hW).cell HD1.out (fun f => f)
    go_simp
  refine wpAnyH_take (i := 2) (v := .pointer (some ⟨b0, 1, none⟩)) rfl (by kernel_rfl) (by kernel_rfl) (by kernel_rfl) (fun _ _ _ h => h) (Or.inl ⟨by rfl, fun W' hW => ?_⟩) S0 ?_
  · go_simp
  refine wpAnyH_take (i := 3) (v := .int .u64 x.2) rfl (by kernel_rfl) (by kernel_rfl) (by kernel_rfl) (fun _ _ _ h => h) (Or.inl ⟨by rfl, fun W' hW => ?_⟩) S0 ?_
  · have e := (gw_kept hW).cell HC1.out (fun f => f)
    go_simp
  refine wpAnyH_take (i := 5) (v := .pointer (some ⟨b0, 0, none⟩)) rfl (by kernel_rfl) (by kernel_rfl) (by kernel_rfl) (fun _ _ _ h => h) (Or.inl ⟨by rfl, fun W' hW => ?_⟩) S0 ?_
  · go_simp
  refine wpAnyH_take (i := 6) (v := .int .i64 x.1) rfl (by kernel_rfl) (by kernel_rfl) (by kernel_rfl) (fun _ _ _ h => h) (Or.inl ⟨by rfl, fun W' hW => ?_⟩) S0 ?_
  · have e := (gw_kept hW).cell HC0.out (fun f => f)
    go_simp
  refine wpAnyH_take (i := 7) (v := .pointer (some ⟨b0 + 1, 0, none⟩)) rfl (by kernel_rfl) (by kernel_rfl) (by kernel_rfl) (fun _ _ _ h => h) (Or.inl ⟨by rfl, fun W' hW => ?_⟩) S0 ?_
  · go_simp
  refine wpAnyH_take (i := 8) (v := .int .i64 y.1) rfl (by kernel_rfl) (by kernel_rfl) (by kernel_rfl) (fun _ _ _ h => h) (Or.inl ⟨by rfl, fun W' hW => ?_⟩) S0 ?_
  · have e := (gw_kept hW).cell HD0.out (fun f => f)
    go_simp
  refine wpAnyH_all (rs := [4]) (by kernel_rfl) (by simp) ?_
  intro i hi
  obtain rfl : i = 4 := by simpa using hi
  have E4 := hideT (C1.out V.drew)
  unfold wpOp
  go_simp
  first | refine E4.out.mono ?_ | refine Or.inl (E4.out.mono ?_)
  rintro e w' ⟨rfl, rfl⟩
  first | refine ⟨S0, ?_⟩ | refine Or.inl ⟨S0, ?_⟩
  refine wpAnyH_all (rs := [9]) (by kernel_rfl) (by simp) ?_
  intro i hi
  obtain rfl : i = 9 := by simpa using hi
  have E9 := hideT (C2.out V.drew)
  unfold wpOp
  go_simp
  first | refine E9.out.mono ?_ | refine Or.inl (E9.out.mono ?_)
  rintro e w' ⟨rfl, rfl⟩
  first | refine ⟨S0, ?_⟩ | refine Or.inl ⟨S0, ?_⟩
  refine wpAnyH_all (rs := [10]) (by kernel_rfl) (by simp) ?_
  intro i hi
  obtain rfl : i = 10 := by simpa using hi
  unfold wpOp
  go_simp
  have S1 := S0.alloc (.cells #[.int .i64 r1, .int .i64 r2] 3)
  first | refine ⟨S1, ?_⟩ | refine Or.inl ⟨S1, ?_⟩
  refine wpAnyH_all (rs := [11]) (by kernel_rfl) (by simp) ?_
  intro i hi
  obtain rfl : i = 11 := by simpa using hi
  have E11 := hideT (OR.out V.heap.size 2 (V.drew.alloc (.cells #[.int .i64 r1, .int .i64 r2] 3)) (by go_simp) (by go_simp))
  unfold wpOp
  go_simp
  first | refine E11.out.mono ?_ | refine Or.inl (E11.out.mono ?_)
  rintro e w' ⟨rfl, rfl⟩
  first | refine ⟨S1, ?_⟩ | refine Or.inl ⟨S1, ?_⟩
  refine wpAnyH_all (rs := [12]) (by kernel_rfl) (by simp) ?_
  intro i hi
  obtain rfl : i = 12 := by simpa using hi
  unfold wpOp
  go_simp
  first | refine ⟨S1, ?_⟩ | refine Or.inl ⟨S1, ?_⟩
  refine wpAnyH_done (by kernel_rfl) ?_ _
  go_wp2
  go_ret
  exact ⟨rfl, HV.out.trans ((Gw.refl V).alloc _).drew⟩
set_option maxHeartbeats 2000000 in
theorem better_any (x y : Ht) (W : World) : Calls Try.prog 19 #[.agg #[.int .i64 x.1, .int .u64 x.2], .agg #[.int .i64 y.1, .int .u64 y.2]] W fun e w' => e = .returned (.bool (decide (Bt x y))) ∧ Gw W w' := by
  have CM := hideT (fun W' => compare_any x y W')
  rw [← ltH]
  generalize cfH x y = r at *
  go_enter Try.func19, Try.ntmps19
  go_wp2_with (go_at_call 32; refine (CM.out _).mono ?_; rintro e w' ⟨rfl, hg⟩)
  have hg2 := hideT ((((Gw.refl W).alloc _).alloc _).trans hg)
  clear hg
  go_wp2
  go_ret
  exact ⟨rfl, hg2.out⟩
set_option maxHeartbeats 2000000 in
theorem above_any (x y : Ht) (W : World) : Calls Try.prog 28 #[.agg #[.int .i64 x.1, .int .u64 x.2], .agg #[.int .i64 y.1, .int .u64 y.2]] W fun e w' => e = .returned (.bool (decide (Bt y x))) ∧ Gw W w' := by
  have CM := hideT (fun W' => better_any y x W')
  generalize decide (Bt y x) = r at *
  go_enter Try.func28, Try.ntmps28
  go_wp2_with (go_at_call 19; refine (CM.out _).mono ?_; rintro e w' ⟨rfl, hg⟩)
  have hg2 := hideT ((((Gw.refl W).alloc _).alloc _).trans hg)
  clear hg
  go_wp2
  go_ret
  exact ⟨rfl, hg2.out⟩
end Go.Proofs.Ytkgcafomlhfonaa.Tk
