import Derived.Test.YtkgcafomlhfonaaTkn
namespace Go.Proofs.Ytkgcafomlhfonaa.Tk
open Go.ChangeShapes Go.WideShapes Go.ChangeAt Go.RowKit

set_option maxRecDepth 20000 in
set_option maxHeartbeats 4000000 in
/-- slices.Equal of the same hits. -/
theorem equal_same (l : List Ht) (a b : Option Addr) (c d : Nat) (w : World) (ha : HsAt w a l) (hb : HsAt w b l) (hlim : l.length ≤ 4611686018427387904) : Calls Try.prog 12 #[.slice a l.length c, .slice b l.length d] w fun e w' => e = .returned (.bool true) ∧ Kept (fun _ => False) w w' := by
  have HA := hideT ha
  have HB := hideT hb
  obtain ⟨n, hn⟩ : ∃ n, n = l.length := ⟨_, rfl⟩
  have HN := hideT hn
  rw [← hn] at hlim ⊢
  clear ha hb hn
  go_enter Try.func12, Try.ntmps12
  go_wp2
  go_loopw [13] (fun s13 wr => ∃ j : Nat, j ≤ n ∧ s13 = .int .i64 j ∧ Hid (Kept (fun _ => False) w wr)) (fun s13 _ => n - (intOf s13).toNat)
  case atStart => exact ⟨0, by omega, by go_num, hideT (Kept.refl _ _)⟩
  case round =>
    obtain ⟨j, hj, rfl, HK⟩ := hrel
    by_cases hlt : j < n
    · have hjl : j < l.length := by rw [← HN.out]; exact hlt
      obtain ⟨gb, go, rfl, hc⟩ := HA.out (by intro e; rw [e] at hjl; simp at hjl)
      obtain ⟨gb2, go2, rfl, hc2⟩ := HB.out (by intro e; rw [e] at hjl; simp at hjl)
      obtain ⟨x, hx⟩ : ∃ x, x = l[j] := ⟨_, rfl⟩
      obtain ⟨x0, x1⟩ := hc j hjl
      obtain ⟨y0, y1⟩ := hc2 j hjl
      rw [← hx] at x0 x1 y0 y1
      have x0 := HK.out.cell x0 (fun f => f)
      have x1 := HK.out.cell x1 (fun f => f)
      have y0 := HK.out.cell y0 (fun f => f)
      have y1 := HK.out.cell y1 (fun f => f)
      have hjj : (j : Int) < (n : Int) := by omega
      clear hc hc2 hx
      go_wp2
      go_quiet (fail)
      go_wp2
      have HK2 := hideT (show ∀ q, Kept (fun _ => False) w (wr.drewN q) from fun q => HK.out.trans (gw_kept ((Gw.refl wr).drewN q)) (fun _ f => f.elim))
      go_round
      case rel => exact ⟨j + 1, by omega, by go_num, hideT (HK2.out _)⟩
      case measure => simp [intOf]; omega
    · obtain rfl : j = n := by omega
      go_wp2
      go_ret
      exact ⟨rfl, HK.out⟩
set_option maxHeartbeats 4000000 in
theorem ahead_any (x y : Ht) (W : World) : Calls Try.prog 26 #[.agg #[.int .i64 x.1, .int .u64 x.2], .agg #[.int .i64 y.1, .int .u64 y.2]] W fun e w' => e = .returned (.bool (decide (Bt x y))) ∧ Gw W w' := by
  have G1 := hideT (((Gw.refl W).alloc (.cells #[.int .i64 x.1, .int .u64 x.2] 29)).alloc (.cells #[.int .i64 y.1, .int .u64 y.2] 29))
  by_cases h1 : y.2 < x.2
  · go_enter Try.func26, Try.ntmps26
    go_wp2
    go_ret
    exact ⟨by simp [Bt, h1], G1.out⟩
  · by_cases h2 : x.2 = y.2
    · rw [h2] at h1 G1 ⊢
      go_enter Try.func26, Try.ntmps26
      go_wp2
      go_ret
      exact ⟨by simp [Bt, h2], G1.out⟩
    · go_enter Try.func26, Try.ntmps26
      go_wp2
      go_ret
      exact ⟨by simp [Bt, h1, h2], G1.out⟩
set_option maxRecDepth 20000 in
set_option maxHeartbeats 4000000 in
theorem sorted_any (l : List Ht) (a : Option Addr) (c : Nat) (w : World) (ha : HsAt w a l) (hs : Srt l) (hlim : l.length ≤ 4611686018427387904) : Calls Try.prog 24 #[.slice a l.length c] w fun e w' => e = .returned (.bool true) ∧ Kept (fun _ => False) w w' := by
  have HA := hideT ha
  have HS := hideT hs
  obtain ⟨n, hn⟩ : ∃ n, n = l.length := ⟨_, rfl⟩
  have HN := hideT hn
  rw [← hn] at hlim ⊢
  clear ha hs hn
  go_enter Try.func24, Try.ntmps24
  go_wp2
  go_loopw [3] (fun s3 wr => ∃ j : Nat, 1 ≤ j ∧ j ≤ n + 1 ∧ s3 = .int .i64 j ∧ Hid (Kept (fun _ => False) w wr)) (fun s3 _ => n + 1 - (intOf s3).toNat)
  case atStart => exact ⟨1, by omega, by omega, by go_num, hideT (Kept.refl _ _)⟩
  case round =>
    obtain ⟨j, hj1, hj, rfl, HK⟩ := hrel
    by_cases hlt : j < n
    · have hjl : j < l.length := by rw [← HN.out]; exact hlt
      obtain ⟨i, rfl⟩ : ∃ i, j = i + 1 := ⟨j - 1, by omega⟩
      obtain ⟨gb, go, rfl, hc⟩ := HA.out (by intro e; rw [e] at hjl; simp at hjl)
      obtain ⟨x, hx⟩ : ∃ x, x = l[i + 1] := ⟨_, rfl⟩
      obtain ⟨y, hy⟩ : ∃ y, y = l[i] := ⟨_, rfl⟩
      obtain ⟨x0, x1⟩ := hc (i + 1) hjl
      obtain ⟨y0, y1⟩ := hc i (by omega)
      rw [← hx] at x0 x1
      rw [← hy] at y0 y1
      have HX := hideT (And.intro x0 x1)
      have HY := hideT (And.intro y0 y1)
      have hnb : ¬ Bt x y := by
        have := (List.pairwise_iff_getElem.1 HS.out) i (i + 1) (by omega) hjl (by omega)
        rw [← hx, ← hy] at this
        exact this
      have AH := hideT (fun W' => ahead_any x y W')
      rw [decide_eq_false hnb] at AH
      have hjj : (i : Int) + 1 < (n : Int) := by omega
      clear hc x0 x1 y0 y1 hx hy hnb
      go_upto_region 4 with fail
      have S0 : Kept (fun _ => False) w wr.drew := HK.out.trans (Kept.drew wr) (fun _ f => f.elim)
      refine wp_region_held (S := fun W' => Kept (fun _ => False) w W') (by kernel_rfl) ?_
      change wpAnyH _ _ _ _ _ _ _ _ (World.drew _)
      refine wpAnyH_take (i := 0) (v := .slice (some ⟨gb, go, none⟩) n c) rfl (by kernel_rfl) (by kernel_rfl) (by kernel_rfl) (fun _ _ _ h => h) (Or.inl ⟨by kernel_rfl, fun W' hW => ?_⟩) S0 ?_
      · go_simp
      refine wpAnyH_take (i := 1) (v := .int .i64 ((i : Int) + 1)) rfl (by kernel_rfl) (by kernel_rfl) (by kernel_rfl) (fun _ _ _ h => h) (Or.inl ⟨by kernel_rfl, fun W' hW => ?_⟩) S0 ?_
      · go_simp
      refine wpAnyH_take (i := 2) (v := .pointer (some ⟨gb, go + (i + 1) * 2, none⟩)) rfl (by kernel_rfl) (by kernel_rfl) (by kernel_rfl) (fun _ _ _ h => h) (Or.inl ⟨by kernel_rfl, fun W' hW => ?_⟩) S0 ?_
      · go_simp
        all_goals (intro h; omega)
      refine wpAnyH_take (i := 3) (v := .agg #[.int .i64 x.1, .int .u64 x.2]) rfl (by kernel_rfl) (by kernel_rfl) (by kernel_rfl) (fun _ _ _ h => h) (Or.inl ⟨by kernel_rfl, fun W' hW => ?_⟩) S0 ?_
      · exact load_hit (x := .tmp 12) (b := gb) (off := go + (i + 1) * 2) (y := x) rfl (by go_simp) (hW.cell HX.out.1 (fun f => f)) (hW.cell HX.out.2 (fun f => f))
      refine wpAnyH_take (i := 4) (v := .slice (some ⟨gb, go, none⟩) n c) rfl (by kernel_rfl) (by kernel_rfl) (by kernel_rfl) (fun _ _ _ h => h) (Or.inl ⟨by kernel_rfl, fun W' hW => ?_⟩) S0 ?_
      · go_simp
      refine wpAnyH_take (i := 5) (v := .int .i64 ((i : Int) + 1)) rfl (by kernel_rfl) (by kernel_rfl) (by kernel_rfl) (fun _ _ _ h => h) (Or.inl ⟨by kernel_rfl, fun W' hW => ?_⟩) S0 ?_
      · go_simp
      refine wpAnyH_take (i := 6) (v := .int .i64 (i : Nat)) rfl (by kernel_rfl) (by kernel_rfl) (by kernel_rfl) (fun _ _ _ h => h) (Or.inl ⟨by kernel_rfl, fun W' hW => ?_⟩) S0 ?_
      · go_simp
        simp [IntKind.wrap, IntKind.bits, IntKind.signed]; omega
      refine wpAnyH_take (i := 7) (v := .pointer (some ⟨gb, go + i * 2, none⟩)) rfl (by kernel_rfl) (by kernel_rfl) (by kernel_rfl) (fun _ _ _ h => h) (Or.inl ⟨by kernel_rfl, fun W' hW => ?_⟩) S0 ?_
      · go_simp
        all_goals (intro h; omega)
      refine wpAnyH_take (i := 8) (v := .agg #[.int .i64 y.1, .int .u64 y.2]) rfl (by kernel_rfl) (by kernel_rfl) (by kernel_rfl) (fun _ _ _ h => h) (Or.inl ⟨by kernel_rfl, fun W' hW => ?_⟩) S0 ?_
      · exact load_hit (x := .tmp 17) (b := gb) (off := go + i * 2) (y := y) rfl (by go_simp) (hW.cell HY.out.1 (fun f => f)) (hW.cell HY.out.2 (fun f => f))
      refine wpAnyH_all (rs := [9]) (by kernel_rfl) (by simp) ?_
      intro i hi
      obtain rfl : i = 9 := by simpa using hi
      have E9 := hideT (AH.out wr.drew)
      unfold wpOp
      go_simp
      first | refine E9.out.mono ?_ | refine Or.inl (E9.out.mono ?_)
      rintro e W5 ⟨rfl, h6⟩
      have h5 := S0.trans (gw_kept h6) (fun _ f => f.elim)
      first | refine ⟨h5, ?_⟩ | refine Or.inl ⟨h5, ?_⟩
      refine wpAnyH_done (by kernel_rfl) ?_ _
      have HK5 := hideT h5
      clear h5 S0
      go_wp2
      go_round
      case rel => exact ⟨i + 2, by omega, by omega, by go_num, HK5⟩
      case measure => simp [intOf]; omega
    · go_wp2
      go_ret
      exact ⟨rfl, HK.out⟩
end Go.Proofs.Ytkgcafomlhfonaa.Tk
