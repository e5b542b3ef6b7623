import Derived.Test.YtkgcafomlhfonaaTle
namespace Go.Proofs.Ytkgcafomlhfonaa.Tk
open Go.ChangeShapes Go.WideShapes Go.ChangeAt Go.RowKit

set_option maxRecDepth 20000 in
set_option maxHeartbeats 8000000 in
theorem lists_walk (L : List Hl) (h : Ht) (a : Option Addr) (c : Nat) (k : Int) (w : World) (hl : LsAt w a L) (hcp : ∀ x ∈ L, x.l.length ≤ x.c) (hlim : (allH L).length + L.length ≤ 1048576) : Calls Try.prog 4 #[.slice a L.length c, .agg #[.int .i64 h.1, .int .u64 h.2], .int .i64 k] w fun e w' => e = .returned (.bool true) ∧ Kept (fun _ => False) w w' := by
  have HL := hideT hl
  obtain ⟨m, hm⟩ : ∃ m, m = L.length := ⟨_, rfl⟩
  have HM := hideT hm
  have HLIM := hideT hlim
  have HCP := hideT hcp
  have hmb : m ≤ 1048576 := by omega
  rw [← hm]
  obtain ⟨bh, hbh⟩ : ∃ b, b = w.heap.size := ⟨_, rfl⟩
  obtain ⟨V, hV⟩ : ∃ V, V = w.alloc (.cells #[.int .i64 h.1, .int .u64 h.2] 29) := ⟨_, rfl⟩
  have kV : Kept (fun _ => False) w V := by rw [hV]; exact Kept.alloc _ _
  have bV : V.heap[bh]? = some (.cells #[.int .i64 h.1, .int .u64 h.2] 29 (0, 0)) := by rw [hV, hbh]; exact heap_alloc_new w _
  have HV := hideT kV
  have HH := hideT (And.intro ((cell_of_row _ _ _ _ _ _ bV : V.cell? ⟨bh, 0, none⟩ = _).trans rfl : V.cell? ⟨bh, 0, none⟩ = some (.int .i64 h.1)) ((cell_of_row _ _ _ _ _ _ bV : V.cell? ⟨bh, 1, none⟩ = _).trans rfl : V.cell? ⟨bh, 1, none⟩ = some (.int .u64 h.2)))
  have FX := hideT (fixed_any V)
  clear bV kV hl hm hlim hcp
  go_enter Try.func4, Try.ntmps4
  go_upto_region 1 with fail
  rw [← hV, ← hbh]
  clear hV hbh
  go_upto_region 3 with (go_at_call 9; refine FX.out.mono ?_; rintro e W1 ⟨rfl, q1⟩)
  have Q1 := hideT q1
  clear q1
  go_wp2
  go_loopw [15] (fun s15 wr => ∃ i : Nat, i ≤ m ∧ s15 = .int .i64 i ∧ Hid (Kept (fun _ => False) V wr)) (fun s15 _ => m - (intOf s15).toNat)
  case atStart => exact ⟨0, by omega, by go_num, Q1⟩
  case round =>
    obtain ⟨i, hi, rfl, HW⟩ := hrel
    by_cases hlt : i < m
    · have hil : i < L.length := by rw [← HM.out]; exact hlt
      have hii : (i : Int) < (m : Int) := by omega
      obtain ⟨b, off, rfl, hc⟩ := (HL.out.same HV.out) (by intro e; rw [e] at hil; simp at hil)
      obtain ⟨z0, z1⟩ := hc i hil
      obtain ⟨y, hy⟩ : ∃ y, y = L[i] := ⟨_, rfl⟩
      rw [← hy] at z0 z1
      have hyc : y.l.length ≤ y.c := by rw [hy]; exact HCP.out _ (List.getElem_mem hil)
      have hyl : y.l.length ≤ 1048576 := by
        have h1 : (allH (L.take (i + 1))).length ≤ (allH L).length := by
          unfold allH
          conv => rhs; rw [← List.take_append_drop (i + 1) L, List.flatMap_append, List.length_append]
          omega
        rw [allH_take L i hil, List.length_append, ← hy] at h1
        have := HLIM.out
        omega
      have y0 := HW.out.cell z0 (fun f => f)
      have HY := hideT z1
      have S1 := hideT (fun W (hW : Kept (fun _ => False) V W) => select_any y.l y.a y.c k W (z1.same hW) (by omega))
      have S2 := hideT (fun W (hW : Kept (fun _ => False) V W) => rselect_any y.l y.a y.c k W (z1.same hW) hyc (by omega))
      have F1 := hideT (fun W (hW : Kept (fun _ => False) V W) => after_any y.l h y.a y.c k W (z1.same hW) (by omega))
      have F2 := hideT (fun W (hW : Kept (fun _ => False) V W) => rafter_any y.l h y.a y.c k W (z1.same hW) (by omega))
      unfold Ans at S1 F1
      unfold AnsR at S2 F2
      obtain ⟨K1, hK1⟩ : ∃ K, K = best k.toNat y.l := ⟨_, rfl⟩
      obtain ⟨K2, hK2⟩ : ∃ K, K = best k.toNat (behind h y.l) := ⟨_, rfl⟩
      have hl1 : K1.length ≤ 1048576 := by rw [hK1]; exact Nat.le_trans (best_le _ _) hyl
      have hl2 : K2.length ≤ 1048576 := by rw [hK2]; exact Nat.le_trans (best_le _ _) (Nat.le_trans (behind_le h y.l) hyl)
      rw [← hK1] at S1 S2
      rw [← hK2] at F1 F2
      have E1 := hideT (fun (W : World) (a b : Option Addr) (c d : Nat) (ha : HsAt W a K1) (hb : HsAt W b K1) => equal_same K1 a b c d W ha hb (by omega))
      have E2 := hideT (fun (W : World) (a b : Option Addr) (c d : Nat) (ha : HsAt W a K2) (hb : HsAt W b K2) => equal_same K2 a b c d W ha hb (by omega))
      obtain ⟨n1, hn1⟩ : ∃ n, n = K1.length := ⟨_, rfl⟩
      obtain ⟨n2, hn2⟩ : ∃ n, n = K2.length := ⟨_, rfl⟩
      obtain ⟨yn, hyn⟩ : ∃ yn, yn = y.l.length := ⟨_, rfl⟩
      rw [← hn1] at S1 S2 E1
      rw [← hn2] at F1 F2 E2
      rw [← hyn] at S1 S2 F1 F2 y0 hyl
      have HYN := hideT hyn
      have HHW := hideT (And.intro (HW.out.cell HH.out.1 (fun f => f)) (HW.out.cell HH.out.2 (fun f => f)))
      clear z0 z1 hy hc hyc hK1 hK2 hl1 hl2 hn1 hn2 hyn
      generalize y.a = ya at *
      generalize y.c = yc at *
      obtain ⟨Y, hYl⟩ : ∃ Y, Y = y.l := ⟨_, rfl⟩
      rw [← hYl] at HY HYN
      clear hYl
      go_upto_region 6 with fail
      have S0 : Kept (fun _ => False) wr wr.drew := Kept.drew wr
      refine wp_region_held (S := fun W' => Kept (fun _ => False) wr W') (by kernel_rfl) ?_
      change wpAnyH _ _ _ _ _ _ _ _ (World.drew _)
      refine wpAnyH_take (i := 0) (v := .slice ya yn yc) rfl (by kernel_rfl) (by kernel_rfl) (by kernel_rfl) (fun _ _ _ h => h) (Or.inl ⟨by kernel_rfl, fun W' hW => ?_⟩) S0 ?_
      · go_simp
      refine wpAnyH_take (i := 1) (v := .int .i64 k) rfl (by kernel_rfl) (by kernel_rfl) (by kernel_rfl) (fun _ _ _ h => h) (Or.inl ⟨by kernel_rfl, fun W' hW => ?_⟩) S0 ?_
      · go_simp
      refine wpAnyH_take (i := 3) (v := .slice ya yn yc) rfl (by kernel_rfl) (by kernel_rfl) (by kernel_rfl) (fun _ _ _ h => h) (Or.inl ⟨by kernel_rfl, fun W' hW => ?_⟩) S0 ?_
      · go_simp
      refine wpAnyH_take (i := 4) (v := .int .i64 k) rfl (by kernel_rfl) (by kernel_rfl) (by kernel_rfl) (fun _ _ _ h => h) (Or.inl ⟨by kernel_rfl, fun W' hW => ?_⟩) S0 ?_
      · go_simp
      refine wpAnyH_all (rs := [2]) (by kernel_rfl) (by simp) ?_
      intro i hi
      obtain rfl : i = 2 := by simpa using hi
      have C2 := hideT (S1.out _ (HW.out.trans S0 (fun _ f => f.elim)))
      unfold wpOp
      go_simp
      first | refine C2.out.mono ?_ | refine Or.inl (C2.out.mono ?_)
      rintro e W1 ⟨p1, d1, rfl, r1, q1⟩
      have k1 := S0.trans q1 (fun _ f => f.elim)
      first | refine ⟨k1, ?_⟩ | refine Or.inl ⟨k1, ?_⟩
      refine wpAnyH_all (rs := [5]) (by kernel_rfl) (by simp) ?_
      intro i hi
      obtain rfl : i = 5 := by simpa using hi
      have C5 := hideT (S2.out _ (HW.out.trans k1 (fun _ f => f.elim)))
      unfold wpOp
      go_simp
      first | refine C5.out.mono ?_ | refine Or.inl (C5.out.mono ?_)
      rintro e W2 ⟨p2, d2, rfl, r2, q2⟩
      have k2 := k1.trans q2 (fun _ f => f.elim)
      first | refine ⟨k2, ?_⟩ | refine Or.inl ⟨k2, ?_⟩
      refine wpAnyH_all (rs := [6]) (by kernel_rfl) (by simp) ?_
      intro i hi
      obtain rfl : i = 6 := by simpa using hi
      have C6 := hideT (E1.out W2 p1 p2 d1 d2 (r1.hs.same q2) r2)
      unfold wpOp
      go_simp
      first | refine C6.out.mono ?_ | refine Or.inl (C6.out.mono ?_)
      rintro e W3 ⟨rfl, q3⟩
      have k3 := k2.trans q3 (fun _ f => f.elim)
      first | refine ⟨k3, ?_⟩ | refine Or.inl ⟨k3, ?_⟩
      refine wpAnyH_all (rs := [7]) (by kernel_rfl) (by simp) ?_
      intro i hi
      obtain rfl : i = 7 := by simpa using hi
      unfold wpOp
      go_simp
      first | (change wpAnyH _ _ _ _ _ _ _ _ _) | (refine Or.inl ?_; change wpAnyH _ _ _ _ _ _ _ _ _) | refine Or.inl ⟨k3, ?_⟩ | refine ⟨k3, ?_⟩
      refine wpAnyH_all (rs := [8]) (by kernel_rfl) (by simp) ?_
      intro i hi
      obtain rfl : i = 8 := by simpa using hi
      unfold wpOp
      go_simp
      first | (change wpAnyH _ _ _ _ _ _ _ _ _) | (refine Or.inl ?_; change wpAnyH _ _ _ _ _ _ _ _ _) | refine Or.inl ⟨k3, ?_⟩ | refine ⟨k3, ?_⟩
      refine wpAnyH_take (i := 9) (v := .slice ya yn yc) rfl (by kernel_rfl) (by kernel_rfl) (by kernel_rfl) (fun _ _ _ h => h) (Or.inl ⟨by kernel_rfl, fun W' hW => ?_⟩) k3 ?_
      · go_simp
      refine wpAnyH_take (i := 10) (v := .agg #[.int .i64 h.1, .int .u64 h.2]) rfl (by kernel_rfl) (by kernel_rfl) (by kernel_rfl) (fun _ _ _ h => h) (Or.inl ⟨by kernel_rfl, fun W' hW => ?_⟩) k3 ?_
      · exact load_hit (x := .tmp 4) (b := bh) (off := 0) (y := h) rfl (by go_simp) (hW.cell HHW.out.1 (fun f => f)) (hW.cell HHW.out.2 (fun f => f))
      refine wpAnyH_take (i := 11) (v := .int .i64 k) rfl (by kernel_rfl) (by kernel_rfl) (by kernel_rfl) (fun _ _ _ h => h) (Or.inl ⟨by kernel_rfl, fun W' hW => ?_⟩) k3 ?_
      · go_simp
      refine wpAnyH_take (i := 13) (v := .slice ya yn yc) rfl (by kernel_rfl) (by kernel_rfl) (by kernel_rfl) (fun _ _ _ h => h) (Or.inl ⟨by kernel_rfl, fun W' hW => ?_⟩) k3 ?_
      · go_simp
      refine wpAnyH_take (i := 14) (v := .agg #[.int .i64 h.1, .int .u64 h.2]) rfl (by kernel_rfl) (by kernel_rfl) (by kernel_rfl) (fun _ _ _ h => h) (Or.inl ⟨by kernel_rfl, fun W' hW => ?_⟩) k3 ?_
      · exact load_hit (x := .tmp 4) (b := bh) (off := 0) (y := h) rfl (by go_simp) (hW.cell HHW.out.1 (fun f => f)) (hW.cell HHW.out.2 (fun f => f))
      refine wpAnyH_take (i := 15) (v := .int .i64 k) rfl (by kernel_rfl) (by kernel_rfl) (by kernel_rfl) (fun _ _ _ h => h) (Or.inl ⟨by kernel_rfl, fun W' hW => ?_⟩) k3 ?_
      · go_simp
      refine wpAnyH_all (rs := [12]) (by kernel_rfl) (by simp) ?_
      intro i hi
      obtain rfl : i = 12 := by simpa using hi
      have C12 := hideT (F1.out _ (HW.out.trans k3 (fun _ f => f.elim)))
      unfold wpOp
      go_simp
      first | refine C12.out.mono ?_ | refine Or.inl (C12.out.mono ?_)
      rintro e W4 ⟨p4, d4, rfl, r4, q4⟩
      have k4 := k3.trans q4 (fun _ f => f.elim)
      first | refine ⟨k4, ?_⟩ | refine Or.inl ⟨k4, ?_⟩
      refine wpAnyH_all (rs := [16]) (by kernel_rfl) (by simp) ?_
      intro i hi
      obtain rfl : i = 16 := by simpa using hi
      have C16 := hideT (F2.out _ (HW.out.trans k4 (fun _ f => f.elim)))
      unfold wpOp
      go_simp
      first | refine C16.out.mono ?_ | refine Or.inl (C16.out.mono ?_)
      rintro e W5 ⟨p5, d5, rfl, r5, q5⟩
      have k5 := k4.trans q5 (fun _ f => f.elim)
      first | refine ⟨k5, ?_⟩ | refine Or.inl ⟨k5, ?_⟩
      refine wpAnyH_all (rs := [17]) (by kernel_rfl) (by simp) ?_
      intro i hi
      obtain rfl : i = 17 := by simpa using hi
      have C17 := hideT (E2.out W5 p4 p5 d4 d5 (r4.hs.same q5) r5)
      unfold wpOp
      go_simp
      first | refine C17.out.mono ?_ | refine Or.inl (C17.out.mono ?_)
      rintro e W6 ⟨rfl, q6⟩
      have k6 := k5.trans q6 (fun _ f => f.elim)
      first | refine ⟨k6, ?_⟩ | refine Or.inl ⟨k6, ?_⟩
      refine wpAnyH_all (rs := [18]) (by kernel_rfl) (by simp) ?_
      intro i hi
      obtain rfl : i = 18 := by simpa using hi
      unfold wpOp
      go_simp
      first | (change wpAnyH _ _ _ _ _ _ _ _ _) | (refine Or.inl ?_; change wpAnyH _ _ _ _ _ _ _ _ _) | refine Or.inl ⟨k6, ?_⟩ | refine ⟨k6, ?_⟩
      refine wpAnyH_all (rs := [19]) (by kernel_rfl) (by simp) ?_
      intro i hi
      obtain rfl : i = 19 := by simpa using hi
      unfold wpOp
      go_simp
      first | (change wpAnyH _ _ _ _ _ _ _ _ _) | (refine Or.inl ?_; change wpAnyH _ _ _ _ _ _ _ _ _) | refine Or.inl ⟨k6, ?_⟩ | refine ⟨k6, ?_⟩
      refine wpAnyH_done (by kernel_rfl) ?_ _
      have HW6 := hideT (HW.out.trans k6 (fun _ f => f.elim))
      clear k6 k5 k4 k3 k2 k1 S0 r1 r2 r4 r5
      go_wp2
      go_loopw [41] (fun s41 w2 => ∃ j : Nat, j ≤ yn ∧ s41 = .int .i64 j ∧ Hid (Kept (fun _ => False) V w2)) (fun s41 _ => yn - (intOf s41).toNat)
      case atStart => exact ⟨0, by omega, by go_num, HW6⟩
      case round =>
        obtain ⟨j, hj, rfl, HWJ⟩ := hrel
        by_cases hjl : j < yn
        · have hjy : j < Y.length := by rw [← HYN.out]; exact hjl
          obtain ⟨gb, go, rfl, hyc⟩ := HY.out (by intro e; rw [e] at hjy; simp at hjy)
          obtain ⟨x0, x1⟩ := hyc j hjy
          obtain ⟨x, hx⟩ : ∃ x, x = Y[j] := ⟨_, rfl⟩
          rw [← hx] at x0 x1
          have x0 := HWJ.out.cell x0 (fun f => f)
          have x1 := HWJ.out.cell x1 (fun f => f)
          have hjj : (j : Int) < (yn : Int) := by omega
          obtain ⟨bx, hbx⟩ : ∃ b, b = wr.heap.size := ⟨_, rfl⟩
          obtain ⟨U, hU⟩ : ∃ U, U = wr.alloc (.cells #[.int .i64 x.1, .int .u64 x.2] 29) := ⟨_, rfl⟩
          have kU : Kept (fun _ => False) wr U := by rw [hU]; exact Kept.alloc _ _
          have bU : U.heap[bx]? = some (.cells #[.int .i64 x.1, .int .u64 x.2] 29 (0, 0)) := by rw [hU, hbx]; exact heap_alloc_new wr _
          have HX := hideT (And.intro ((cell_of_row _ _ _ _ _ _ bU : U.cell? ⟨bx, 0, none⟩ = _).trans rfl : U.cell? ⟨bx, 0, none⟩ = some (.int .i64 x.1)) ((cell_of_row _ _ _ _ _ _ bU : U.cell? ⟨bx, 1, none⟩ = _).trans rfl : U.cell? ⟨bx, 1, none⟩ = some (.int .u64 x.2)))
          have HKU := hideT (HWJ.out.trans kU (fun _ f => f.elim))
          have HHU := hideT (And.intro (HKU.out.cell HH.out.1 (fun f => f)) (HKU.out.cell HH.out.2 (fun f => f)))
          have B1 := hideT (fun W => better_any x h W)
          have B2 := hideT (fun W => rbetter_any x h W)
          have B3 := hideT (fun W => better_any h x W)
          have B4 := hideT (fun W => rbetter_any h x W)
          generalize decide (Bt x h) = b1 at *
          generalize decide (Bt h x) = b2 at *
          clear hyc hx kU bU
          go_upto_region 11 with fail
          rw [← hU, ← hbx]
          clear hU hbx
          have S0 : Gw U U.drew := (Gw.refl U).drew
          refine wp_region_held (S := fun W' => Gw U W') (by kernel_rfl) ?_
          change wpAnyH _ _ _ _ _ _ _ _ (World.drew _)
          refine wpAnyH_take (i := 0) (v := .agg #[.int .i64 x.1, .int .u64 x.2]) rfl (by kernel_rfl) (by kernel_rfl) (by kernel_rfl) (fun _ _ _ h => h) (Or.inl ⟨by kernel_rfl, fun W' hW => ?_⟩) S0 ?_
          · exact load_hit (x := .tmp 10) (b := bx) (off := 0) (y := x) rfl (by go_simp) ((gw_kept hW).cell HX.out.1 (fun f => f)) ((gw_kept hW).cell HX.out.2 (fun f => f))
          refine wpAnyH_take (i := 1) (v := .agg #[.int .i64 h.1, .int .u64 h.2]) rfl (by kernel_rfl) (by kernel_rfl) (by kernel_rfl) (fun _ _ _ h => h) (Or.inl ⟨by kernel_rfl, fun W' hW => ?_⟩) S0 ?_
          · exact load_hit (x := .tmp 4) (b := bh) (off := 0) (y := h) rfl (by go_simp) ((gw_kept hW).cell HHU.out.1 (fun f => f)) ((gw_kept hW).cell HHU.out.2 (fun f => f))
          refine wpAnyH_take (i := 3) (v := .agg #[.int .i64 x.1, .int .u64 x.2]) rfl (by kernel_rfl) (by kernel_rfl) (by kernel_rfl) (fun _ _ _ h => h) (Or.inl ⟨by kernel_rfl, fun W' hW => ?_⟩) S0 ?_
          · exact load_hit (x := .tmp 10) (b := bx) (off := 0) (y := x) rfl (by go_simp) ((gw_kept hW).cell HX.out.1 (fun f => f)) ((gw_kept hW).cell HX.out.2 (fun f => f))
          refine wpAnyH_take (i := 4) (v := .agg #[.int .i64 h.1, .int .u64 h.2]) rfl (by kernel_rfl) (by kernel_rfl) (by kernel_rfl) (fun _ _ _ h => h) (Or.inl ⟨by kernel_rfl, fun W' hW => ?_⟩) S0 ?_
          · exact load_hit (x := .tmp 4) (b := bh) (off := 0) (y := h) rfl (by go_simp) ((gw_kept hW).cell HHU.out.1 (fun f => f)) ((gw_kept hW).cell HHU.out.2 (fun f => f))
          refine wpAnyH_all (rs := [2]) (by kernel_rfl) (by simp) ?_
          intro i hi
          obtain rfl : i = 2 := by simpa using hi
          have C2 := hideT (B1.out U.drew)
          unfold wpOp
          go_simp
          first | refine C2.out.mono ?_ | refine Or.inl (C2.out.mono ?_)
          rintro e W1 ⟨rfl, g2'⟩
          have g2 := S0.trans g2'
          first | refine ⟨g2, ?_⟩ | refine Or.inl ⟨g2, ?_⟩
          refine wpAnyH_all (rs := [5]) (by kernel_rfl) (by simp) ?_
          intro i hi
          obtain rfl : i = 5 := by simpa using hi
          have C5 := hideT (B2.out W1)
          unfold wpOp
          go_simp
          first | refine C5.out.mono ?_ | refine Or.inl (C5.out.mono ?_)
          rintro e W2 ⟨rfl, g5'⟩
          have g5 := g2.trans g5'
          first | refine ⟨g5, ?_⟩ | refine Or.inl ⟨g5, ?_⟩
          refine wpAnyH_all (rs := [6]) (by kernel_rfl) (by simp) ?_
          intro i hi
          obtain rfl : i = 6 := by simpa using hi
          unfold wpOp
          go_simp
          first | (change wpAnyH _ _ _ _ _ _ _ _ _) | (refine Or.inl ?_; change wpAnyH _ _ _ _ _ _ _ _ _) | refine Or.inl ⟨g5, ?_⟩ | refine ⟨g5, ?_⟩
          refine wpAnyH_all (rs := [7]) (by kernel_rfl) (by simp) ?_
          intro i hi
          obtain rfl : i = 7 := by simpa using hi
          unfold wpOp
          go_simp
          first | (change wpAnyH _ _ _ _ _ _ _ _ _) | (refine Or.inl ?_; change wpAnyH _ _ _ _ _ _ _ _ _) | refine Or.inl ⟨g5, ?_⟩ | refine ⟨g5, ?_⟩
          refine wpAnyH_take (i := 8) (v := .agg #[.int .i64 h.1, .int .u64 h.2]) rfl (by kernel_rfl) (by kernel_rfl) (by kernel_rfl) (fun _ _ _ h => h) (Or.inl ⟨by kernel_rfl, fun W' hW => ?_⟩) g5 ?_
          · exact load_hit (x := .tmp 4) (b := bh) (off := 0) (y := h) rfl (by go_simp) ((gw_kept hW).cell HHU.out.1 (fun f => f)) ((gw_kept hW).cell HHU.out.2 (fun f => f))
          refine wpAnyH_take (i := 9) (v := .agg #[.int .i64 x.1, .int .u64 x.2]) rfl (by kernel_rfl) (by kernel_rfl) (by kernel_rfl) (fun _ _ _ h => h) (Or.inl ⟨by kernel_rfl, fun W' hW => ?_⟩) g5 ?_
          · exact load_hit (x := .tmp 10) (b := bx) (off := 0) (y := x) rfl (by go_simp) ((gw_kept hW).cell HX.out.1 (fun f => f)) ((gw_kept hW).cell HX.out.2 (fun f => f))
          refine wpAnyH_take (i := 11) (v := .agg #[.int .i64 h.1, .int .u64 h.2]) rfl (by kernel_rfl) (by kernel_rfl) (by kernel_rfl) (fun _ _ _ h => h) (Or.inl ⟨by kernel_rfl, fun W' hW => ?_⟩) g5 ?_
          · exact load_hit (x := .tmp 4) (b := bh) (off := 0) (y := h) rfl (by go_simp) ((gw_kept hW).cell HHU.out.1 (fun f => f)) ((gw_kept hW).cell HHU.out.2 (fun f => f))
          refine wpAnyH_take (i := 12) (v := .agg #[.int .i64 x.1, .int .u64 x.2]) rfl (by kernel_rfl) (by kernel_rfl) (by kernel_rfl) (fun _ _ _ h => h) (Or.inl ⟨by kernel_rfl, fun W' hW => ?_⟩) g5 ?_
          · exact load_hit (x := .tmp 10) (b := bx) (off := 0) (y := x) rfl (by go_simp) ((gw_kept hW).cell HX.out.1 (fun f => f)) ((gw_kept hW).cell HX.out.2 (fun f => f))
          refine wpAnyH_all (rs := [10]) (by kernel_rfl) (by simp) ?_
          intro i hi
          obtain rfl : i = 10 := by simpa using hi
          have C10 := hideT (B3.out W2)
          unfold wpOp
          go_simp
          first | refine C10.out.mono ?_ | refine Or.inl (C10.out.mono ?_)
          rintro e W3 ⟨rfl, g10'⟩
          have g10 := g5.trans g10'
          first | refine ⟨g10, ?_⟩ | refine Or.inl ⟨g10, ?_⟩
          refine wpAnyH_all (rs := [13]) (by kernel_rfl) (by simp) ?_
          intro i hi
          obtain rfl : i = 13 := by simpa using hi
          have C13 := hideT (B4.out W3)
          unfold wpOp
          go_simp
          first | refine C13.out.mono ?_ | refine Or.inl (C13.out.mono ?_)
          rintro e W4 ⟨rfl, g13'⟩
          have g13 := g10.trans g13'
          first | refine ⟨g13, ?_⟩ | refine Or.inl ⟨g13, ?_⟩
          refine wpAnyH_all (rs := [14]) (by kernel_rfl) (by simp) ?_
          intro i hi
          obtain rfl : i = 14 := by simpa using hi
          unfold wpOp
          go_simp
          first | (change wpAnyH _ _ _ _ _ _ _ _ _) | (refine Or.inl ?_; change wpAnyH _ _ _ _ _ _ _ _ _) | refine Or.inl ⟨g13, ?_⟩ | refine ⟨g13, ?_⟩
          refine wpAnyH_all (rs := [15]) (by kernel_rfl) (by simp) ?_
          intro i hi
          obtain rfl : i = 15 := by simpa using hi
          unfold wpOp
          go_simp
          first | (change wpAnyH _ _ _ _ _ _ _ _ _) | (refine Or.inl ?_; change wpAnyH _ _ _ _ _ _ _ _ _) | refine Or.inl ⟨g13, ?_⟩ | refine ⟨g13, ?_⟩
          refine wpAnyH_done (by kernel_rfl) ?_ _
          have HW9 := hideT (HKU.out.trans (gw_kept g13) (fun _ f => f.elim))
          clear g13 g10 g5 g2 S0
          go_wp2
          go_round
          case rel => exact ⟨j + 1, by omega, by go_num, HW9⟩
          case measure => simp [intOf]; omega
        · obtain rfl : j = yn := by omega
          go_wp2
          go_round
          case rel => exact ⟨i + 1, by omega, by go_num, HWJ⟩
          case measure => simp [intOf]; omega
    · obtain rfl : i = m := by omega
      have KW := hideT (HV.out.trans HW.out (fun _ f => f.elim))
      have J1 := hideT (join_any L a c k wr (HL.out.same KW.out) (by have := HLIM.out; omega) (by have := HM.out; omega))
      have J2 := hideT (fun W (hW : Kept (fun _ => False) wr W) => rjoin_any L a c k W (HL.out.same (KW.out.trans hW (fun _ f => f.elim))) HLIM.out)
      unfold AnsR at J2
      obtain ⟨K, hK⟩ : ∃ K, K = best k.toNat (allH L) := ⟨_, rfl⟩
      have hKl : K.length ≤ 1048576 := by rw [hK]; have := best_le k.toNat (allH L); have := HLIM.out; omega
      rw [← hK, ← HM.out] at J1 J2
      have E1 := hideT (fun (W : World) (a b : Option Addr) (c d : Nat) (ha : HsAt W a K) (hb : HsAt W b K) => equal_same K a b c d W ha hb (by omega))
      obtain ⟨q, hq⟩ : ∃ q, q = K.length := ⟨_, rfl⟩
      rw [← hq] at J1 J2 E1
      clear hK hKl hq
      go_wp2_with (first
        | (go_at_call 21; refine J1.out.mono ?_; rintro e W5 ⟨a5, c5, rfl, r5, k5⟩)
        | (go_at_call 22; refine (J2.out W5 k5).mono ?_; rintro e W6 ⟨a6, c6, rfl, r6, k6⟩)
        | (go_at_call 12; refine (E1.out W6 a5 a6 c5 c6 (r5.hs.same k6) r6).mono ?_; rintro e W7 ⟨rfl, k7⟩))
      go_ret
      exact ⟨rfl, KW.out.trans (k5.trans (k6.trans k7 (fun _ f => f.elim)) (fun _ f => f.elim)) (fun _ f => f.elim)⟩
end Go.Proofs.Ytkgcafomlhfonaa.Tk
