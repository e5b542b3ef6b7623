import Derived.Test.YtcbhgpdookappaaDoorDud
import Derived.OrdersHeld
namespace Go.Proofs.YtcbhgpdookappaaDoor.Ds
open Go.ChangeShapes Go.WideShapes Go.ChangeAt Go.RowKit

set_option maxRecDepth 20000 in
set_option maxHeartbeats 4000000 in
/-- Not. -/
theorem not_any (p rb n cap : Nat) (ws : Nat → Nat) (w : World) (h : SetAt w p rb n cap ws) :
    Calls Tryd.prog 26 #[.pointer (some ⟨p, 0, none⟩)] w fun e w' => ∃ q cb c, e = .returned (.pointer (some ⟨q, 0, none⟩)) ∧ w.heap.size ≤ q ∧ w.heap.size ≤ cb ∧ cb < q ∧ SetAt w' q cb n c (notW n ws) ∧ Kept (fun _ => False) w w' := by
  have hsm := h.small
  have hnb : nbOf n ≤ 4096 := by unfold nbOf; omega
  have CL := hideD (cloneS_any p rb n cap ws w h)
  have HS := hideD h
  obtain ⟨nb, hn⟩ : ∃ nb, nb = nbOf n := ⟨_, rfl⟩
  have HN := hideD hn
  rw [← hn] at hnb
  have c1 : w.cell? ⟨p, 1, none⟩ = some (.slice (some ⟨rb, 0, none⟩) nb cap) := by rw [hn]; exact (cell_of_row _ _ _ _ _ _ h.box).trans rfl
  have HC1 := hideD c1
  clear h hn
  go_enter Tryd.func26, Tryd.ntmps26
  go_upto_region 2 with (go_at_call 12; refine CL.out.mono ?_; rintro e W1 ⟨q, cb, c, rfl, hq, hc, hcq, S1, K1⟩)
  have x1 := K1.cell HC1.out (fun f => f)
  have hpw : p < w.heap.size := lt_of_block HS.out.box
  have hrw : rb < w.heap.size := HS.out.row.lt
  have HQ := hideD (And.intro hq (And.intro hc hcq))
  have HPR := hideD (And.intro hpw hrw)
  have HS1 := hideD S1
  have HK1 := hideD K1
  clear hq hc hcq hpw hrw S1 K1 c1
  go_wp2
  clear x1
  go_loopw [13] (fun i wr => ∃ k : Nat, k ≤ nb ∧ i = .int .i64 k ∧ Hid (RowAt wr cb nb (mix (notW n ws) ws k)) ∧ Hid (Kept (fun i => i = cb) W1 wr)) (fun i _ => nb - (intOf i).toNat)
  case atStart => exact ⟨0, by omega, rfl, hideD (by rw [mix_zero, HN.out]; exact HS1.out.row), hideD (Kept.refl _ _)⟩
  case round =>
    obtain ⟨k, hk, rfl, HR, HK⟩ := hrel
    have HKw := hideD (show Kept (fun _ => False) w wr from HK1.out.trans HK.out (fun i e => .inr (by have := HQ.out; omega)))
    have hSr := HS.out.same HKw.out
    by_cases hlt : k < nb
    · have hkb : k < nbOf n := by rw [← HN.out]; exact hlt
      obtain ⟨d0, d1, d2, d3⟩ := hSr.row.blk hkb
      go_upto_region 5 with fail
      obtain ⟨Y, hY⟩ : ∃ Y, Y = wr.alloc (.cells #[.int .u64 (blk ws k 0 : Nat), .int .u64 (blk ws k 1 : Nat), .int .u64 (blk ws k 2 : Nat), .int .u64 (blk ws k 3 : Nat)] 73) := ⟨_, rfl⟩
      have kY : Kept (fun _ => False) wr Y := by rw [hY]; exact Kept.alloc _ _
      have bY : Y.heap[wr.heap.size]? = some (.cells (bw (blk ws k)) 73 (0, 0)) := by rw [hY]; exact heap_alloc_new wr _
      have hcbw : cb < wr.heap.size := HR.out.lt
      have hqc : q ≠ cb := by have := HQ.out; omega
      have hwc : wr.heap.size ≠ cb := by omega
      have cq : Y.cell? ⟨q, 1, none⟩ = some (.slice (some ⟨cb, 0, none⟩) nb c) := by
        refine kY.cell (HK.out.cell ?_ hqc) (fun f => f)
        rw [HN.out]
        exact (cell_of_row _ _ _ _ _ _ HS1.out.box).trans rfl
      have hok := HS.out.ok
      have WD := hideD (fun (W' : World) (k' : Kept (fun _ => False) Y W') => widthS_any p rb n cap k ws W' ((hSr.same kY).same k') hkb)
      obtain ⟨wd, hwd⟩ : ∃ wd, wd = wdt n k := ⟨_, rfl⟩
      have HWD := hideD hwd
      rw [← hwd] at WD
      have hwd2 : wd ≤ 1048576 := by rw [hwd]; unfold wdt; omega
      have LW := hideD (fun (W' : World) (k' : Kept (fun _ => False) Y W') => show Calls Tryd.prog 54 #[.int .i64 wd] W' fun e w' => e = .returned (.agg (bw (lw wd))) ∧ Hid (Kept (fun _ => False) Y w') from (lowest_any wd hwd2 W').mono fun e w' h => ⟨h.1, k'.trans h.2 (fun _ f => f.elim)⟩)
      have MN := hideD (fun (W' : World) (k' : Kept (fun _ => False) Y W') => show Calls Tryd.prog 56 #[.agg (bw (lw wd)), .agg (bw (blk ws k))] W' fun e w' => e = .returned (.agg (bw (minusB (lw wd) (blk ws k)))) ∧ Hid (Kept (fun _ => False) Y w') from (minus_any (lw wd) (blk ws k) (lw_lt _) (blk_ok hok k) W').mono fun e w' h => ⟨h.1, k'.trans h.2 (fun _ f => f.elim)⟩)
      have S0 : Kept (fun i => i = cb) Y Y.drew := (Kept.drew Y).mono (fun _ f => f.elim)
      have T0 : Kept (fun _ => False) Y Y.drew := Kept.drew Y
      rw [← hY]
      have HKY := hideD kY
      have HKK := hideD (And.intro hlt hkb)
      have hki : 0 ≤ (k : Int) ∧ (k : Int) < (nb : Nat) := by omega
      clear hY kY hok hwd hkb d0 d1 d2 d3 hSr
      refine wp_region_held (S := fun W' => Kept (fun i => i = cb) Y W') (by kernel_rfl) ?_
      change wpAnyH _ _ _ _ _ _ _ _ (World.drew _)
      refine wpAnyH_take (i := 0) (v := .pointer (some ⟨q, 0, none⟩)) rfl (by kernel_rfl) (by kernel_rfl) (by kernel_rfl) (fun _ _ _ h => h) (Or.inl ⟨by rfl, fun W hW => ?_⟩) S0 ?_
      · go_simp
      refine wpAnyH_take (i := 1) (v := .pointer (some ⟨q, 0, none⟩)) rfl (by kernel_rfl) (by kernel_rfl) (by kernel_rfl) (fun _ _ _ h => h) (Or.inl ⟨by rfl, fun W hW => ?_⟩) S0 ?_
      · go_simp
      refine wpAnyH_take (i := 2) (v := .pointer (some ⟨q, 1, none⟩)) rfl (by kernel_rfl) (by kernel_rfl) (by kernel_rfl) (fun _ _ _ h => h) (Or.inl ⟨by rfl, fun W hW => ?_⟩) S0 ?_
      · go_simp
      refine wpAnyH_take (i := 3) (v := .slice (some ⟨cb, 0, none⟩) nb c) rfl (by kernel_rfl) (by kernel_rfl) (by kernel_rfl) (fun _ _ _ h => h) (Or.inl ⟨by rfl, fun W hW => ?_⟩) S0 ?_
      · have e := hW.cell cq hqc
        go_simp
      refine wpAnyH_take (i := 4) (v := .int .i64 k) rfl (by kernel_rfl) (by kernel_rfl) (by kernel_rfl) (fun _ _ _ h => h) (Or.inl ⟨by rfl, fun W hW => ?_⟩) S0 ?_
      · go_simp
      refine wpAnyH_take (i := 5) (v := .pointer (some ⟨p, 0, none⟩)) rfl (by kernel_rfl) (by kernel_rfl) (by kernel_rfl) (fun _ _ _ h => h) (Or.inl ⟨by rfl, fun W hW => ?_⟩) S0 ?_
      · go_simp
      refine wpAnyH_take (i := 6) (v := .int .i64 k) rfl (by kernel_rfl) (by kernel_rfl) (by kernel_rfl) (fun _ _ _ h => h) (Or.inl ⟨by rfl, fun W hW => ?_⟩) S0 ?_
      · go_simp
      refine wpAnyH_take (i := 9) (v := .agg (bw (blk ws k))) rfl (by kernel_rfl) (by kernel_rfl) (by kernel_rfl) (fun _ _ _ h => h) (Or.inl ⟨by rfl, fun W hW => ?_⟩) S0 ?_
      · refine exec_load_rowD (x := .tmp 5) (ty := 73) (g := wr.heap.size) rfl ?_ (hW.heap bY hwc) Tryd.underlying73 size_block
        go_simp
      refine wpAnyH_all (rs := [7]) (by kernel_rfl) (by simp) ?_
      intro i hi
      obtain rfl : i = 7 := by simpa using hi
      have W1' := hideD (WD.out _ T0)
      unfold wpOp
      go_simp
      first | refine W1'.out.mono ?_ | refine Or.inl (W1'.out.mono ?_)
      rintro r W5 ⟨rfl, rfl⟩
      refine ⟨S0, ?_⟩
      refine wpAnyH_all (rs := [8]) (by kernel_rfl) (by simp) ?_
      intro i hi
      obtain rfl : i = 8 := by simpa using hi
      have E1 := hideD (LW.out _ T0)
      unfold wpOp
      go_simp
      first | refine E1.out.mono ?_ | refine Or.inl (E1.out.mono ?_)
      rintro r W6 ⟨rfl, K6⟩
      refine ⟨K6.out.mono (fun _ f => f.elim), ?_⟩
      refine wpAnyH_all (rs := [10]) (by kernel_rfl) (by simp) ?_
      intro i hi
      obtain rfl : i = 10 := by simpa using hi
      have E2 := hideD (MN.out _ K6.out)
      unfold wpOp
      go_simp
      first | refine E2.out.mono ?_ | refine Or.inl (E2.out.mono ?_)
      rintro r W7 ⟨rfl, K7⟩
      refine ⟨K7.out.mono (fun _ f => f.elim), ?_⟩
      refine wpAnyH_all (rs := [11]) (by kernel_rfl) (by simp) ?_
      intro i hi
      obtain rfl : i = 11 := by simpa using hi
      unfold wpOp
      go_simp
      refine Or.inl ⟨K7.out.mono (fun _ f => f.elim), ?_⟩
      refine wpAnyH_all (rs := [12]) (by kernel_rfl) (by simp) ?_
      intro i hi
      obtain rfl : i = 12 := by simpa using hi
      unfold wpOp
      refine Or.inl ?_
      have R7 := (HR.out.kept HKY.out (fun f => f)).kept K7.out (fun f => f)
      refine wp_store_mid 73 _ _ rfl cb (k * 4) (bw (minusB (lw wd) (blk ws k))) rfl rfl (R7.there HKK.out.1) size_block (bw_all _) ?_
      have R8 := R7.storeB HKK.out.1 (minusB (lw wd) (blk ws k))
      have kZ := kept_storeB W7 cb (k * 4) (minusB (lw wd) (blk ws k))
      obtain ⟨Z, hZ⟩ : ∃ Z, Z = W7.setCells cb (k * 4) (bw (minusB (lw wd) (blk ws k))).toList := ⟨_, rfl⟩
      rw [← hZ] at R8 kZ ⊢
      have sZ : Kept (fun i => i = cb) Y Z := (K7.out.mono (fun _ f => f.elim)).trans kZ (fun i e => .inl e)
      refine ⟨sZ, wpAnyH_done (by kernel_rfl) ?_ _⟩
      have R9 : RowAt Z cb nb (mix (notW n ws) ws (k + 1)) := by
        refine R8.congr (fun i hi => mix_step _ _ k _ (fun r hr => ?_) i)
        unfold notW
        rw [show (4 * k + r) / 4 = k by omega, show (4 * k + r) % 4 = r by omega, HWD.out]
      have HR9 := hideD R9
      have kWZ : Kept (fun i => i = cb) wr Z := (HKY.out.mono (fun _ f => f.elim)).trans sZ (fun i e => .inl e)
      have HZ := hideD (show Kept (fun i => i = cb) W1 Z from HK.out.trans kWZ (fun i e => .inl e))
      clear kWZ
      clear R7 R8 R9 kZ sZ hZ cq bY
      go_wp2
      go_round
      case rel => exact ⟨k + 1, by omega, by go_num, HR9, HZ⟩
      case measure => simp [intOf]; omega
    · obtain rfl : k = nb := by omega
      clear hSr
      go_wp2
      go_ret
      have hqc : q ≠ cb := by have := HQ.out; omega
      refine ⟨q, cb, c, rfl, HQ.out.1, HQ.out.2.1, HQ.out.2.2, ⟨?_, ?_, notW_ok n ws, HS.out.small, HS1.out.cap, notW_tight n ws⟩, HKw.out⟩
      · exact HK.out.heap HS1.out.box hqc
      · rw [← HN.out]
        exact HR.out.congr (fun i hi => by unfold mix; rw [if_pos hi])
end Go.Proofs.YtcbhgpdookappaaDoor.Ds
