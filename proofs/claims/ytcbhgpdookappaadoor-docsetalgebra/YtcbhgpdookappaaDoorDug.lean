import Derived.Test.YtcbhgpdookappaaDoorDud
import Derived.OrdersHeld
import Derived.BigQuiet
namespace Go.Proofs.YtcbhgpdookappaaDoor.Ds
open Go.ChangeShapes Go.WideShapes Go.ChangeAt Go.RowKit

set_option maxRecDepth 20000 in
set_option maxHeartbeats 8000000 in
theorem withA_any (p rb pt tb n cap tap : Nat) (ws us : Nat → Nat) (w : World) (h : SetAt w p rb n cap ws) (h2 : SetAt w pt tb n tap us) :
    Calls Tryd.prog 74 #[.pointer (some ⟨p, 0, none⟩), .pointer (some ⟨pt, 0, none⟩), .func (.func 53) #[] #[]] w fun e w' => ∃ q cb c, e = .returned (.tuple #[.pointer (some ⟨q, 0, none⟩), .nilIface]) ∧ w.heap.size ≤ q ∧ w.heap.size ≤ cb ∧ cb < q ∧ SetAt w' q cb n c (joinW andB ws us) ∧ Kept (fun _ => False) w w' := by
  have hsm := h.small
  have hnb : nbOf n ≤ 4096 := by unfold nbOf; omega
  have CL := hideD (fun m => cloneS_any p rb n cap ws (w.drewN m) ⟨h.box, h.row, h.ok, h.small, h.cap, h.tight⟩)
  have HS := hideD h
  have HT := hideD h2
  obtain ⟨nb, hn⟩ : ∃ nb, nb = nbOf n := ⟨_, rfl⟩
  have HN := hideD hn
  rw [← hn] at hnb
  have a0 : w.cell? ⟨p, 0, none⟩ = some (.int .i64 n) := (cell_of_row _ _ _ _ _ _ h.box).trans rfl
  have b0 : w.cell? ⟨pt, 0, none⟩ = some (.int .i64 n) := (cell_of_row _ _ _ _ _ _ h2.box).trans rfl
  have c1 : w.cell? ⟨pt, 1, none⟩ = some (.slice (some ⟨tb, 0, none⟩) nb tap) := by rw [hn]; exact (cell_of_row _ _ _ _ _ _ h2.box).trans rfl
  have HC1 := hideD c1
  clear h h2 hn c1
  go_enter Tryd.func74, Tryd.ntmps74
  go_upto_region 1 with fail
  go_quiet (fail)
  have KD := hideD (show Kept (fun _ => False) w (w.drewN nq) from ⟨rfl, rfl, rfl, Nat.le_refl _, fun _ _ _ => rfl⟩)
  go_upto_region 4 with (go_at_call 12; refine (CL.out _).mono ?_; rintro e W1 ⟨q, cb, c, rfl, hq, hc, hcq, S1, K1⟩)
  have K1' := KD.out.trans K1 (fun _ f => f.elim)
  have x1 := K1'.cell HC1.out (fun f => f)
  have hq' : w.heap.size ≤ q := hq
  have hc' : w.heap.size ≤ cb := hc
  have HQ := hideD (And.intro hq' (And.intro hc' hcq))
  have HS1 := hideD S1
  have HK1 := hideD K1'
  clear hq hc hq' hc' hcq S1 K1 K1' a0 b0
  go_wp2
  clear x1
  go_loopw [32] (fun i wr => ∃ k : Nat, k ≤ nb ∧ i = .int .i64 k ∧ Hid (RowAt wr cb nb (mix (joinW andB ws us) ws k)) ∧ Hid (Kept (fun i => i = cb) W1 wr)) (fun i _ => nb - (intOf i).toNat)
  case atStart => exact ⟨0, by omega, rfl, hideD (by rw [mix_zero, HN.out]; exact HS1.out.row), hideD (Kept.refl _ _)⟩
  case round =>
    obtain ⟨k, hk, rfl, HR, HK⟩ := hrel
    have HKw := hideD (show Kept (fun _ => False) w wr from HK1.out.trans HK.out (fun i e => .inr (by have := HQ.out; omega)))
    have hSr := HT.out.same HKw.out
    by_cases hlt : k < nb
    · have hkb : k < nbOf n := by rw [← HN.out]; exact hlt
      obtain ⟨d0, d1, d2, d3⟩ := hSr.row.blk hkb
      go_upto_region 7 with fail
      obtain ⟨Y, hY⟩ : ∃ Y, Y = wr.alloc (.cells #[.int .u64 (blk us k 0 : Nat), .int .u64 (blk us k 1 : Nat), .int .u64 (blk us k 2 : Nat), .int .u64 (blk us k 3 : Nat)] 73) := ⟨_, rfl⟩
      have kY : Kept (fun _ => False) wr Y := by rw [hY]; exact Kept.alloc _ _
      have bY : Y.heap[wr.heap.size]? = some (.cells (bw (blk us k)) 73 (0, 0)) := by rw [hY]; exact heap_alloc_new wr _
      have hcbw : cb < wr.heap.size := HR.out.lt
      have hqc : q ≠ cb := by have := HQ.out; omega
      have hwc : wr.heap.size ≠ cb := by omega
      have cq : Y.cell? ⟨q, 1, none⟩ = some (.slice (some ⟨cb, 0, none⟩) nb c) := by
        refine kY.cell (HK.out.cell ?_ hqc) (fun f => f)
        rw [HN.out]
        exact (cell_of_row _ _ _ _ _ _ HS1.out.box).trans rfl
      have MN := hideD (fun (W' : World) (k' : Kept (fun _ => False) Y W') => show Calls Tryd.prog 53 #[.agg (bw (blk ws k)), .agg (bw (blk us k))] W' fun e w' => e = .returned (.agg (bw (andB (blk ws k) (blk us k)))) ∧ Hid (Kept (fun _ => False) Y w') from (and_any (blk ws k) (blk us k) (blk_ok HS.out.ok k) (blk_ok HT.out.ok k) W').mono fun e w' h => ⟨h.1, k'.trans h.2 (fun _ f => f.elim)⟩)
      have S0 : Kept (fun i => i = cb) Y Y.drew := (Kept.drew Y).mono (fun _ f => f.elim)
      have T0 : Kept (fun _ => False) Y Y.drew := Kept.drew Y
      rw [← hY]
      have HKY := hideD kY
      have HKK := hideD (And.intro hlt hkb)
      have hki : 0 ≤ (k : Int) ∧ (k : Int) < (nb : Nat) := by omega
      have RY := hideD (HR.out.kept kY (fun f => f))
      clear hY kY hkb d0 d1 d2 d3 hSr
      refine wp_region_held (S := fun W' => Kept (fun i => i = cb) Y W') (by kernel_rfl) ?_
      change wpAnyH _ _ _ _ _ _ _ _ (World.drew _)
      refine wpAnyH_take (i := 0) (v := .pointer (some ⟨q, 0, none⟩)) rfl (by kernel_rfl) (by kernel_rfl) (by kernel_rfl) (fun _ _ _ h => h) (Or.inl ⟨by rfl, fun W hW => ?_⟩) S0 ?_
      · go_simp
      refine wpAnyH_take (i := 1) (v := .pointer (some ⟨q, 0, none⟩)) rfl (by kernel_rfl) (by kernel_rfl) (by kernel_rfl) (fun _ _ _ h => h) (Or.inl ⟨by rfl, fun W hW => ?_⟩) S0 ?_
      · go_simp
      refine wpAnyH_take (i := 2) (v := .pointer (some ⟨q, 1, none⟩)) rfl (by kernel_rfl) (by kernel_rfl) (by kernel_rfl) (fun _ _ _ h => h) (Or.inl ⟨by rfl, fun W hW => ?_⟩) S0 ?_
      · go_simp
      refine wpAnyH_take (i := 3) (v := .slice (some ⟨cb, 0, none⟩) nb c) rfl (by kernel_rfl) (by kernel_rfl) (by kernel_rfl) (fun _ _ _ h => h) (Or.inl ⟨by rfl, fun W hW => ?_⟩) S0 ?_
      · have e := hW.cell cq hqc
        go_simp
      refine wpAnyH_take (i := 4) (v := .int .i64 k) rfl (by kernel_rfl) (by kernel_rfl) (by kernel_rfl) (fun _ _ _ h => h) (Or.inl ⟨by rfl, fun W hW => ?_⟩) S0 ?_
      · go_simp
      refine wpAnyH_take (i := 5) (v := .func (.func 53) #[] #[]) rfl (by kernel_rfl) (by kernel_rfl) (by kernel_rfl) (fun _ _ _ h => h) (Or.inl ⟨by rfl, fun W hW => ?_⟩) S0 ?_
      · go_simp
      refine wpAnyH_take (i := 6) (v := .pointer (some ⟨q, 0, none⟩)) rfl (by kernel_rfl) (by kernel_rfl) (by kernel_rfl) (fun _ _ _ h => h) (Or.inl ⟨by rfl, fun W hW => ?_⟩) S0 ?_
      · go_simp
      refine wpAnyH_take (i := 7) (v := .pointer (some ⟨q, 0, none⟩)) rfl (by kernel_rfl) (by kernel_rfl) (by kernel_rfl) (fun _ _ _ h => h) (Or.inl ⟨by rfl, fun W hW => ?_⟩) S0 ?_
      · go_simp
      refine wpAnyH_take (i := 8) (v := .pointer (some ⟨q, 1, none⟩)) rfl (by kernel_rfl) (by kernel_rfl) (by kernel_rfl) (fun _ _ _ h => h) (Or.inl ⟨by rfl, fun W hW => ?_⟩) S0 ?_
      · go_simp
      refine wpAnyH_take (i := 9) (v := .slice (some ⟨cb, 0, none⟩) nb c) rfl (by kernel_rfl) (by kernel_rfl) (by kernel_rfl) (fun _ _ _ h => h) (Or.inl ⟨by rfl, fun W hW => ?_⟩) S0 ?_
      · have e := hW.cell cq hqc
        go_simp
      refine wpAnyH_take (i := 10) (v := .int .i64 k) rfl (by kernel_rfl) (by kernel_rfl) (by kernel_rfl) (fun _ _ _ h => h) (Or.inl ⟨by rfl, fun W hW => ?_⟩) S0 ?_
      · go_simp
      refine wpAnyH_take (i := 13) (v := .agg (bw (blk us k))) rfl (by kernel_rfl) (by kernel_rfl) (by kernel_rfl) (fun _ _ _ h => h) (Or.inl ⟨by rfl, fun W hW => ?_⟩) S0 ?_
      · refine exec_load_rowD (x := .tmp 10) (ty := 73) (g := wr.heap.size) rfl ?_ (hW.heap bY hwc) Tryd.underlying73 size_block
        go_simp
      refine wpAnyH_all (rs := [11]) (by kernel_rfl) (by simp) ?_
      intro i hi
      obtain rfl : i = 11 := by simpa using hi
      unfold wpOp
      go_simp
      refine Or.inl ?_
      refine wpAnyH_all (rs := [12]) (by kernel_rfl) (by simp) ?_
      intro i hi
      obtain rfl : i = 12 := by simpa using hi
      unfold wpOp
      refine Or.inl ?_
      have R0 := RY.out.kept T0 (fun f => f)
      refine wp_load_mid 73 (.tmp 48) rfl cb (k * 4) rfl [.int .u64 (blk ws k 0 : Nat), .int .u64 (blk ws k 1 : Nat), .int .u64 (blk ws k 2 : Nat), .int .u64 (blk ws k 3 : Nat)] _ ?_ Tryd.underlying73 rfl size_block ?_
      · obtain ⟨r0, r1, r2, r3⟩ := R0.blk HKK.out.1
        rw [mix_blk _ _ _ _ (by decide)] at r0 r1 r2 r3
        intro j v hv
        match j, hv with
        | 0, hv => cases hv; exact r0
        | 1, hv => cases hv; exact r1
        | 2, hv => cases hv; exact r2
        | 3, hv => cases hv; exact r3
      clear R0
      refine ⟨S0, ?_⟩
      rw [show (Value.agg [.int .u64 (blk ws k 0 : Nat), .int .u64 (blk ws k 1 : Nat), .int .u64 (blk ws k 2 : Nat), .int .u64 (blk ws k 3 : Nat)].toArray) = .agg (bw (blk ws k)) from rfl]
      refine wpAnyH_all (rs := [14]) (by kernel_rfl) (by simp) ?_
      intro i hi
      obtain rfl : i = 14 := by simpa using hi
      have E2 := hideD (MN.out _ T0)
      unfold wpOp
      go_simp
      first | refine E2.out.mono ?_ | refine Or.inl (E2.out.mono ?_)
      rintro r W7 ⟨rfl, K7⟩
      refine ⟨K7.out.mono (fun _ f => f.elim), ?_⟩
      refine wpAnyH_all (rs := [15]) (by kernel_rfl) (by simp) ?_
      intro i hi
      obtain rfl : i = 15 := by simpa using hi
      unfold wpOp
      go_simp
      refine Or.inl ⟨K7.out.mono (fun _ f => f.elim), ?_⟩
      refine wpAnyH_all (rs := [16]) (by kernel_rfl) (by simp) ?_
      intro i hi
      obtain rfl : i = 16 := by simpa using hi
      unfold wpOp
      refine Or.inl ?_
      have R7 := RY.out.kept K7.out (fun f => f)
      refine wp_store_mid 73 (.tmp 52) (.tmp 51) rfl cb (k * 4) (bw (andB (blk ws k) (blk us k))) rfl rfl (R7.there HKK.out.1) size_block (bw_all _) ?_
      have R8 := R7.storeB HKK.out.1 (andB (blk ws k) (blk us k))
      have kZ := kept_storeB W7 cb (k * 4) (andB (blk ws k) (blk us k))
      obtain ⟨Z, hZ⟩ : ∃ Z, Z = W7.setCells cb (k * 4) (bw (andB (blk ws k) (blk us k))).toList := ⟨_, rfl⟩
      rw [← hZ] at R8 kZ ⊢
      have sZ : Kept (fun i => i = cb) Y Z := (K7.out.mono (fun _ f => f.elim)).trans kZ (fun i e => .inl e)
      refine ⟨sZ, wpAnyH_done (by kernel_rfl) ?_ _⟩
      have R9 : RowAt Z cb nb (mix (joinW andB ws us) ws (k + 1)) := by
        refine R8.congr (fun i hi => mix_step _ _ k _ (fun r hr => ?_) i)
        unfold joinW
        rw [show (4 * k + r) / 4 = k by omega, show (4 * k + r) % 4 = r by omega]
      have HR9 := hideD R9
      have kWZ : Kept (fun i => i = cb) wr Z := (HKY.out.mono (fun _ f => f.elim)).trans sZ (fun i e => .inl e)
      have HZ := hideD (show Kept (fun i => i = cb) W1 Z from HK.out.trans kWZ (fun i e => .inl e))
      clear kWZ
      clear R7 R8 R9 kZ sZ hZ cq bY
      go_wp2
      go_round
      case rel => exact ⟨k + 1, by omega, by go_num, HR9, HZ⟩
      case measure => simp [intOf]; omega
    · obtain rfl : k = nb := by omega
      clear hSr
      go_wp2
      go_ret2
      have hqc : q ≠ cb := by have := HQ.out; omega
      refine ⟨q, cb, c, rfl, HQ.out.1, HQ.out.2.1, HQ.out.2.2, ⟨?_, ?_, fun i => andB_ok (blk_ok HS.out.ok _) _, HS.out.small, HS1.out.cap, fun i hi => ?_⟩, HKw.out⟩
      · exact HK.out.heap HS1.out.box hqc
      · rw [← HN.out]
        exact HR.out.congr (fun i hi => by unfold mix; rw [if_pos hi])
      · rw [mem_joinA] at hi
        simp only [Bool.and_eq_true] at hi; exact HS.out.tight _ hi.1
set_option maxRecDepth 20000 in
set_option maxHeartbeats 8000000 in
theorem withO_any (p rb pt tb n cap tap : Nat) (ws us : Nat → Nat) (w : World) (h : SetAt w p rb n cap ws) (h2 : SetAt w pt tb n tap us) :
    Calls Tryd.prog 74 #[.pointer (some ⟨p, 0, none⟩), .pointer (some ⟨pt, 0, none⟩), .func (.func 75) #[] #[]] w fun e w' => ∃ q cb c, e = .returned (.tuple #[.pointer (some ⟨q, 0, none⟩), .nilIface]) ∧ w.heap.size ≤ q ∧ w.heap.size ≤ cb ∧ cb < q ∧ SetAt w' q cb n c (joinW orB ws us) ∧ Kept (fun _ => False) w w' := by
  have hsm := h.small
  have hnb : nbOf n ≤ 4096 := by unfold nbOf; omega
  have CL := hideD (fun m => cloneS_any p rb n cap ws (w.drewN m) ⟨h.box, h.row, h.ok, h.small, h.cap, h.tight⟩)
  have HS := hideD h
  have HT := hideD h2
  obtain ⟨nb, hn⟩ : ∃ nb, nb = nbOf n := ⟨_, rfl⟩
  have HN := hideD hn
  rw [← hn] at hnb
  have a0 : w.cell? ⟨p, 0, none⟩ = some (.int .i64 n) := (cell_of_row _ _ _ _ _ _ h.box).trans rfl
  have b0 : w.cell? ⟨pt, 0, none⟩ = some (.int .i64 n) := (cell_of_row _ _ _ _ _ _ h2.box).trans rfl
  have c1 : w.cell? ⟨pt, 1, none⟩ = some (.slice (some ⟨tb, 0, none⟩) nb tap) := by rw [hn]; exact (cell_of_row _ _ _ _ _ _ h2.box).trans rfl
  have HC1 := hideD c1
  clear h h2 hn c1
  go_enter Tryd.func74, Tryd.ntmps74
  go_upto_region 1 with fail
  go_quiet (fail)
  have KD := hideD (show Kept (fun _ => False) w (w.drewN nq) from ⟨rfl, rfl, rfl, Nat.le_refl _, fun _ _ _ => rfl⟩)
  go_upto_region 4 with (go_at_call 12; refine (CL.out _).mono ?_; rintro e W1 ⟨q, cb, c, rfl, hq, hc, hcq, S1, K1⟩)
  have K1' := KD.out.trans K1 (fun _ f => f.elim)
  have x1 := K1'.cell HC1.out (fun f => f)
  have hq' : w.heap.size ≤ q := hq
  have hc' : w.heap.size ≤ cb := hc
  have HQ := hideD (And.intro hq' (And.intro hc' hcq))
  have HS1 := hideD S1
  have HK1 := hideD K1'
  clear hq hc hq' hc' hcq S1 K1 K1' a0 b0
  go_wp2
  clear x1
  go_loopw [32] (fun i wr => ∃ k : Nat, k ≤ nb ∧ i = .int .i64 k ∧ Hid (RowAt wr cb nb (mix (joinW orB ws us) ws k)) ∧ Hid (Kept (fun i => i = cb) W1 wr)) (fun i _ => nb - (intOf i).toNat)
  case atStart => exact ⟨0, by omega, rfl, hideD (by rw [mix_zero, HN.out]; exact HS1.out.row), hideD (Kept.refl _ _)⟩
  case round =>
    obtain ⟨k, hk, rfl, HR, HK⟩ := hrel
    have HKw := hideD (show Kept (fun _ => False) w wr from HK1.out.trans HK.out (fun i e => .inr (by have := HQ.out; omega)))
    have hSr := HT.out.same HKw.out
    by_cases hlt : k < nb
    · have hkb : k < nbOf n := by rw [← HN.out]; exact hlt
      obtain ⟨d0, d1, d2, d3⟩ := hSr.row.blk hkb
      go_upto_region 7 with fail
      obtain ⟨Y, hY⟩ : ∃ Y, Y = wr.alloc (.cells #[.int .u64 (blk us k 0 : Nat), .int .u64 (blk us k 1 : Nat), .int .u64 (blk us k 2 : Nat), .int .u64 (blk us k 3 : Nat)] 73) := ⟨_, rfl⟩
      have kY : Kept (fun _ => False) wr Y := by rw [hY]; exact Kept.alloc _ _
      have bY : Y.heap[wr.heap.size]? = some (.cells (bw (blk us k)) 73 (0, 0)) := by rw [hY]; exact heap_alloc_new wr _
      have hcbw : cb < wr.heap.size := HR.out.lt
      have hqc : q ≠ cb := by have := HQ.out; omega
      have hwc : wr.heap.size ≠ cb := by omega
      have cq : Y.cell? ⟨q, 1, none⟩ = some (.slice (some ⟨cb, 0, none⟩) nb c) := by
        refine kY.cell (HK.out.cell ?_ hqc) (fun f => f)
        rw [HN.out]
        exact (cell_of_row _ _ _ _ _ _ HS1.out.box).trans rfl
      have MN := hideD (fun (W' : World) (k' : Kept (fun _ => False) Y W') => show Calls Tryd.prog 75 #[.agg (bw (blk ws k)), .agg (bw (blk us k))] W' fun e w' => e = .returned (.agg (bw (orB (blk ws k) (blk us k)))) ∧ Hid (Kept (fun _ => False) Y w') from (or_any (blk ws k) (blk us k) (blk_ok HS.out.ok k) (blk_ok HT.out.ok k) W').mono fun e w' h => ⟨h.1, k'.trans h.2 (fun _ f => f.elim)⟩)
      have S0 : Kept (fun i => i = cb) Y Y.drew := (Kept.drew Y).mono (fun _ f => f.elim)
      have T0 : Kept (fun _ => False) Y Y.drew := Kept.drew Y
      rw [← hY]
      have HKY := hideD kY
      have HKK := hideD (And.intro hlt hkb)
      have hki : 0 ≤ (k : Int) ∧ (k : Int) < (nb : Nat) := by omega
      have RY := hideD (HR.out.kept kY (fun f => f))
      clear hY kY hkb d0 d1 d2 d3 hSr
      refine wp_region_held (S := fun W' => Kept (fun i => i = cb) Y W') (by kernel_rfl) ?_
      change wpAnyH _ _ _ _ _ _ _ _ (World.drew _)
      refine wpAnyH_take (i := 0) (v := .pointer (some ⟨q, 0, none⟩)) rfl (by kernel_rfl) (by kernel_rfl) (by kernel_rfl) (fun _ _ _ h => h) (Or.inl ⟨by rfl, fun W hW => ?_⟩) S0 ?_
      · go_simp
      refine wpAnyH_take (i := 1) (v := .pointer (some ⟨q, 0, none⟩)) rfl (by kernel_rfl) (by kernel_rfl) (by kernel_rfl) (fun _ _ _ h => h) (Or.inl ⟨by rfl, fun W hW => ?_⟩) S0 ?_
      · go_simp
      refine wpAnyH_take (i := 2) (v := .pointer (some ⟨q, 1, none⟩)) rfl (by kernel_rfl) (by kernel_rfl) (by kernel_rfl) (fun _ _ _ h => h) (Or.inl ⟨by rfl, fun W hW => ?_⟩) S0 ?_
      · go_simp
      refine wpAnyH_take (i := 3) (v := .slice (some ⟨cb, 0, none⟩) nb c) rfl (by kernel_rfl) (by kernel_rfl) (by kernel_rfl) (fun _ _ _ h => h) (Or.inl ⟨by rfl, fun W hW => ?_⟩) S0 ?_
      · have e := hW.cell cq hqc
        go_simp
      refine wpAnyH_take (i := 4) (v := .int .i64 k) rfl (by kernel_rfl) (by kernel_rfl) (by kernel_rfl) (fun _ _ _ h => h) (Or.inl ⟨by rfl, fun W hW => ?_⟩) S0 ?_
      · go_simp
      refine wpAnyH_take (i := 5) (v := .func (.func 75) #[] #[]) rfl (by kernel_rfl) (by kernel_rfl) (by kernel_rfl) (fun _ _ _ h => h) (Or.inl ⟨by rfl, fun W hW => ?_⟩) S0 ?_
      · go_simp
      refine wpAnyH_take (i := 6) (v := .pointer (some ⟨q, 0, none⟩)) rfl (by kernel_rfl) (by kernel_rfl) (by kernel_rfl) (fun _ _ _ h => h) (Or.inl ⟨by rfl, fun W hW => ?_⟩) S0 ?_
      · go_simp
      refine wpAnyH_take (i := 7) (v := .pointer (some ⟨q, 0, none⟩)) rfl (by kernel_rfl) (by kernel_rfl) (by kernel_rfl) (fun _ _ _ h => h) (Or.inl ⟨by rfl, fun W hW => ?_⟩) S0 ?_
      · go_simp
      refine wpAnyH_take (i := 8) (v := .pointer (some ⟨q, 1, none⟩)) rfl (by kernel_rfl) (by kernel_rfl) (by kernel_rfl) (fun _ _ _ h => h) (Or.inl ⟨by rfl, fun W hW => ?_⟩) S0 ?_
      · go_simp
      refine wpAnyH_take (i := 9) (v := .slice (some ⟨cb, 0, none⟩) nb c) rfl (by kernel_rfl) (by kernel_rfl) (by kernel_rfl) (fun _ _ _ h => h) (Or.inl ⟨by rfl, fun W hW => ?_⟩) S0 ?_
      · have e := hW.cell cq hqc
        go_simp
      refine wpAnyH_take (i := 10) (v := .int .i64 k) rfl (by kernel_rfl) (by kernel_rfl) (by kernel_rfl) (fun _ _ _ h => h) (Or.inl ⟨by rfl, fun W hW => ?_⟩) S0 ?_
      · go_simp
      refine wpAnyH_take (i := 13) (v := .agg (bw (blk us k))) rfl (by kernel_rfl) (by kernel_rfl) (by kernel_rfl) (fun _ _ _ h => h) (Or.inl ⟨by rfl, fun W hW => ?_⟩) S0 ?_
      · refine exec_load_rowD (x := .tmp 10) (ty := 73) (g := wr.heap.size) rfl ?_ (hW.heap bY hwc) Tryd.underlying73 size_block
        go_simp
      refine wpAnyH_all (rs := [11]) (by kernel_rfl) (by simp) ?_
      intro i hi
      obtain rfl : i = 11 := by simpa using hi
      unfold wpOp
      go_simp
      refine Or.inl ?_
      refine wpAnyH_all (rs := [12]) (by kernel_rfl) (by simp) ?_
      intro i hi
      obtain rfl : i = 12 := by simpa using hi
      unfold wpOp
      refine Or.inl ?_
      have R0 := RY.out.kept T0 (fun f => f)
      refine wp_load_mid 73 (.tmp 48) rfl cb (k * 4) rfl [.int .u64 (blk ws k 0 : Nat), .int .u64 (blk ws k 1 : Nat), .int .u64 (blk ws k 2 : Nat), .int .u64 (blk ws k 3 : Nat)] _ ?_ Tryd.underlying73 rfl size_block ?_
      · obtain ⟨r0, r1, r2, r3⟩ := R0.blk HKK.out.1
        rw [mix_blk _ _ _ _ (by decide)] at r0 r1 r2 r3
        intro j v hv
        match j, hv with
        | 0, hv => cases hv; exact r0
        | 1, hv => cases hv; exact r1
        | 2, hv => cases hv; exact r2
        | 3, hv => cases hv; exact r3
      clear R0
      refine ⟨S0, ?_⟩
      rw [show (Value.agg [.int .u64 (blk ws k 0 : Nat), .int .u64 (blk ws k 1 : Nat), .int .u64 (blk ws k 2 : Nat), .int .u64 (blk ws k 3 : Nat)].toArray) = .agg (bw (blk ws k)) from rfl]
      refine wpAnyH_all (rs := [14]) (by kernel_rfl) (by simp) ?_
      intro i hi
      obtain rfl : i = 14 := by simpa using hi
      have E2 := hideD (MN.out _ T0)
      unfold wpOp
      go_simp
      first | refine E2.out.mono ?_ | refine Or.inl (E2.out.mono ?_)
      rintro r W7 ⟨rfl, K7⟩
      refine ⟨K7.out.mono (fun _ f => f.elim), ?_⟩
      refine wpAnyH_all (rs := [15]) (by kernel_rfl) (by simp) ?_
      intro i hi
      obtain rfl : i = 15 := by simpa using hi
      unfold wpOp
      go_simp
      refine Or.inl ⟨K7.out.mono (fun _ f => f.elim), ?_⟩
      refine wpAnyH_all (rs := [16]) (by kernel_rfl) (by simp) ?_
      intro i hi
      obtain rfl : i = 16 := by simpa using hi
      unfold wpOp
      refine Or.inl ?_
      have R7 := RY.out.kept K7.out (fun f => f)
      refine wp_store_mid 73 (.tmp 52) (.tmp 51) rfl cb (k * 4) (bw (orB (blk ws k) (blk us k))) rfl rfl (R7.there HKK.out.1) size_block (bw_all _) ?_
      have R8 := R7.storeB HKK.out.1 (orB (blk ws k) (blk us k))
      have kZ := kept_storeB W7 cb (k * 4) (orB (blk ws k) (blk us k))
      obtain ⟨Z, hZ⟩ : ∃ Z, Z = W7.setCells cb (k * 4) (bw (orB (blk ws k) (blk us k))).toList := ⟨_, rfl⟩
      rw [← hZ] at R8 kZ ⊢
      have sZ : Kept (fun i => i = cb) Y Z := (K7.out.mono (fun _ f => f.elim)).trans kZ (fun i e => .inl e)
      refine ⟨sZ, wpAnyH_done (by kernel_rfl) ?_ _⟩
      have R9 : RowAt Z cb nb (mix (joinW orB ws us) ws (k + 1)) := by
        refine R8.congr (fun i hi => mix_step _ _ k _ (fun r hr => ?_) i)
        unfold joinW
        rw [show (4 * k + r) / 4 = k by omega, show (4 * k + r) % 4 = r by omega]
      have HR9 := hideD R9
      have kWZ : Kept (fun i => i = cb) wr Z := (HKY.out.mono (fun _ f => f.elim)).trans sZ (fun i e => .inl e)
      have HZ := hideD (show Kept (fun i => i = cb) W1 Z from HK.out.trans kWZ (fun i e => .inl e))
      clear kWZ
      clear R7 R8 R9 kZ sZ hZ cq bY
      go_wp2
      go_round
      case rel => exact ⟨k + 1, by omega, by go_num, HR9, HZ⟩
      case measure => simp [intOf]; omega
    · obtain rfl : k = nb := by omega
      clear hSr
      go_wp2
      go_ret2
      have hqc : q ≠ cb := by have := HQ.out; omega
      refine ⟨q, cb, c, rfl, HQ.out.1, HQ.out.2.1, HQ.out.2.2, ⟨?_, ?_, fun i => orB_ok (blk_ok HS.out.ok _) (blk_ok HT.out.ok _) _, HS.out.small, HS1.out.cap, fun i hi => ?_⟩, HKw.out⟩
      · exact HK.out.heap HS1.out.box hqc
      · rw [← HN.out]
        exact HR.out.congr (fun i hi => by unfold mix; rw [if_pos hi])
      · rw [mem_joinO] at hi
        simp only [Bool.or_eq_true] at hi; exact hi.elim (HS.out.tight _) (HT.out.tight _)
set_option maxRecDepth 20000 in
set_option maxHeartbeats 8000000 in
theorem withM_any (p rb pt tb n cap tap : Nat) (ws us : Nat → Nat) (w : World) (h : SetAt w p rb n cap ws) (h2 : SetAt w pt tb n tap us) :
    Calls Tryd.prog 74 #[.pointer (some ⟨p, 0, none⟩), .pointer (some ⟨pt, 0, none⟩), .func (.func 56) #[] #[]] w fun e w' => ∃ q cb c, e = .returned (.tuple #[.pointer (some ⟨q, 0, none⟩), .nilIface]) ∧ w.heap.size ≤ q ∧ w.heap.size ≤ cb ∧ cb < q ∧ SetAt w' q cb n c (joinW minusB ws us) ∧ Kept (fun _ => False) w w' := by
  have hsm := h.small
  have hnb : nbOf n ≤ 4096 := by unfold nbOf; omega
  have CL := hideD (fun m => cloneS_any p rb n cap ws (w.drewN m) ⟨h.box, h.row, h.ok, h.small, h.cap, h.tight⟩)
  have HS := hideD h
  have HT := hideD h2
  obtain ⟨nb, hn⟩ : ∃ nb, nb = nbOf n := ⟨_, rfl⟩
  have HN := hideD hn
  rw [← hn] at hnb
  have a0 : w.cell? ⟨p, 0, none⟩ = some (.int .i64 n) := (cell_of_row _ _ _ _ _ _ h.box).trans rfl
  have b0 : w.cell? ⟨pt, 0, none⟩ = some (.int .i64 n) := (cell_of_row _ _ _ _ _ _ h2.box).trans rfl
  have c1 : w.cell? ⟨pt, 1, none⟩ = some (.slice (some ⟨tb, 0, none⟩) nb tap) := by rw [hn]; exact (cell_of_row _ _ _ _ _ _ h2.box).trans rfl
  have HC1 := hideD c1
  clear h h2 hn c1
  go_enter Tryd.func74, Tryd.ntmps74
  go_upto_region 1 with fail
  go_quiet (fail)
  have KD := hideD (show Kept (fun _ => False) w (w.drewN nq) from ⟨rfl, rfl, rfl, Nat.le_refl _, fun _ _ _ => rfl⟩)
  go_upto_region 4 with (go_at_call 12; refine (CL.out _).mono ?_; rintro e W1 ⟨q, cb, c, rfl, hq, hc, hcq, S1, K1⟩)
  have K1' := KD.out.trans K1 (fun _ f => f.elim)
  have x1 := K1'.cell HC1.out (fun f => f)
  have hq' : w.heap.size ≤ q := hq
  have hc' : w.heap.size ≤ cb := hc
  have HQ := hideD (And.intro hq' (And.intro hc' hcq))
  have HS1 := hideD S1
  have HK1 := hideD K1'
  clear hq hc hq' hc' hcq S1 K1 K1' a0 b0
  go_wp2
  clear x1
  go_loopw [32] (fun i wr => ∃ k : Nat, k ≤ nb ∧ i = .int .i64 k ∧ Hid (RowAt wr cb nb (mix (joinW minusB ws us) ws k)) ∧ Hid (Kept (fun i => i = cb) W1 wr)) (fun i _ => nb - (intOf i).toNat)
  case atStart => exact ⟨0, by omega, rfl, hideD (by rw [mix_zero, HN.out]; exact HS1.out.row), hideD (Kept.refl _ _)⟩
  case round =>
    obtain ⟨k, hk, rfl, HR, HK⟩ := hrel
    have HKw := hideD (show Kept (fun _ => False) w wr from HK1.out.trans HK.out (fun i e => .inr (by have := HQ.out; omega)))
    have hSr := HT.out.same HKw.out
    by_cases hlt : k < nb
    · have hkb : k < nbOf n := by rw [← HN.out]; exact hlt
      obtain ⟨d0, d1, d2, d3⟩ := hSr.row.blk hkb
      go_upto_region 7 with fail
      obtain ⟨Y, hY⟩ : ∃ Y, Y = wr.alloc (.cells #[.int .u64 (blk us k 0 : Nat), .int .u64 (blk us k 1 : Nat), .int .u64 (blk us k 2 : Nat), .int .u64 (blk us k 3 : Nat)] 73) := ⟨_, rfl⟩
      have kY : Kept (fun _ => False) wr Y := by rw [hY]; exact Kept.alloc _ _
      have bY : Y.heap[wr.heap.size]? = some (.cells (bw (blk us k)) 73 (0, 0)) := by rw [hY]; exact heap_alloc_new wr _
      have hcbw : cb < wr.heap.size := HR.out.lt
      have hqc : q ≠ cb := by have := HQ.out; omega
      have hwc : wr.heap.size ≠ cb := by omega
      have cq : Y.cell? ⟨q, 1, none⟩ = some (.slice (some ⟨cb, 0, none⟩) nb c) := by
        refine kY.cell (HK.out.cell ?_ hqc) (fun f => f)
        rw [HN.out]
        exact (cell_of_row _ _ _ _ _ _ HS1.out.box).trans rfl
      have MN := hideD (fun (W' : World) (k' : Kept (fun _ => False) Y W') => show Calls Tryd.prog 56 #[.agg (bw (blk ws k)), .agg (bw (blk us k))] W' fun e w' => e = .returned (.agg (bw (minusB (blk ws k) (blk us k)))) ∧ Hid (Kept (fun _ => False) Y w') from (minus_any (blk ws k) (blk us k) (blk_ok HS.out.ok k) (blk_ok HT.out.ok k) W').mono fun e w' h => ⟨h.1, k'.trans h.2 (fun _ f => f.elim)⟩)
      have S0 : Kept (fun i => i = cb) Y Y.drew := (Kept.drew Y).mono (fun _ f => f.elim)
      have T0 : Kept (fun _ => False) Y Y.drew := Kept.drew Y
      rw [← hY]
      have HKY := hideD kY
      have HKK := hideD (And.intro hlt hkb)
      have hki : 0 ≤ (k : Int) ∧ (k : Int) < (nb : Nat) := by omega
      have RY := hideD (HR.out.kept kY (fun f => f))
      clear hY kY hkb d0 d1 d2 d3 hSr
      refine wp_region_held (S := fun W' => Kept (fun i => i = cb) Y W') (by kernel_rfl) ?_
      change wpAnyH _ _ _ _ _ _ _ _ (World.drew _)
      refine wpAnyH_take (i := 0) (v := .pointer (some ⟨q, 0, none⟩)) rfl (by kernel_rfl) (by kernel_rfl) (by kernel_rfl) (fun _ _ _ h => h) (Or.inl ⟨by rfl, fun W hW => ?_⟩) S0 ?_
      · go_simp
      refine wpAnyH_take (i := 1) (v := .pointer (some ⟨q, 0, none⟩)) rfl (by kernel_rfl) (by kernel_rfl) (by kernel_rfl) (fun _ _ _ h => h) (Or.inl ⟨by rfl, fun W hW => ?_⟩) S0 ?_
      · go_simp
      refine wpAnyH_take (i := 2) (v := .pointer (some ⟨q, 1, none⟩)) rfl (by kernel_rfl) (by kernel_rfl) (by kernel_rfl) (fun _ _ _ h => h) (Or.inl ⟨by rfl, fun W hW => ?_⟩) S0 ?_
      · go_simp
      refine wpAnyH_take (i := 3) (v := .slice (some ⟨cb, 0, none⟩) nb c) rfl (by kernel_rfl) (by kernel_rfl) (by kernel_rfl) (fun _ _ _ h => h) (Or.inl ⟨by rfl, fun W hW => ?_⟩) S0 ?_
      · have e := hW.cell cq hqc
        go_simp
      refine wpAnyH_take (i := 4) (v := .int .i64 k) rfl (by kernel_rfl) (by kernel_rfl) (by kernel_rfl) (fun _ _ _ h => h) (Or.inl ⟨by rfl, fun W hW => ?_⟩) S0 ?_
      · go_simp
      refine wpAnyH_take (i := 5) (v := .func (.func 56) #[] #[]) rfl (by kernel_rfl) (by kernel_rfl) (by kernel_rfl) (fun _ _ _ h => h) (Or.inl ⟨by rfl, fun W hW => ?_⟩) S0 ?_
      · go_simp
      refine wpAnyH_take (i := 6) (v := .pointer (some ⟨q, 0, none⟩)) rfl (by kernel_rfl) (by kernel_rfl) (by kernel_rfl) (fun _ _ _ h => h) (Or.inl ⟨by rfl, fun W hW => ?_⟩) S0 ?_
      · go_simp
      refine wpAnyH_take (i := 7) (v := .pointer (some ⟨q, 0, none⟩)) rfl (by kernel_rfl) (by kernel_rfl) (by kernel_rfl) (fun _ _ _ h => h) (Or.inl ⟨by rfl, fun W hW => ?_⟩) S0 ?_
      · go_simp
      refine wpAnyH_take (i := 8) (v := .pointer (some ⟨q, 1, none⟩)) rfl (by kernel_rfl) (by kernel_rfl) (by kernel_rfl) (fun _ _ _ h => h) (Or.inl ⟨by rfl, fun W hW => ?_⟩) S0 ?_
      · go_simp
      refine wpAnyH_take (i := 9) (v := .slice (some ⟨cb, 0, none⟩) nb c) rfl (by kernel_rfl) (by kernel_rfl) (by kernel_rfl) (fun _ _ _ h => h) (Or.inl ⟨by rfl, fun W hW => ?_⟩) S0 ?_
      · have e := hW.cell cq hqc
        go_simp
      refine wpAnyH_take (i := 10) (v := .int .i64 k) rfl (by kernel_rfl) (by kernel_rfl) (by kernel_rfl) (fun _ _ _ h => h) (Or.inl ⟨by rfl, fun W hW => ?_⟩) S0 ?_
      · go_simp
      refine wpAnyH_take (i := 13) (v := .agg (bw (blk us k))) rfl (by kernel_rfl) (by kernel_rfl) (by kernel_rfl) (fun _ _ _ h => h) (Or.inl ⟨by rfl, fun W hW => ?_⟩) S0 ?_
      · refine exec_load_rowD (x := .tmp 10) (ty := 73) (g := wr.heap.size) rfl ?_ (hW.heap bY hwc) Tryd.underlying73 size_block
        go_simp
      refine wpAnyH_all (rs := [11]) (by kernel_rfl) (by simp) ?_
      intro i hi
      obtain rfl : i = 11 := by simpa using hi
      unfold wpOp
      go_simp
      refine Or.inl ?_
      refine wpAnyH_all (rs := [12]) (by kernel_rfl) (by simp) ?_
      intro i hi
      obtain rfl : i = 12 := by simpa using hi
      unfold wpOp
      refine Or.inl ?_
      have R0 := RY.out.kept T0 (fun f => f)
      refine wp_load_mid 73 (.tmp 48) rfl cb (k * 4) rfl [.int .u64 (blk ws k 0 : Nat), .int .u64 (blk ws k 1 : Nat), .int .u64 (blk ws k 2 : Nat), .int .u64 (blk ws k 3 : Nat)] _ ?_ Tryd.underlying73 rfl size_block ?_
      · obtain ⟨r0, r1, r2, r3⟩ := R0.blk HKK.out.1
        rw [mix_blk _ _ _ _ (by decide)] at r0 r1 r2 r3
        intro j v hv
        match j, hv with
        | 0, hv => cases hv; exact r0
        | 1, hv => cases hv; exact r1
        | 2, hv => cases hv; exact r2
        | 3, hv => cases hv; exact r3
      clear R0
      refine ⟨S0, ?_⟩
      rw [show (Value.agg [.int .u64 (blk ws k 0 : Nat), .int .u64 (blk ws k 1 : Nat), .int .u64 (blk ws k 2 : Nat), .int .u64 (blk ws k 3 : Nat)].toArray) = .agg (bw (blk ws k)) from rfl]
      refine wpAnyH_all (rs := [14]) (by kernel_rfl) (by simp) ?_
      intro i hi
      obtain rfl : i = 14 := by simpa using hi
      have E2 := hideD (MN.out _ T0)
      unfold wpOp
      go_simp
      first | refine E2.out.mono ?_ | refine Or.inl (E2.out.mono ?_)
      rintro r W7 ⟨rfl, K7⟩
      refine ⟨K7.out.mono (fun _ f => f.elim), ?_⟩
      refine wpAnyH_all (rs := [15]) (by kernel_rfl) (by simp) ?_
      intro i hi
      obtain rfl : i = 15 := by simpa using hi
      unfold wpOp
      go_simp
      refine Or.inl ⟨K7.out.mono (fun _ f => f.elim), ?_⟩
      refine wpAnyH_all (rs := [16]) (by kernel_rfl) (by simp) ?_
      intro i hi
      obtain rfl : i = 16 := by simpa using hi
      unfold wpOp
      refine Or.inl ?_
      have R7 := RY.out.kept K7.out (fun f => f)
      refine wp_store_mid 73 (.tmp 52) (.tmp 51) rfl cb (k * 4) (bw (minusB (blk ws k) (blk us k))) rfl rfl (R7.there HKK.out.1) size_block (bw_all _) ?_
      have R8 := R7.storeB HKK.out.1 (minusB (blk ws k) (blk us k))
      have kZ := kept_storeB W7 cb (k * 4) (minusB (blk ws k) (blk us k))
      obtain ⟨Z, hZ⟩ : ∃ Z, Z = W7.setCells cb (k * 4) (bw (minusB (blk ws k) (blk us k))).toList := ⟨_, rfl⟩
      rw [← hZ] at R8 kZ ⊢
      have sZ : Kept (fun i => i = cb) Y Z := (K7.out.mono (fun _ f => f.elim)).trans kZ (fun i e => .inl e)
      refine ⟨sZ, wpAnyH_done (by kernel_rfl) ?_ _⟩
      have R9 : RowAt Z cb nb (mix (joinW minusB ws us) ws (k + 1)) := by
        refine R8.congr (fun i hi => mix_step _ _ k _ (fun r hr => ?_) i)
        unfold joinW
        rw [show (4 * k + r) / 4 = k by omega, show (4 * k + r) % 4 = r by omega]
      have HR9 := hideD R9
      have kWZ : Kept (fun i => i = cb) wr Z := (HKY.out.mono (fun _ f => f.elim)).trans sZ (fun i e => .inl e)
      have HZ := hideD (show Kept (fun i => i = cb) W1 Z from HK.out.trans kWZ (fun i e => .inl e))
      clear kWZ
      clear R7 R8 R9 kZ sZ hZ cq bY
      go_wp2
      go_round
      case rel => exact ⟨k + 1, by omega, by go_num, HR9, HZ⟩
      case measure => simp [intOf]; omega
    · obtain rfl : k = nb := by omega
      clear hSr
      go_wp2
      go_ret2
      have hqc : q ≠ cb := by have := HQ.out; omega
      refine ⟨q, cb, c, rfl, HQ.out.1, HQ.out.2.1, HQ.out.2.2, ⟨?_, ?_, fun i => minusB_ok (blk_ok HS.out.ok _) _, HS.out.small, HS1.out.cap, fun i hi => ?_⟩, HKw.out⟩
      · exact HK.out.heap HS1.out.box hqc
      · rw [← HN.out]
        exact HR.out.congr (fun i hi => by unfold mix; rw [if_pos hi])
      · rw [mem_joinM] at hi
        simp only [Bool.and_eq_true] at hi; exact HS.out.tight _ hi.1
end Go.Proofs.YtcbhgpdookappaaDoor.Ds
