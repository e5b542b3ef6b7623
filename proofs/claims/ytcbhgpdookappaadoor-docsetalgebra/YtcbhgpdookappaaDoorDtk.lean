import Derived.Test.YtcbhgpdookappaaDoorDti
import Derived.BigRegion
import Derived.BigQuiet
import Derived.Deep.RegionHeld3
namespace Go.Proofs.YtcbhgpdookappaaDoor.Ds
open Go.ChangeShapes Go.WideShapes Go.ChangeAt Go.RowKit

theorem cnt_mono (ws : Nat → Nat) {a b : Nat} (h : a ≤ b) : cnt ws a ≤ cnt ws b := by
  induction b with
  | zero => obtain rfl : a = 0 := by omega
            exact Nat.le_refl _
  | succ b ih =>
    by_cases e : a = b + 1
    · rw [e]; exact Nat.le_refl _
    · rw [cnt]; have := ih (by omega); omega
def rankI (ws : Nat → Nat) (n : Nat) (i : Int) : Nat := cnt ws (min i.toNat n)
set_option maxRecDepth 20000 in
set_option maxHeartbeats 2000000 in
theorem rank_any (p rb n cap : Nat) (ws : Nat → Nat) (i : Int) (w : World) (h : SetAt w p rb n cap ws) :
    Calls Tryd.prog 21 #[.pointer (some ⟨p, 0, none⟩), .int .i64 i] w fun e w' => e = .returned (.int .i64 (rankI ws n i : Nat)) ∧ Kept (fun _ => False) w w' := by
  have c0 : w.cell? ⟨p, 0, none⟩ = some (.int .i64 n) := (cell_of_row _ _ _ _ _ _ h.box).trans rfl
  have c1 : w.cell? ⟨p, 1, none⟩ = some (.slice (some ⟨rb, 0, none⟩) (nbOf n) cap) := (cell_of_row _ _ _ _ _ _ h.box).trans rfl
  obtain ⟨m, hm⟩ : ∃ m, m = min i.toNat n := ⟨_, rfl⟩
  have hn := h.small
  have hmn : m ≤ n := by omega
  obtain ⟨x, hx⟩ : ∃ x, (if i < 0 then (0 : Int) else i) = x := ⟨_, rfl⟩
  have hmi : (if (n : Int) < x then (n : Int) else x) = (m : Int) := by rw [← hx]; split <;> split <;> omega
  have hb : m / 256 ≤ nbOf n := by unfold nbOf; omega
  have hcp := h.cap
  have hr : rankI ws n i = cnt ws m := by unfold rankI; rw [hm]
  have HS := hideD h
  rw [hr]
  obtain ⟨N, hN⟩ : ∃ N, N = nbOf n := ⟨_, rfl⟩
  rw [← hN] at c1 hb hcp
  clear hN h hr hm
  go_enter Tryd.func21, Tryd.ntmps21
  go_wp2
  · go_loopw [7, 28] (fun s iw wr => ∃ k : Nat, k ≤ m / 256 ∧ iw = .int .i64 k ∧ s = .int .i64 (cnt ws (256 * k) : Nat) ∧ Hid (Kept (fun _ => False) w wr)) (fun _ iw _ => m / 256 - (intOf iw).toNat)
    case atStart => exact ⟨0, by omega, rfl, rfl, hideD (Kept.refl _ _)⟩
    case round =>
      obtain ⟨k, hk, rfl, rfl, HK⟩ := hrel
      by_cases hlt : k < m / 256
      · have hS := HS.out.same HK.out
        have hkb : k < nbOf n := by unfold nbOf; omega
        obtain ⟨d0, d1, d2, d3⟩ := hS.row.blk hkb
        have hki : 0 ≤ (k : Int) ∧ (k : Int) < (m / 256 : Nat) := by omega
        clear hS hkb
        have BC := hideD (fun W => bcount_any (blk ws k) (blk_ok HS.out.ok k) W)
        have hle := cnt_le ws (256 * (k + 1))
        have hs := hideD (cnt_blk ws k)
        have hp : cnt ws (256 * k) + psum (blk ws k) 4 ≤ 1048832 := by rw [← hs.out]; omega
        obtain ⟨s, hS⟩ : ∃ s, s = cnt ws (256 * k) := ⟨_, rfl⟩
        obtain ⟨q, hQ⟩ : ∃ q, q = psum (blk ws k) 4 := ⟨_, rfl⟩
        rw [← hS, ← hQ] at hs hp
        rw [← hQ] at BC
        rw [← hS]
        clear hS hQ hle
        go_wp2_with (go_at_call 52; refine (BC.out _).mono ?_; rintro e W2 ⟨rfl, K2⟩; have HK2 := hideD K2; clear K2)
        go_round
        case rel =>
          refine ⟨k + 1, by omega, by go_num, by rw [hs.out]; go_num, hideD ?_⟩
          exact (HK.out.trans (Kept.alloc _ _) (fun _ f => f.elim)).trans HK2.out (fun _ f => f.elim)
        case measure => simp [intOf]; omega
      · obtain rfl : k = m / 256 := by omega
        have hS := HS.out.same HK.out
        clear hlt hk
        by_cases hz : m % 256 = 0
        · have he : cnt ws (256 * (m / 256)) = cnt ws m := by congr 1; omega
          have HE := hideD he
          have hz2 : (m : Int) % 256 = 0 := by omega
          clear he hS hz
          go_wp2
          go_ret
          exact ⟨by rw [← HE.out]; rfl, HK.out⟩
        · have hkb : m / 256 < nbOf n := by unfold nbOf; omega
          obtain ⟨d0, d1, d2, d3⟩ := hS.row.blk hkb
          have hc1 : wr.cell? ⟨p, 1, none⟩ = some (.slice (some ⟨rb, 0, none⟩) (nbOf n) cap) := (cell_of_row _ _ _ _ _ _ hS.box).trans rfl
          have NX := hideD (fun (W2 : World) (K2 : Kept (fun _ => False) wr W2) => show W2.cell? ⟨p, 1, none⟩ = some (.slice (some ⟨rb, 0, none⟩) (nbOf n) cap) ∧ W2.cell? ⟨rb, m / 256 * 4, none⟩ = some (.int .u64 (blk ws (m / 256) 0 : Nat)) ∧ W2.cell? ⟨rb, m / 256 * 4 + 1, none⟩ = some (.int .u64 (blk ws (m / 256) 1 : Nat)) ∧ W2.cell? ⟨rb, m / 256 * 4 + 2, none⟩ = some (.int .u64 (blk ws (m / 256) 2 : Nat)) ∧ W2.cell? ⟨rb, m / 256 * 4 + 3, none⟩ = some (.int .u64 (blk ws (m / 256) 3 : Nat)) from by
            have h2 := hS.same K2
            exact ⟨(cell_of_row _ _ _ _ _ _ h2.box).trans rfl, h2.row.blk hkb⟩)
          have hki : 0 ≤ (m : Int) / 256 ∧ (m : Int) / 256 < (nbOf n : Nat) := by omega
          have hzp : 0 < (m : Int) % 256 := by omega
          have hto : ((m : Int) / 256).toNat = m / 256 := by omega
          have hr := cnt_rest ws (m / 256) (m % 256) (by omega)
          rw [show 256 * (m / 256) + m % 256 = m by omega] at hr
          have LO := hideD (fun W => lowest_any (m % 256) (by omega) W)
          have AN := hideD (fun W => and_any (blk ws (m / 256)) (lw (m % 256)) (blk_ok HS.out.ok _) (lw_lt _) W)
          have BC := hideD (fun W => bcount_any (andB (blk ws (m / 256)) (lw (m % 256))) (andB_ok (blk_ok HS.out.ok _)) W)
          have hle := cnt_le ws m
          have hp : cnt ws (256 * (m / 256)) + psum (andB (blk ws (m / 256)) (lw (m % 256))) 4 ≤ 1048832 := by rw [← hr]; omega
          have HR := hideD hr
          obtain ⟨s, hS2⟩ : ∃ s, s = cnt ws (256 * (m / 256)) := ⟨_, rfl⟩
          obtain ⟨q, hQ⟩ : ∃ q, q = psum (andB (blk ws (m / 256)) (lw (m % 256))) 4 := ⟨_, rfl⟩
          rw [← hS2, ← hQ] at HR hp
          rw [← hQ] at BC
          rw [← hS2]
          clear hS hS2 hQ hle hr hz hcp
          go_wp2
          go_region_held3 (fun W2 => W2.cell? ⟨p, 1, none⟩ = some (.slice (some ⟨rb, 0, none⟩) (nbOf n) cap) ∧ W2.cell? ⟨rb, m / 256 * 4, none⟩ = some (.int .u64 (blk ws (m / 256) 0 : Nat)) ∧ W2.cell? ⟨rb, m / 256 * 4 + 1, none⟩ = some (.int .u64 (blk ws (m / 256) 1 : Nat)) ∧ W2.cell? ⟨rb, m / 256 * 4 + 2, none⟩ = some (.int .u64 (blk ws (m / 256) 2 : Nat)) ∧ W2.cell? ⟨rb, m / 256 * 4 + 3, none⟩ = some (.int .u64 (blk ws (m / 256) 3 : Nat)))
            (first
              | exact NX.out _ ((((Kept.drew _).trans HK2.out (fun _ f => f.elim)).trans HK3.out (fun _ f => f.elim)).trans HK4.out (fun _ f => f.elim))
              | exact NX.out _ (((Kept.drew _).trans HK2.out (fun _ f => f.elim)).trans HK3.out (fun _ f => f.elim))
              | exact NX.out _ ((Kept.drew _).trans HK2.out (fun _ f => f.elim))
              | exact NX.out _ (Kept.drew _))
            (first
              | (go_at_call 54; refine (LO.out _).mono ?_; rintro e W2 ⟨rfl, K2⟩; have HK2 := hideD K2; clear K2)
              | (go_at_call 53; refine (AN.out _).mono ?_; rintro e W3 ⟨rfl, K3⟩; have HK3 := hideD K3; clear K3)
              | (go_at_call 52; refine (BC.out _).mono ?_; rintro e W4 ⟨rfl, K4⟩; have HK4 := hideD K4; clear K4))
          all_goals
            go_wp2
            go_ret
            refine ⟨?_, HK.out.trans ((((Kept.drew _).trans HK2.out (fun _ f => f.elim)).trans HK3.out (fun _ f => f.elim)).trans HK4.out (fun _ f => f.elim)) (fun _ f => f.elim)⟩
            have hw : IntKind.i64.wrap ((s : Int) + (q : Int)) = ((s + q : Nat) : Int) := by rw [IntKind.wrap_i64]; omega
            rw [HR.out]
            show Ending.returned (.int .i64 (IntKind.i64.wrap ((s : Int) + (q : Int)))) = _
            rw [hw]
set_option maxRecDepth 20000 in
set_option maxHeartbeats 1000000 in
theorem count_any (p rb n cap : Nat) (ws : Nat → Nat) (w : World) (h : SetAt w p rb n cap ws) :
    Calls Tryd.prog 20 #[.pointer (some ⟨p, 0, none⟩)] w fun e w' => e = .returned (.int .i64 (cnt ws n : Nat)) ∧ Kept (fun _ => False) w w' := by
  have c0 : w.cell? ⟨p, 0, none⟩ = some (.int .i64 n) := (cell_of_row _ _ _ _ _ _ h.box).trans rfl
  have RK := hideD (rank_any p rb n cap ws n w h)
  have hr : rankI ws n (n : Int) = cnt ws n := by unfold rankI; simp
  rw [hr] at RK
  clear h hr
  go_enter Tryd.func20, Tryd.ntmps20
  go_wp2_with (go_at_call 21; refine RK.out.mono ?_; rintro e W2 ⟨rfl, K2⟩)
  go_ret
  exact ⟨rfl, K2⟩
end Go.Proofs.YtcbhgpdookappaaDoor.Ds
