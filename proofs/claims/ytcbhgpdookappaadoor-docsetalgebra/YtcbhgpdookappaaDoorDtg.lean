import Derived.Test.YtcbhgpdookappaaDoorDtf
import Derived.Test.YtcbhgpdookappaaDoorNma
import Derived.BigRegion
namespace Go.Proofs.YtcbhgpdookappaaDoor.Ds
open Go.ChangeShapes Go.WideShapes Go.ChangeAt Go.RowKit

theorem SetAt.put {W : World} {p rb n cap : Nat} {ws : Nat → Nat} (h : SetAt W p rb n cap ws) {k : Nat} (hk : k < n) : SetAt (W.setCell ⟨rb, k / 64, none⟩ (.int .u64 ((ws (k / 64) ||| 2 ^ (k % 64) : Nat) : Int))) p rb n cap (putW ws k) :=
  ⟨(Kept.setCell W ⟨rb, k / 64, none⟩ _).heap h.box h.ne, h.row.put (word_lt hk) _, putW_ok h.ok k, h.small, h.cap, fun i hi => by
    rw [mem_putW] at hi
    rcases Bool.or_eq_true_iff.1 hi with h1 | h1
    · exact h.tight i h1
    · have : i = k := by simpa using h1
      omega⟩
theorem SetAt.off {W : World} {p rb n cap : Nat} {ws : Nat → Nat} (h : SetAt W p rb n cap ws) {k : Nat} (hk : k < n) : SetAt (W.setCell ⟨rb, k / 64, none⟩ (.int .u64 ((ws (k / 64) ^^^ (ws (k / 64) &&& 2 ^ (k % 64)) : Nat) : Int))) p rb n cap (offW ws k) :=
  ⟨(Kept.setCell W ⟨rb, k / 64, none⟩ _).heap h.box h.ne, h.row.put (word_lt hk) _, offW_ok h.ok k, h.small, h.cap, fun i hi => by
    rw [mem_offW] at hi
    exact h.tight i (Bool.and_eq_true_iff.1 hi).1⟩
set_option maxRecDepth 20000 in
set_option maxHeartbeats 1000000 in
theorem add_in (p rb n cap : Nat) (ws : Nat → Nat) (k : Nat) (hk : k < n) (w : World) (h : SetAt w p rb n cap ws) :
    Calls Tryd.prog 16 #[.pointer (some ⟨p, 0, none⟩), .int .i64 k] w fun e w' => e = .returned (.tuple #[.bool (!mem ws k), .nilIface]) ∧ SetAt w' p rb n cap (putW ws k) ∧ Kept (fun i => i = rb) w w' := by
  have IN := hideD (inside_any p rb n cap ws k w h)
  have HS := hideD (has_any p rb n cap ws k w h)
  have hdec : decide (0 ≤ (k : Int) ∧ (k : Int) < n) = true := by simp [hk]
  have hv : inS n ws (k : Int) = mem ws k := by unfold inS; rw [hdec]; rfl
  rw [hdec] at IN
  rw [hv] at HS
  have hj : k / 256 < nbOf n := by unfold nbOf; omega
  have hn := h.small
  have hj2 : 0 ≤ (k : Int) / 256 ∧ (k : Int) / 256 < (nbOf n : Nat) := by omega
  have hd : k / 256 * 4 + k % 256 / 64 = k / 64 := by omega
  have NX := hideD (fun (W2 : World) (K2 : Kept (fun _ => False) w W2) => show W2.cell? ⟨p, 1, none⟩ = some (.slice (some ⟨rb, 0, none⟩) (nbOf n) cap) ∧ Hid (Calls Tryd.prog 49 #[.pointer (some ⟨rb, k / 256 * 4, none⟩), .int .i64 (k % 256 : Nat)] W2 fun e w' => (∃ v, e = .returned v) ∧ SetAt w' p rb n cap (putW ws k) ∧ Kept (fun i => i = rb) w w') from by
    have h2 := h.same K2
    refine ⟨(cell_of_row _ _ _ _ _ _ h2.box).trans rfl, ?_⟩
    have := badd_any rb (k / 256 * 4) (k % 256) (ws (k / 64)) (by omega) (h.ok _) W2 (by rw [hd]; exact h2.row.cell (word_lt hk)) (h2.row.free _)
    rw [hd, show k % 256 % 64 = k % 64 by omega] at this
    refine hideD (this.mono ?_)
    rintro e w' ⟨h1, rfl⟩
    refine ⟨h1, (h2.put hk).same (Kept.drew _), ?_⟩
    exact ((K2.mono (fun _ f => f.elim)).trans (Kept.setCell _ ⟨rb, k / 64, none⟩ _) (fun i e => .inl e)).trans (Kept.drew _) (fun _ f => f.elim))
  obtain ⟨N, hN⟩ : ∃ N, N = nbOf n := ⟨_, rfl⟩
  rw [← hN] at hj hj2 NX
  clear hN h hv hdec hd
  go_enter Tryd.func16, Tryd.ntmps16
  go_wp2_with (first | (go_at_call 46; refine IN.out.mono ?_; rintro e W' ⟨rfl, rfl⟩) | (go_at_call 14; refine HS.out.mono ?_; rintro e W2 ⟨rfl, K2⟩; obtain ⟨c1, C2⟩ := NX.out W2 K2) | (go_at_call 49; refine C2.out.mono ?_; rintro e W3 ⟨⟨v, rfl⟩, SS, KK⟩))
  go_ret2
  exact ⟨rfl, SS, KK⟩
set_option maxRecDepth 20000 in
set_option maxHeartbeats 1000000 in
theorem remove_in (p rb n cap : Nat) (ws : Nat → Nat) (k : Nat) (hk : k < n) (w : World) (h : SetAt w p rb n cap ws) :
    Calls Tryd.prog 15 #[.pointer (some ⟨p, 0, none⟩), .int .i64 k] w fun e w' => e = .returned (.tuple #[.bool (mem ws k), .nilIface]) ∧ SetAt w' p rb n cap (offW ws k) ∧ Kept (fun i => i = rb) w w' := by
  have IN := hideD (inside_any p rb n cap ws k w h)
  have HS := hideD (has_any p rb n cap ws k w h)
  have hdec : decide (0 ≤ (k : Int) ∧ (k : Int) < n) = true := by simp [hk]
  have hv : inS n ws (k : Int) = mem ws k := by unfold inS; rw [hdec]; rfl
  rw [hdec] at IN
  rw [hv] at HS
  have hj : k / 256 < nbOf n := by unfold nbOf; omega
  have hn := h.small
  have hj2 : 0 ≤ (k : Int) / 256 ∧ (k : Int) / 256 < (nbOf n : Nat) := by omega
  have hd : k / 256 * 4 + k % 256 / 64 = k / 64 := by omega
  have NX := hideD (fun (W2 : World) (K2 : Kept (fun _ => False) w W2) => show W2.cell? ⟨p, 1, none⟩ = some (.slice (some ⟨rb, 0, none⟩) (nbOf n) cap) ∧ Hid (Calls Tryd.prog 48 #[.pointer (some ⟨rb, k / 256 * 4, none⟩), .int .i64 (k % 256 : Nat)] W2 fun e w' => (∃ v, e = .returned v) ∧ SetAt w' p rb n cap (offW ws k) ∧ Kept (fun i => i = rb) w w') from by
    have h2 := h.same K2
    refine ⟨(cell_of_row _ _ _ _ _ _ h2.box).trans rfl, ?_⟩
    have := bremove_any rb (k / 256 * 4) (k % 256) (ws (k / 64)) (by omega) (h.ok _) W2 (by rw [hd]; exact h2.row.cell (word_lt hk)) (h2.row.free _)
    rw [hd, show k % 256 % 64 = k % 64 by omega] at this
    refine hideD (this.mono ?_)
    rintro e w' ⟨h1, rfl⟩
    refine ⟨h1, (h2.off hk).same (Kept.drew _), ?_⟩
    exact ((K2.mono (fun _ f => f.elim)).trans (Kept.setCell _ ⟨rb, k / 64, none⟩ _) (fun i e => .inl e)).trans (Kept.drew _) (fun _ f => f.elim))
  obtain ⟨N, hN⟩ : ∃ N, N = nbOf n := ⟨_, rfl⟩
  rw [← hN] at hj hj2 NX
  clear hN h hv hdec hd
  go_enter Tryd.func15, Tryd.ntmps15
  go_wp2_with (first | (go_at_call 46; refine IN.out.mono ?_; rintro e W' ⟨rfl, rfl⟩) | (go_at_call 14; refine HS.out.mono ?_; rintro e W2 ⟨rfl, K2⟩; obtain ⟨c1, C2⟩ := NX.out W2 K2) | (go_at_call 48; refine C2.out.mono ?_; rintro e W3 ⟨⟨v, rfl⟩, SS, KK⟩))
  go_ret2
  exact ⟨rfl, SS, KK⟩
set_option maxRecDepth 20000 in
set_option maxHeartbeats 1000000 in
theorem add_out (p rb n cap : Nat) (ws : Nat → Nat) (i : Int) (hi : ¬ (0 ≤ i ∧ i < n)) (w : World) {ad : Nat → Addr} (h : SetAt w p rb n cap ws) (hE : Errs14 w ad) :
    Calls Tryd.prog 16 #[.pointer (some ⟨p, 0, none⟩), .int .i64 i] w fun e w' => e = .returned (.tuple #[.bool false, .iface 112 (.pointer (some (ad 7)))]) ∧ Kept (fun _ => False) w w' := by
  have IN := hideD (inside_any p rb n cap ws i w h)
  have hdec : decide (0 ≤ i ∧ i < n) = false := by simp; omega
  rw [hdec] at IN
  have v7 := hE.s7.var
  clear hdec hi h hE
  go_enter Tryd.func16, Tryd.ntmps16
  go_wp2_with (first | (go_at_call 46; refine IN.out.mono ?_; rintro e W' ⟨rfl, rfl⟩))
  go_region
  go_wp2
  go_ret2
  exact ⟨rfl, Kept.drew _⟩
set_option maxRecDepth 20000 in
set_option maxHeartbeats 1000000 in
theorem remove_out (p rb n cap : Nat) (ws : Nat → Nat) (i : Int) (hi : ¬ (0 ≤ i ∧ i < n)) (w : World) {ad : Nat → Addr} (h : SetAt w p rb n cap ws) (hE : Errs14 w ad) :
    Calls Tryd.prog 15 #[.pointer (some ⟨p, 0, none⟩), .int .i64 i] w fun e w' => e = .returned (.tuple #[.bool false, .iface 112 (.pointer (some (ad 7)))]) ∧ Kept (fun _ => False) w w' := by
  have IN := hideD (inside_any p rb n cap ws i w h)
  have hdec : decide (0 ≤ i ∧ i < n) = false := by simp; omega
  rw [hdec] at IN
  have v7 := hE.s7.var
  clear hdec hi h hE
  go_enter Tryd.func15, Tryd.ntmps15
  go_wp2_with (first | (go_at_call 46; refine IN.out.mono ?_; rintro e W' ⟨rfl, rfl⟩))
  go_region
  go_wp2
  go_ret2
  exact ⟨rfl, Kept.drew _⟩
end Go.Proofs.YtcbhgpdookappaaDoor.Ds
