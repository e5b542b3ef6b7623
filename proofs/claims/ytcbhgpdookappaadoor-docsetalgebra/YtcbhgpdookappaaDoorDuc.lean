import Derived.Test.YtcbhgpdookappaaDoorDub
import Derived.Test.YtcbhgpdookappaaDoorDtv
namespace Go.Proofs.YtcbhgpdookappaaDoor.Ds
open Go.ChangeShapes Go.WideShapes Go.ChangeAt Go.RowKit

theorem cutB_congr {ws vs : Nat → Nat} {n j : Nat} (hj : j < nbOf n) (h : eqW ws vs (4 * nbOf n) = true) : cutB (blk ws j) = cutB (blk vs j) := by
  rw [eqW_iff] at h
  funext i
  unfold cutB blk
  by_cases hi : i < 4
  · rw [if_pos hi, if_pos hi]
    exact h _ (by omega)
  · rw [if_neg hi, if_neg hi]
theorem encU_congr {ws vs : Nat → Nat} {n : Nat} (h : eqW ws vs (4 * nbOf n) = true) : ∀ k, k ≤ nbOf n → encU ws n k = encU vs n k
  | 0, _ => by simp only [encU, List.range_zero, List.flatMap_nil]
  | k + 1, hk => by rw [encU_succ, encU_succ, encU_congr h k (by omega), encJ, encJ, cutB_congr (by omega) h]
theorem encS_congr {ws vs : Nat → Nat} {n : Nat} (h : eqW ws vs (4 * nbOf n) = true) : encS n ws = encS n vs := by
  rw [encS, encS, encU_congr h _ (Nat.le_refl _)]
theorem eqW_symm (ws vs : Nat → Nat) (n : Nat) : eqW ws vs n = eqW vs ws n := by
  rw [Bool.eq_iff_iff, eqW_iff, eqW_iff]
  exact ⟨fun h k hk => (h k hk).symm, fun h k hk => (h k hk).symm⟩
theorem eqS_self (A : List Int) : eqS A A = true := by simp [eqS]
set_option maxRecDepth 20000 in
set_option maxHeartbeats 2000000 in
theorem alike_any (p rb q vb n c d : Nat) (ws vs : Nat → Nat) (w : World) (h1 : SetAt w p rb n c ws) (h2 : SetAt w q vb n d vs) (hD : DbAt w) :
    Calls Tryd.prog 28 #[.pointer (some ⟨p, 0, none⟩), .pointer (some ⟨q, 0, none⟩)] w fun e w' => e = .returned (.bool (eqW ws vs (4 * nbOf n))) ∧ Kept (fun _ => False) w w' := by
  have E1 := hideD (equalSet_any p rb q vb n c d ws vs w h1 h2)
  have KD := hideD (fun m => show Kept (fun _ => False) w (w.drewN m) from ⟨rfl, rfl, rfl, Nat.le_refl _, fun _ _ _ => rfl⟩)
  cases hR : eqW ws vs (4 * nbOf n) with
  | false =>
    rw [hR] at E1
    clear h1 h2 hD hR
    go_enter Tryd.func28, Tryd.ntmps28
    go_wp2_with (go_at_call 17; refine E1.out.mono ?_; rintro e W1 ⟨rfl, m, rfl⟩)
    go_ret
    exact ⟨rfl, KD.out m⟩
  | true =>
    have HL := encS_congr hR
    obtain ⟨L, hL⟩ : ∃ L, L = encS n ws := ⟨_, rfl⟩
    have E2 := hideD (fun W (k : Kept (fun _ => False) w W) => equalSet_any q vb p rb n d c vs ws W (h2.kept k (fun f => f) (fun f => f)) (h1.kept k (fun f => f) (fun f => f)))
    have E3 := hideD (fun W (k : Kept (fun _ => False) w W) => encode_any p rb n c ws W (h1.kept k (fun f => f) (fun f => f)) (DbAt.keptW hD k (fun f => f)))
    have E4 := hideD (fun W (k : Kept (fun _ => False) w W) => encode_any q vb n d vs W (h2.kept k (fun f => f) (fun f => f)) (DbAt.keptW hD k (fun f => f)))
    rw [hR] at E1
    rw [eqW_symm, hR] at E2
    rw [← HL, ← hL] at E4
    rw [← hL] at E3
    clear h1 h2 hD hR HL hL
    go_enter Tryd.func28, Tryd.ntmps28
    go_wp2_with fail
    go_at_call 17
    refine E1.out.mono ?_
    rintro e W1 ⟨rfl, m1, rfl⟩
    go_wp2_with fail
    go_at_call 17
    refine (E2.out _ (KD.out m1)).mono ?_
    rintro e W2 ⟨rfl, m2, rfl⟩
    have K2 := hideD (show Kept (fun _ => False) w ((w.drewN m1).drewN m2) from ⟨rfl, rfl, rfl, Nat.le_refl _, fun _ _ _ => rfl⟩)
    obtain ⟨W2, hW2⟩ : ∃ W2, W2 = (w.drewN m1).drewN m2 := ⟨_, rfl⟩
    rw [← hW2] at K2 ⊢
    clear hW2
    go_wp2_with fail
    go_at_call 11
    refine (E3.out _ K2.out).mono ?_
    rintro e W3 ⟨g3, rfl, -, o3, k3⟩
    have K3 := hideD (K2.out.trans k3 (fun _ f => f.elim))
    have B3 := hideD (bytes_rowV o3)
    clear o3 k3
    go_wp2_with fail
    go_at_call 11
    refine (E4.out _ K3.out).mono ?_
    rintro e W4 ⟨g4, rfl, -, o4, k4⟩
    have K4 := hideD (K3.out.trans k4 (fun _ f => f.elim))
    have B4 := hideD (bytes_rowV o4)
    have B34 := hideD (BytesAt.keptS B3.out k4)
    have CQ := hideD (equalS_any L L _ _ L.length L.length W4 B34.out B4.out)
    rw [eqS_self] at CQ
    clear o4 k4
    go_wp2_with fail
    go_at_call 10
    refine CQ.out.mono ?_
    rintro e W5 ⟨rfl, e5⟩
    subst e5
    go_wp2_with fail
    go_ret
    exact ⟨rfl, K4.out⟩
end Go.Proofs.YtcbhgpdookappaaDoor.Ds
