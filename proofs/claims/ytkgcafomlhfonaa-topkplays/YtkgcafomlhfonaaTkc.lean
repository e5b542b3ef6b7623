import Derived.Test.YtkgcafomlhfonaaTkb
import Derived.OrdersHeld
import Derived.Deep.QuietTactic
import Derived.BigQuiet
import Derived.Sort.Grow
import Derived.Deep.Cut
import Derived.BigRegion
namespace Go.Proofs.Ytkgcafomlhfonaa.Tk
open Go.ChangeShapes Go.WideShapes Go.ChangeAt Go.RowKit

theorem hideT {p : Prop} (h : p) : Hid p := h
/-- The world has drawn, and new blocks have come. -/
def Gw (w w' : World) : Prop := ∃ q os, w' = Sort.grow (w.drewN q) os
theorem Gw.refl (w : World) : Gw w w := ⟨0, #[], by simp [Sort.grow, World.drewN]⟩
theorem gw_kept {w w' : World} (h : Gw w w') : Kept (fun _ => False) w w' := by
  obtain ⟨q, os, rfl⟩ := h
  refine ⟨rfl, rfl, rfl, ?_, fun k hk _ => ?_⟩
  · simp [Sort.grow, World.drewN]
  · simp only [Sort.grow, World.drewN]
    rw [Array.getElem?_append_left (by simpa [World.drewN] using hk)]
theorem Gw.alloc {w w' : World} (h : Gw w w') (o : Obj) : Gw w (w'.alloc o) := by
  obtain ⟨q, os, rfl⟩ := h
  exact ⟨q, _, by rw [Sort.alloc_eq_grow, Sort.grow_grow]⟩
theorem Gw.drew {w w' : World} (h : Gw w w') : Gw w w'.drew := by
  obtain ⟨q, os, rfl⟩ := h
  exact ⟨q + 1, os, rfl⟩
theorem Gw.trans {a b c : World} (h : Gw a b) (k : Gw b c) : Gw a c := by
  obtain ⟨q, os, rfl⟩ := h
  obtain ⟨r, os2, rfl⟩ := k
  refine ⟨q + r, os ++ os2, ?_⟩
  simp [Sort.grow, World.drewN, Nat.add_assoc, Array.append_assoc]
/-- cmp.Compare of two numbers. -/
def cmpI (x y : Int) : Int := if x < y then -1 else if y < x then 1 else 0
set_option maxHeartbeats 1000000 in
theorem isNaN_i (x : Int) (W : World) : Calls Try.prog 53 #[.int .i64 x] W fun e w' => e = .returned (.bool false) ∧ w' = W := by
  go_enter Try.func53, Try.ntmps53
  go_wp2
  go_ret
  simp
set_option maxHeartbeats 1000000 in
theorem isNaN_u (x : Int) (W : World) : Calls Try.prog 52 #[.int .u64 x] W fun e w' => e = .returned (.bool false) ∧ w' = W := by
  go_enter Try.func52, Try.ntmps52
  go_wp2
  go_ret
  simp
set_option maxHeartbeats 2000000 in
theorem compare_i (x y : Int) (W : World) : Calls Try.prog 40 #[.int .i64 x, .int .i64 y] W fun e w' => e = .returned (.int .i64 (cmpI x y)) ∧ w' = W := by
  have hx := isNaN_i x W
  have hy := isNaN_i y W
  unfold cmpI
  by_cases h : x < y
  · go_enter Try.func40, Try.ntmps40
    go_wp2_with (go_at_call 53; first | (refine hx.mono ?_; rintro e w' ⟨rfl, rfl⟩) | (refine hy.mono ?_; rintro e w' ⟨rfl, rfl⟩))
    go_ret
    simp
  · by_cases h2 : y < x
    · go_enter Try.func40, Try.ntmps40
      go_wp2_with (go_at_call 53; first | (refine hx.mono ?_; rintro e w' ⟨rfl, rfl⟩) | (refine hy.mono ?_; rintro e w' ⟨rfl, rfl⟩))
      go_ret
      simp
    · go_enter Try.func40, Try.ntmps40
      go_wp2_with (go_at_call 53; first | (refine hx.mono ?_; rintro e w' ⟨rfl, rfl⟩) | (refine hy.mono ?_; rintro e w' ⟨rfl, rfl⟩))
      go_ret
      simp
set_option maxHeartbeats 2000000 in
theorem compare_u (x y : Int) (W : World) : Calls Try.prog 39 #[.int .u64 x, .int .u64 y] W fun e w' => e = .returned (.int .i64 (cmpI x y)) ∧ w' = W := by
  have hx := isNaN_u x W
  have hy := isNaN_u y W
  unfold cmpI
  by_cases h : x < y
  · go_enter Try.func39, Try.ntmps39
    go_wp2_with (go_at_call 52; first | (refine hx.mono ?_; rintro e w' ⟨rfl, rfl⟩) | (refine hy.mono ?_; rintro e w' ⟨rfl, rfl⟩))
    go_ret
    simp
  · by_cases h2 : y < x
    · go_enter Try.func39, Try.ntmps39
      go_wp2_with (go_at_call 52; first | (refine hx.mono ?_; rintro e w' ⟨rfl, rfl⟩) | (refine hy.mono ?_; rintro e w' ⟨rfl, rfl⟩))
      go_ret
      simp
    · go_enter Try.func39, Try.ntmps39
      go_wp2_with (go_at_call 52; first | (refine hx.mono ?_; rintro e w' ⟨rfl, rfl⟩) | (refine hy.mono ?_; rintro e w' ⟨rfl, rfl⟩))
      go_ret
      simp
/-- cmp.Or of two numbers. -/
def orI (x y : Int) : Int := if x = 0 then y else x
set_option maxHeartbeats 2000000 in
theorem or_any (x y : Int) (b c : Nat) (W : World) (h0 : W.cell? ⟨b, 0, none⟩ = some (.int .i64 x)) (h1 : W.cell? ⟨b, 1, none⟩ = some (.int .i64 y)) :
    Calls Try.prog 38 #[.slice (some ⟨b, 0, none⟩) 2 c] W fun e w' => e = .returned (.int .i64 (orI x y)) ∧ w' = W := by
  unfold orI
  go_enter Try.func38, Try.ntmps38
  go_wp2
  go_loopw [8] (fun s8 wr => wr = W ∧ ∃ k : Nat, k ≤ 2 ∧ s8 = .int .i64 k ∧ Hid (0 < k → x = 0) ∧ Hid (1 < k → y = 0)) (fun s8 _ => 2 - (intOf s8).toNat)
  case atStart => exact ⟨rfl, 0, by omega, rfl, hideT (by omega), hideT (by omega)⟩
  case round =>
    obtain ⟨rfl, k, hk, rfl, HX, HY⟩ := hrel
    by_cases e0 : k = 0
    · subst e0
      by_cases hx : x = 0
      · subst hx
        go_wp2
        go_round
        case rel => exact ⟨by trivial, 1, by omega, by go_num, hideT (by simp), hideT (by omega)⟩
        case measure => simp [intOf]
      · go_wp2
        go_ret
        simp
    · have ex := HX.out (by omega)
      subst ex
      by_cases e1 : k = 1
      · subst e1
        by_cases hy : y = 0
        · subst hy
          go_wp2
          go_round
          case rel => exact ⟨by trivial, 2, by omega, by go_num, hideT (by simp), hideT (by simp)⟩
          case measure => simp [intOf]
        · go_wp2
          go_ret
          simp
      · obtain rfl : k = 2 := by omega
        have ey := HY.out (by omega)
        subst ey
        go_wp2
        go_ret
        simp
end Go.Proofs.Ytkgcafomlhfonaa.Tk
