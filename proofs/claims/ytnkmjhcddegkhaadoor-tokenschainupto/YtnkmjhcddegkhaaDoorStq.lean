import Derived.Test.YtnkmjhcddegkhaaDoorStp
namespace Go.Proofs.YtnkmjhcddegkhaaDoor
open Go.ChangeShapes Go.WideShapes Go.ChangeAt Go.RowKit

set_option maxRecDepth 20000 in
set_option maxHeartbeats 2000000 in
theorem stop_search (x : ByteArray) (bx : Nat) (w : World) (hx : w.cell? ⟨bx, 0, none⟩ = some (.string x)) (hS : StopsAt w) :
    Calls Tryd.prog 18 #[.int .i64 42, .func (.func 19) #[] #[.pointer (some ⟨bx, 0, none⟩)]] w fun e w' => ∃ r q : Nat, e = .returned (.int .i64 r) ∧ w' = w.drewN q ∧ r ≤ 42 ∧ (r = 0 ∨ stLess (r - 1) x = true) ∧ (r = 42 ∨ stLess r x = false) := by
  have HC : ∀ q i : Nat, i < 42 → Hid (Calls Tryd.prog 19 (#[.int .i64 i] ++ #[.pointer (some ⟨bx, 0, none⟩)]) (w.drewN q) fun e w' => e = .returned (.bool (!stLess i x)) ∧ ∃ q', w' = (w.drewN q).drewN q') := fun q i hi => stop_cl x bx i (w.drewN q) hi hx hS
  clear hx hS
  go_enter Tryd.func18, Tryd.ntmps18
  go_wp2
  go_loopw [5, 6] (fun s5 s6 wr => ∃ (lo hi q : Nat), lo ≤ hi ∧ hi ≤ 42 ∧ s5 = .int .i64 lo ∧ s6 = .int .i64 hi ∧ wr = w.drewN q ∧ Hid (lo = 0 ∨ stLess (lo - 1) x = true) ∧ Hid (hi = 42 ∨ stLess hi x = false)) (fun s5 s6 _ => (intOf s6).toNat - (intOf s5).toNat)
  case atStart => exact ⟨0, 42, 0, by omega, by omega, rfl, rfl, rfl, Or.inl rfl, Or.inl rfl⟩
  case round =>
    obtain ⟨lo, hi, q, hlh, hh, rfl, rfl, rfl, H1, H2⟩ := hrel
    by_cases hlt : lo < hi
    · have hc := HC q ((lo + hi) / 2) (by omega)
      obtain ⟨m, hm⟩ : ∃ m, m = (lo + hi) / 2 := ⟨_, rfl⟩
      rw [← hm] at hc
      have em : ((lo : Int) + (hi : Int)) / 2 = (m : Int) := by omega
      have m1 : lo ≤ m := by omega
      have m2 : m < hi := by omega
      clear hm HC
      cases hb : stLess m x with
      | true =>
        rw [hb] at hc
        have HB := hideS hb
        clear hb
        go_wp2_with (go_at_call 19; refine hc.out.mono ?_; rintro e w' ⟨rfl, q', rfl⟩)
        go_roundw
        case rel => exact ⟨m + 1, hi, q + q', by omega, by omega, by go_num, rfl, rfl, Or.inr (by rw [Nat.add_sub_cancel]; exact HB.out), H2⟩
        case measure => simp [intOf]; omega
      | false =>
        rw [hb] at hc
        have HB := hideS hb
        clear hb
        go_wp2_with (go_at_call 19; refine hc.out.mono ?_; rintro e w' ⟨rfl, q', rfl⟩)
        go_roundw
        case rel => exact ⟨lo, m, q + q', by omega, by omega, rfl, by go_num, rfl, H1, Or.inr HB.out⟩
        case measure => simp [intOf]; omega
    · obtain rfl : hi = lo := by omega
      go_wp2
      go_ret
      exact ⟨hi, q, rfl, rfl, hh, H1.out, H2.out⟩
set_option maxRecDepth 20000 in
set_option maxHeartbeats 2000000 in
theorem isStop_any (x : ByteArray) (w : World) (hS : StopsAt w) :
    Calls Tryd.prog 9 #[.string x] w fun e w' => e = .returned (.bool (isSt x)) ∧ Kept (fun _ => False) w w' := by
  have K0 := hideS (Kept.alloc w (.cells #[.string x] 9))
  have HS1 := hideS (hS.kept K0.out (fun f => f))
  have HC := hideS (stop_search x w.heap.size (w.alloc (.cells #[.string x] 9)) (by simp) HS1.out)
  have HF := hideS (isSt_found x)
  have HE := hideS (isSt_end x)
  generalize isSt x = B at HF HE ⊢
  clear hS
  go_enter Tryd.func9, Tryd.ntmps9
  go_wp2_with (go_at_call 18; refine HC.out.mono ?_; clear HC; rintro e w' ⟨r, q, rfl, rfl, h1, h2, h3⟩)
  by_cases hr : r < 42
  · have hB := HF.out r h2 h3 hr
    have hc := HS1.out r hr
    generalize stB r = s at hB hc
    have hrz : (r : Int) < 42 := by omega
    have hc1 : ((w.alloc (.cells #[.string x] 9)).drewN q).cell? ⟨0, r, none⟩ = some (.string s) := hc
    have K1 : Hid (Kept (fun _ => False) w ((w.alloc (.cells #[.string x] 9)).drewN q)) := hideS ⟨K0.out.os, K0.out.tape, K0.out.output, K0.out.size, K0.out.block⟩
    have hx1 : ((w.alloc (.cells #[.string x] 9)).drewN q).cell? ⟨w.heap.size, 0, none⟩ = some (.string x) := by show (w.alloc (.cells #[.string x] 9)).cell? ⟨w.heap.size, 0, none⟩ = _; simp
    clear HS1 HF HE h2 h3 hc K0
    generalize (w.alloc (.cells #[.string x] 9)).drewN q = W at hc1 hx1 K1 ⊢
    go_region
    all_goals go_wp2
    all_goals go_ret
    all_goals exact ⟨rfl, K1.out.trans (Kept.drew _) (fun _ f => f.elim)⟩
  · obtain rfl : r = 42 := by omega
    have hB := HE.out (h2.resolve_left (by decide))
    subst hB
    have K1 : Hid (Kept (fun _ => False) w ((w.alloc (.cells #[.string x] 9)).drewN q)) := hideS ⟨K0.out.os, K0.out.tape, K0.out.output, K0.out.size, K0.out.block⟩
    clear HS1 HF HE h2 h3 K0
    generalize (w.alloc (.cells #[.string x] 9)).drewN q = W at K1 ⊢
    go_region
    all_goals go_wp2
    all_goals go_ret
    all_goals exact ⟨rfl, K1.out.trans (Kept.drew _) (fun _ f => f.elim)⟩
end Go.Proofs.YtnkmjhcddegkhaaDoor
