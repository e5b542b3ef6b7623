import Derived.Test.YtnchamenhpppdaaDoorDcr
import Derived.Test.YtnchamenhpppdaaDoorTrr
import Derived.Test.YtnchamenhpppdaaDoorBase
namespace Go.Proofs.YtnchamenhpppdaaDoor
open Go.ChangeShapes Go.WideShapes Go.ChangeAt Go.RowKit

/-- '-007'. -/
def t007 : ByteArray := ⟨#[45, 48, 48, 55]⟩
theorem dec_007 : dec (ByteArray.mk #[45, 48, 48, 55]).data.toList = some (-7) := by decide +kernel

set_option maxRecDepth 20000 in
set_option maxHeartbeats 1000000 in
theorem numbers_walk (s T : ByteArray) (v y x : Int) (b c : Bool) (w : World)
    (c1 : Calls Tryd.prog 5 #[.string ⟨#[45, 48, 48, 55]⟩] w fun e w' => e = .returned (.tuple #[.int .i64 (-7), .bool true]) ∧ Below w.heap.size w w')
    (c2 : ∀ w1, Below w.heap.size w w1 → Calls Tryd.prog 5 #[.string s] w1 fun e w' => e = .returned (.tuple #[.int .i64 x, .bool b]) ∧ Below w1.heap.size w1 w')
    (c3 : ∀ w1, Calls Tryd.prog 6 #[.string s] w1 fun e w' => e = .returned (.tuple #[.int .i64 x, .bool b]) ∧ w' = w1)
    (c4 : ∀ w1, Calls Tryd.prog 7 #[.string s] w1 fun e w' => e = .returned (.tuple #[.int .i64 y, .bool c]) ∧ w' = w1)
    (c5 : ∀ w1, Calls Tryd.prog 8 #[.string s] w1 fun e w' => e = .returned (.tuple #[.int .i64 y, .bool c]) ∧ w' = w1)
    (c6 : ∀ w1, Calls Tryd.prog 9 #[.int .i64 v] w1 fun e w' => e = .returned (.string T) ∧ Below w1.heap.size w1 w')
    (c7 : ∀ w1, Calls Tryd.prog 10 #[.int .i64 v] w1 fun e w' => e = .returned (.string T) ∧ Below w1.heap.size w1 w') :
    Calls Tryd.prog 3 #[.string s, .int .i64 v] w fun e w' => e = .returned (.bool true) ∧ Below w.heap.size w w' := by
  go_enter Tryd.func3, Tryd.ntmps3
  go_wp2_with (first
    | (go_at_call 5; first | (refine c1.mono ?_; clear c1; rintro e w1 ⟨rfl, hb1⟩) | (refine (c2 _ hb1).mono ?_; clear c2; rintro e w2 ⟨rfl, hb2⟩))
    | (go_at_call 6; refine (c3 _).mono ?_; clear c3; rintro e w' ⟨rfl, rfl⟩)
    | (go_at_call 7; refine (c4 _).mono ?_; clear c4; rintro e w' ⟨rfl, rfl⟩)
    | (go_at_call 8; refine (c5 _).mono ?_; clear c5; rintro e w' ⟨rfl, rfl⟩)
    | (go_at_call 9; refine (c6 _).mono ?_; clear c6; rintro e w3 ⟨rfl, hb3⟩)
    | (go_at_call 10; refine (c7 _).mono ?_; clear c7; rintro e w4 ⟨rfl, hb4⟩))
  go_ret
  have k1 := Kept.of_below hb1
  have k2 := k1.trans (Kept.of_below hb2) (fun _ h => h.elim)
  have k3 := k2.trans (Kept.of_below hb3) (fun _ h => h.elim)
  have k4 := k3.trans (Kept.of_below hb4) (fun _ h => h.elim)
  exact ⟨rfl, k4.below (Nat.le_refl _) (fun _ _ f => f)⟩

theorem numbers_any (s : ByteArray) (v : Int) (w : World) (hl : s.size ≤ 140737488355328) (h0 : -9223372036854775808 ≤ v) (h1 : v ≤ 9223372036854775807) (ev0 ev1 : Value)
    (v0 : w.cell? ⟨0, 0, none⟩ = some ev0) (i0 : ∃ te pe, ev0 = .iface te pe) (v1 : w.cell? ⟨1, 0, none⟩ = some ev1) (i1 : ∃ te pe, ev1 = .iface te pe) :
    Calls Tryd.prog 3 #[.string s, .int .i64 v] w fun e w' => e = .returned (.bool true) ∧ Kept (fun _ => False) w w' := by
  have cc1 := parse_any ⟨#[45, 48, 48, 55]⟩ w (by decide) ev0 ev1 v0 i0 v1 i1
  rw [decV_some dec_007, decB_some dec_007] at cc1
  have cc2 : ∀ w1, Below w.heap.size w w1 → Calls Tryd.prog 5 #[.string s] w1 fun e w' => e = .returned (.tuple #[.int .i64 (decV s.data.toList), .bool (decB s.data.toList)]) ∧ Below w1.heap.size w1 w' := by
    intro w1 hb
    have k := Kept.of_below hb
    exact parse_any s w1 hl ev0 ev1 (k.cell v0 (fun f => f)) i0 (k.cell v1 (fun f => f)) i1
  by_cases hs : s.size = 8
  · refine (numbers_walk s (tm (wd v)) v _ _ _ true w cc1 cc2 (fun w1 => rparse_any s w1 hl) (fun w1 => num_any s w1 hs) (fun w1 => rnum_any s w1 hs) (fun w1 => term_any v w1 h0 h1) (fun w1 => rterm_any v w1 h0 h1)).mono ?_
    exact fun _ _ h => ⟨h.1, Kept.of_below h.2⟩
  · refine (numbers_walk s (tm (wd v)) v 0 _ _ false w cc1 cc2 (fun w1 => rparse_any s w1 hl) (fun w1 => num_no s w1 hs) (fun w1 => rnum_no s w1 hs) (fun w1 => term_any v w1 h0 h1) (fun w1 => rterm_any v w1 h0 h1)).mono ?_
    exact fun _ _ h => ⟨h.1, Kept.of_below h.2⟩
end Go.Proofs.YtnchamenhpppdaaDoor
