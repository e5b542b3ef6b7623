import Derived.Test.YtjmmdklgkcbihaaDoorMrg5
import Derived.Test.YtjmmdklgkcbihaaDoorKwg
import Derived.Test.YtjmmdklgkcbihaaDoorHnk
import Derived.Test.YtjmmdklgkcbihaaDoorMrg3
import Derived.Test.YtjmmdklgkcbihaaDoorMrg1
import Derived.Test.YtjmmdklgkcbihaaDoorMrg4
import Derived.Test.YtjmmdklgkcbihaaDoorHnf
namespace Go.Proofs.YtjmmdklgkcbihaaDoor
open Go.ChangeShapes Go.WideShapes Go.ChangeAt Go.RowKit

theorem num_shoK {w : World} {ad : Nat → Addr} (h : Es8K w ad) : Calls Tryd.prog 22 #[errV (ad 0)] w fun e w' => e = .returned (.int .i64 1) ∧ w' = w := by
  have v0 := h.s0.var
  have e0 := errEqK w (ad 0)
  clear h
  unfold errV
  go_enter Tryd.func22, Tryd.ntmps22
  go_wp2
  go_ret
  exact ⟨rfl, rfl⟩
theorem num_varK {w : World} {ad : Nat → Addr} (h : Es8K w ad) : Calls Tryd.prog 22 #[errV (ad 1)] w fun e w' => e = .returned (.int .i64 2) ∧ w' = w := by
  have v0 := h.s0.var
  have v1 := h.s1.var
  have e0 := err_neqFK h.s1 h.s0 (by decide)
  have e1 := errEqK w (ad 1)
  clear h
  unfold errV
  go_enter Tryd.func22, Tryd.ntmps22
  go_wp2
  go_ret
  exact ⟨rfl, rfl⟩
/-- An error by its number. -/
def erK (ad : Nat → Addr) : Nat → Value
  | 0 => .nilIface
  | e + 1 => errV (ad e)
theorem num_erK {w : World} {ad : Nat → Addr} (h : Es8K w ad) (E : Nat) (hE : E ≤ 4 ∨ E = 8) : Calls Tryd.prog 22 #[erK ad E] w fun e w' => e = .returned (.int .i64 (E : Int)) ∧ w' = w := by
  rcases (show E = 0 ∨ E = 1 ∨ E = 2 ∨ E = 3 ∨ E = 4 ∨ E = 8 by omega) with rfl | rfl | rfl | rfl | rfl | rfl
  · exact num_nilK w
  · exact num_shoK h
  · exact num_varK h
  · exact num_limK h
  · exact num_ordK h
  · exact num_rngK h
theorem kset1K {W : World} {g i : Nat} {x : Value} : Kept (fun k => k = g) W (W.setCell ⟨g, i, none⟩ x) := Kept.setCell W ⟨g, i, none⟩ x
theorem kset2K {W : World} {g i j : Nat} {x y : Value} : Kept (fun k => k = g) W ((W.setCell ⟨g, i, none⟩ x).setCell ⟨g, j, none⟩ y) := (Kept.setCell W ⟨g, i, none⟩ x).trans (Kept.setCell _ ⟨g, j, none⟩ y) (fun _ e => .inl e)
theorem heap_put1K {W : World} {g h i : Nat} {x : Value} {o : Obj} (hn : g ≠ h) (hg : W.heap[g]? = some o) : (W.setCell ⟨h, i, none⟩ x).heap[g]? = some o := (Kept.setCell W ⟨h, i, none⟩ x).heap hg (fun e => hn e)
theorem look_set1K {W : World} {g i : Nat} {x : Value} {cs : Array Value} (h : W.heap[g]? = some (.cells cs 60 (0, 0))) : (W.setCell ⟨g, i, none⟩ x).heap[g]? = some (.cells (cs.set! i x) 60 (0, 0)) := heap_setCell_same W g i cs _ x h

set_option maxRecDepth 20000 in
set_option maxHeartbeats 4000000 in
theorem asked_1K (sec : Bool) (nn U ii : Int) (bv : Value) (s : ByteArray) (lv : Value) (br : Nat) (rv : Value) (l : List Int) (p nx : Nat) (x u : Int) (hx : IntKind.u64.wrap x = u) (ev : Value) (E : Int) (kv : Value) (w : World) (hR : Rd w br rv l p)
    (CR : Hid (∀ W, Kept (fun _ => False) w W → Calls Tryd.prog 45 #[.pointer (some ⟨br, 0, none⟩)] W fun e w' => e = .returned (.tuple #[.int .u8 x, ev]) ∧ Hid (Rd w' br rv l nx ∧ Kept (fun k => k = br) W w')))
    (CN : Hid (∀ W, Kept (fun k => k = br) w W → Calls Tryd.prog 22 #[ev] W fun e w' => e = .returned (.int .i64 E) ∧ w' = W)) :
    Calls Tryd.prog 23 #[.pointer (some ⟨br, 0, none⟩), .agg #[.int .i64 1, .bool sec, .int .i64 nn, .int .u64 U, .int .i64 ii, bv, .string s, lv], kv] w fun e w' => e = .returned (.agg #[.int .u64 u, .string ⟨#[]⟩, .slice none 0 0, .int .i64 (nx : Int), .int .i64 E]) ∧ Rd w' br rv l nx ∧ Kept (fun k => k = br) w w' := by
  have hbl : br < w.heap.size := lt_of_block hR.blk
  have hrl : ∀ k, rv.ownBlock = some k → k < w.heap.size := fun k e => (hR.own.lt k e).2
  have HRL := hideH hrl
  clear hR hrl
  go_enter Tryd.func23, Tryd.ntmps23
  go_wp2_with (go_at_call 45; refine StpH.go ?_)
  refine ⟨?_⟩
  refine (CR.out _ (three_newK _ _ _ _)).mono ?_
  clear CR
  rintro e W1 ⟨rfl, HP⟩
  obtain ⟨hr1, k1⟩ := HP.out
  have k0 := three_newK w (.cells #[.int .i64 1, .bool sec, .int .i64 nn, .int .u64 U, .int .i64 ii, bv, .string s, lv] 37) (.cells #[.int .u64 0, .string ⟨#[]⟩, .slice none 0 0, .int .i64 0, .int .i64 0] 60) (.cells #[.int .u64 0, .string ⟨#[]⟩, .slice none 0 0, .int .i64 0, .int .i64 0] 60)
  have kw1 : Kept (fun k => k = br) w W1 := (k0.mono (fun _ f => f.elim)).trans k1 (fun _ e => .inl e)
  have h7 := k1.heap (last_newK w _ _ _) (fun f => by have f2 : w.heap.size + 1 + 1 = br := f; omega)
  have h6 := k1.heap (mid_newK w _ _ _) (fun f => by have f2 : w.heap.size + 1 = br := f; omega)
  have c0 : W1.cell? ⟨w.heap.size + 1 + 1, 0, none⟩ = some (.int .u64 0) := by rw [cell_of_row _ _ 0 _ _ _ h7]; rfl
  have c1 : W1.cell? ⟨w.heap.size + 1 + 1, 1, none⟩ = some (.string ⟨#[]⟩) := by rw [cell_of_row _ _ 1 _ _ _ h7]; rfl
  have c2 : W1.cell? ⟨w.heap.size + 1 + 1, 2, none⟩ = some (.slice none 0 0) := by rw [cell_of_row _ _ 2 _ _ _ h7]; rfl
  have c3 : W1.cell? ⟨w.heap.size + 1 + 1, 3, none⟩ = some (.int .i64 0) := by rw [cell_of_row _ _ 3 _ _ _ h7]; rfl
  have c4 : W1.cell? ⟨w.heap.size + 1 + 1, 4, none⟩ = some (.int .i64 0) := by rw [cell_of_row _ _ 4 _ _ _ h7]; rfl
  have d0 : W1.cell? ⟨w.heap.size + 1, 0, none⟩ = some (.int .u64 0) := by rw [cell_of_row _ _ 0 _ _ _ h6]; rfl
  have d1 : W1.cell? ⟨w.heap.size + 1, 1, none⟩ = some (.string ⟨#[]⟩) := by rw [cell_of_row _ _ 1 _ _ _ h6]; rfl
  have d2 : W1.cell? ⟨w.heap.size + 1, 2, none⟩ = some (.slice none 0 0) := by rw [cell_of_row _ _ 2 _ _ _ h6]; rfl
  have d3 : W1.cell? ⟨w.heap.size + 1, 3, none⟩ = some (.int .i64 0) := by rw [cell_of_row _ _ 3 _ _ _ h6]; rfl
  have d4 : W1.cell? ⟨w.heap.size + 1, 4, none⟩ = some (.int .i64 0) := by rw [cell_of_row _ _ 4 _ _ _ h6]; rfl
  have f7 : ∀ j, W1.frozen? ⟨w.heap.size + 1 + 1, j, none⟩ = false := fun j => by simp [World.frozen?, h7]
  have f6 : ∀ j, W1.frozen? ⟨w.heap.size + 1, j, none⟩ = false := fun j => by simp [World.frozen?, h6]
  have HA : Hid (∀ W, Kept (fun k => k = w.heap.size + 1 + 1) W1 W → Calls Tryd.prog 20 #[.pointer (some ⟨br, 0, none⟩)] W fun e w' => e = .returned (.int .i64 (nx : Int)) ∧ w' = W) := hideH (fun W k => at_any br rv l nx W (hr1.kept k (fun f => by have f2 : br = w.heap.size + 1 + 1 := f; omega) (fun i e f => by have f2 : i = w.heap.size + 1 + 1 := f; have := HRL.out i e; omega)))
  have HN : Hid (∀ W, Kept (fun k => k = w.heap.size + 1 + 1) W1 W → Calls Tryd.prog 22 #[ev] W fun e w' => e = .returned (.int .i64 E) ∧ w' = W) := hideH (fun W k => CN.out W (kw1.trans k (fun i f => .inr (by have f2 : i = w.heap.size + 1 + 1 := f; omega))))
  have HR1 := hideH hr1
  have HKW := hideH kw1
  have H6 := hideH h6
  clear h6 h7 k0 k1 kw1 hr1 HP CN
  go_wp2_with (go_at_call 20; refine StpH.go ?_)
  refine ⟨?_⟩
  refine (HA.out _ ?_).mono ?_
  · exact kset1K
  clear HA
  rintro e W2 ⟨rfl, rfl⟩
  go_wp2_with (go_at_call 22; refine StpH.go ?_)
  refine ⟨?_⟩
  refine (HN.out _ ?_).mono ?_
  · exact kset2K
  clear HN
  rintro e W3 ⟨rfl, rfl⟩
  go_wp2_with fail
  refine bodyPost_ret (results_cellK rfl _ _ _ (w.heap.size + 1) _ rfl (load_lookK (by exact look_put5K (heap_put3K (by omega) H6.out)))) rfl ?_
  refine ⟨rfl, ?_, ?_⟩
  · exact HR1.out.kept (kept_put8K (z0 := w.heap.size) (z := w.heap.size + 3) ⟨by omega, by omega⟩ ⟨by omega, by omega⟩) (fun f => by have f2 := f.1; omega) (fun i e f => by have f2 := f.1; have := HRL.out i e; omega)
  · exact HKW.out.trans (kept_put8K (z0 := w.heap.size) (z := w.heap.size + 3) ⟨by omega, by omega⟩ ⟨by omega, by omega⟩) (fun _ e => .inr e.1)

set_option maxRecDepth 20000 in
set_option maxHeartbeats 4000000 in
theorem asked_2K (sec : Bool) (nn U ii : Int) (bv : Value) (s : ByteArray) (lv : Value) (br : Nat) (rv : Value) (l : List Int) (p nx : Nat) (u : Int) (ev : Value) (E : Int) (kv : Value) (w : World) (hR : Rd w br rv l p)
    (CR : Hid (∀ W, Kept (fun _ => False) w W → Calls Tryd.prog 28 #[.pointer (some ⟨br, 0, none⟩)] W fun e w' => e = .returned (.tuple #[.int .u64 u, ev]) ∧ Hid (Rd w' br rv l nx ∧ Kept (fun k => k = br) W w')))
    (CN : Hid (∀ W, Kept (fun k => k = br) w W → Calls Tryd.prog 22 #[ev] W fun e w' => e = .returned (.int .i64 E) ∧ w' = W)) :
    Calls Tryd.prog 23 #[.pointer (some ⟨br, 0, none⟩), .agg #[.int .i64 2, .bool sec, .int .i64 nn, .int .u64 U, .int .i64 ii, bv, .string s, lv], kv] w fun e w' => e = .returned (.agg #[.int .u64 u, .string ⟨#[]⟩, .slice none 0 0, .int .i64 (nx : Int), .int .i64 E]) ∧ Rd w' br rv l nx ∧ Kept (fun k => k = br) w w' := by
  have hbl : br < w.heap.size := lt_of_block hR.blk
  have hrl : ∀ k, rv.ownBlock = some k → k < w.heap.size := fun k e => (hR.own.lt k e).2
  have HRL := hideH hrl
  clear hR hrl
  go_enter Tryd.func23, Tryd.ntmps23
  go_wp2_with (go_at_call 28; refine StpH.go ?_)
  refine ⟨?_⟩
  refine (CR.out _ (three_newK _ _ _ _)).mono ?_
  clear CR
  rintro e W1 ⟨rfl, HP⟩
  obtain ⟨hr1, k1⟩ := HP.out
  have k0 := three_newK w (.cells #[.int .i64 2, .bool sec, .int .i64 nn, .int .u64 U, .int .i64 ii, bv, .string s, lv] 37) (.cells #[.int .u64 0, .string ⟨#[]⟩, .slice none 0 0, .int .i64 0, .int .i64 0] 60) (.cells #[.int .u64 0, .string ⟨#[]⟩, .slice none 0 0, .int .i64 0, .int .i64 0] 60)
  have kw1 : Kept (fun k => k = br) w W1 := (k0.mono (fun _ f => f.elim)).trans k1 (fun _ e => .inl e)
  have h7 := k1.heap (last_newK w _ _ _) (fun f => by have f2 : w.heap.size + 1 + 1 = br := f; omega)
  have h6 := k1.heap (mid_newK w _ _ _) (fun f => by have f2 : w.heap.size + 1 = br := f; omega)
  have c0 : W1.cell? ⟨w.heap.size + 1 + 1, 0, none⟩ = some (.int .u64 0) := by rw [cell_of_row _ _ 0 _ _ _ h7]; rfl
  have c1 : W1.cell? ⟨w.heap.size + 1 + 1, 1, none⟩ = some (.string ⟨#[]⟩) := by rw [cell_of_row _ _ 1 _ _ _ h7]; rfl
  have c2 : W1.cell? ⟨w.heap.size + 1 + 1, 2, none⟩ = some (.slice none 0 0) := by rw [cell_of_row _ _ 2 _ _ _ h7]; rfl
  have c3 : W1.cell? ⟨w.heap.size + 1 + 1, 3, none⟩ = some (.int .i64 0) := by rw [cell_of_row _ _ 3 _ _ _ h7]; rfl
  have c4 : W1.cell? ⟨w.heap.size + 1 + 1, 4, none⟩ = some (.int .i64 0) := by rw [cell_of_row _ _ 4 _ _ _ h7]; rfl
  have d0 : W1.cell? ⟨w.heap.size + 1, 0, none⟩ = some (.int .u64 0) := by rw [cell_of_row _ _ 0 _ _ _ h6]; rfl
  have d1 : W1.cell? ⟨w.heap.size + 1, 1, none⟩ = some (.string ⟨#[]⟩) := by rw [cell_of_row _ _ 1 _ _ _ h6]; rfl
  have d2 : W1.cell? ⟨w.heap.size + 1, 2, none⟩ = some (.slice none 0 0) := by rw [cell_of_row _ _ 2 _ _ _ h6]; rfl
  have d3 : W1.cell? ⟨w.heap.size + 1, 3, none⟩ = some (.int .i64 0) := by rw [cell_of_row _ _ 3 _ _ _ h6]; rfl
  have d4 : W1.cell? ⟨w.heap.size + 1, 4, none⟩ = some (.int .i64 0) := by rw [cell_of_row _ _ 4 _ _ _ h6]; rfl
  have f7 : ∀ j, W1.frozen? ⟨w.heap.size + 1 + 1, j, none⟩ = false := fun j => by simp [World.frozen?, h7]
  have f6 : ∀ j, W1.frozen? ⟨w.heap.size + 1, j, none⟩ = false := fun j => by simp [World.frozen?, h6]
  have HA : Hid (∀ W, Kept (fun k => k = w.heap.size + 1 + 1) W1 W → Calls Tryd.prog 20 #[.pointer (some ⟨br, 0, none⟩)] W fun e w' => e = .returned (.int .i64 (nx : Int)) ∧ w' = W) := hideH (fun W k => at_any br rv l nx W (hr1.kept k (fun f => by have f2 : br = w.heap.size + 1 + 1 := f; omega) (fun i e f => by have f2 : i = w.heap.size + 1 + 1 := f; have := HRL.out i e; omega)))
  have HN : Hid (∀ W, Kept (fun k => k = w.heap.size + 1 + 1) W1 W → Calls Tryd.prog 22 #[ev] W fun e w' => e = .returned (.int .i64 E) ∧ w' = W) := hideH (fun W k => CN.out W (kw1.trans k (fun i f => .inr (by have f2 : i = w.heap.size + 1 + 1 := f; omega))))
  have HR1 := hideH hr1
  have HKW := hideH kw1
  have H6 := hideH h6
  clear h6 h7 k0 k1 kw1 hr1 HP CN
  go_wp2_with (go_at_call 20; refine StpH.go ?_)
  refine ⟨?_⟩
  refine (HA.out _ ?_).mono ?_
  · exact kset1K
  clear HA
  rintro e W2 ⟨rfl, rfl⟩
  go_wp2_with (go_at_call 22; refine StpH.go ?_)
  refine ⟨?_⟩
  refine (HN.out _ ?_).mono ?_
  · exact kset2K
  clear HN
  rintro e W3 ⟨rfl, rfl⟩
  go_wp2_with fail
  refine bodyPost_ret (results_cellK rfl _ _ _ (w.heap.size + 1) _ rfl (load_lookK (by exact look_put5K (heap_put3K (by omega) H6.out)))) rfl ?_
  refine ⟨rfl, ?_, ?_⟩
  · exact HR1.out.kept (kept_put8K (z0 := w.heap.size) (z := w.heap.size + 3) ⟨by omega, by omega⟩ ⟨by omega, by omega⟩) (fun f => by have f2 := f.1; omega) (fun i e f => by have f2 := f.1; have := HRL.out i e; omega)
  · exact HKW.out.trans (kept_put8K (z0 := w.heap.size) (z := w.heap.size + 3) ⟨by omega, by omega⟩ ⟨by omega, by omega⟩) (fun _ e => .inr e.1)

set_option maxRecDepth 20000 in
set_option maxHeartbeats 4000000 in
theorem asked_3K (sec : Bool) (nn U ii : Int) (bv : Value) (s : ByteArray) (lv : Value) (br : Nat) (rv : Value) (l : List Int) (p nx : Nat) (x u : Int) (hx : IntKind.u64.wrap x = u) (ev : Value) (E : Int) (kv : Value) (w : World) (hR : Rd w br rv l p)
    (CR : Hid (∀ W, Kept (fun _ => False) w W → Calls Tryd.prog 46 #[.pointer (some ⟨br, 0, none⟩)] W fun e w' => e = .returned (.tuple #[.int .i64 x, ev]) ∧ Hid (Rd w' br rv l nx ∧ Kept (fun k => k = br) W w')))
    (CN : Hid (∀ W, Kept (fun k => k = br) w W → Calls Tryd.prog 22 #[ev] W fun e w' => e = .returned (.int .i64 E) ∧ w' = W)) :
    Calls Tryd.prog 23 #[.pointer (some ⟨br, 0, none⟩), .agg #[.int .i64 3, .bool sec, .int .i64 nn, .int .u64 U, .int .i64 ii, bv, .string s, lv], kv] w fun e w' => e = .returned (.agg #[.int .u64 u, .string ⟨#[]⟩, .slice none 0 0, .int .i64 (nx : Int), .int .i64 E]) ∧ Rd w' br rv l nx ∧ Kept (fun k => k = br) w w' := by
  have hbl : br < w.heap.size := lt_of_block hR.blk
  have hrl : ∀ k, rv.ownBlock = some k → k < w.heap.size := fun k e => (hR.own.lt k e).2
  have HRL := hideH hrl
  clear hR hrl
  go_enter Tryd.func23, Tryd.ntmps23
  go_wp2_with (go_at_call 46; refine StpH.go ?_)
  refine ⟨?_⟩
  refine (CR.out _ (three_newK _ _ _ _)).mono ?_
  clear CR
  rintro e W1 ⟨rfl, HP⟩
  obtain ⟨hr1, k1⟩ := HP.out
  have k0 := three_newK w (.cells #[.int .i64 3, .bool sec, .int .i64 nn, .int .u64 U, .int .i64 ii, bv, .string s, lv] 37) (.cells #[.int .u64 0, .string ⟨#[]⟩, .slice none 0 0, .int .i64 0, .int .i64 0] 60) (.cells #[.int .u64 0, .string ⟨#[]⟩, .slice none 0 0, .int .i64 0, .int .i64 0] 60)
  have kw1 : Kept (fun k => k = br) w W1 := (k0.mono (fun _ f => f.elim)).trans k1 (fun _ e => .inl e)
  have h7 := k1.heap (last_newK w _ _ _) (fun f => by have f2 : w.heap.size + 1 + 1 = br := f; omega)
  have h6 := k1.heap (mid_newK w _ _ _) (fun f => by have f2 : w.heap.size + 1 = br := f; omega)
  have c0 : W1.cell? ⟨w.heap.size + 1 + 1, 0, none⟩ = some (.int .u64 0) := by rw [cell_of_row _ _ 0 _ _ _ h7]; rfl
  have c1 : W1.cell? ⟨w.heap.size + 1 + 1, 1, none⟩ = some (.string ⟨#[]⟩) := by rw [cell_of_row _ _ 1 _ _ _ h7]; rfl
  have c2 : W1.cell? ⟨w.heap.size + 1 + 1, 2, none⟩ = some (.slice none 0 0) := by rw [cell_of_row _ _ 2 _ _ _ h7]; rfl
  have c3 : W1.cell? ⟨w.heap.size + 1 + 1, 3, none⟩ = some (.int .i64 0) := by rw [cell_of_row _ _ 3 _ _ _ h7]; rfl
  have c4 : W1.cell? ⟨w.heap.size + 1 + 1, 4, none⟩ = some (.int .i64 0) := by rw [cell_of_row _ _ 4 _ _ _ h7]; rfl
  have d0 : W1.cell? ⟨w.heap.size + 1, 0, none⟩ = some (.int .u64 0) := by rw [cell_of_row _ _ 0 _ _ _ h6]; rfl
  have d1 : W1.cell? ⟨w.heap.size + 1, 1, none⟩ = some (.string ⟨#[]⟩) := by rw [cell_of_row _ _ 1 _ _ _ h6]; rfl
  have d2 : W1.cell? ⟨w.heap.size + 1, 2, none⟩ = some (.slice none 0 0) := by rw [cell_of_row _ _ 2 _ _ _ h6]; rfl
  have d3 : W1.cell? ⟨w.heap.size + 1, 3, none⟩ = some (.int .i64 0) := by rw [cell_of_row _ _ 3 _ _ _ h6]; rfl
  have d4 : W1.cell? ⟨w.heap.size + 1, 4, none⟩ = some (.int .i64 0) := by rw [cell_of_row _ _ 4 _ _ _ h6]; rfl
  have f7 : ∀ j, W1.frozen? ⟨w.heap.size + 1 + 1, j, none⟩ = false := fun j => by simp [World.frozen?, h7]
  have f6 : ∀ j, W1.frozen? ⟨w.heap.size + 1, j, none⟩ = false := fun j => by simp [World.frozen?, h6]
  have HA : Hid (∀ W, Kept (fun k => k = w.heap.size + 1 + 1) W1 W → Calls Tryd.prog 20 #[.pointer (some ⟨br, 0, none⟩)] W fun e w' => e = .returned (.int .i64 (nx : Int)) ∧ w' = W) := hideH (fun W k => at_any br rv l nx W (hr1.kept k (fun f => by have f2 : br = w.heap.size + 1 + 1 := f; omega) (fun i e f => by have f2 : i = w.heap.size + 1 + 1 := f; have := HRL.out i e; omega)))
  have HN : Hid (∀ W, Kept (fun k => k = w.heap.size + 1 + 1) W1 W → Calls Tryd.prog 22 #[ev] W fun e w' => e = .returned (.int .i64 E) ∧ w' = W) := hideH (fun W k => CN.out W (kw1.trans k (fun i f => .inr (by have f2 : i = w.heap.size + 1 + 1 := f; omega))))
  have HR1 := hideH hr1
  have HKW := hideH kw1
  have H6 := hideH h6
  clear h6 h7 k0 k1 kw1 hr1 HP CN
  go_wp2_with (go_at_call 20; refine StpH.go ?_)
  refine ⟨?_⟩
  refine (HA.out _ ?_).mono ?_
  · exact kset1K
  clear HA
  rintro e W2 ⟨rfl, rfl⟩
  go_wp2_with (go_at_call 22; refine StpH.go ?_)
  refine ⟨?_⟩
  refine (HN.out _ ?_).mono ?_
  · exact kset2K
  clear HN
  rintro e W3 ⟨rfl, rfl⟩
  go_wp2_with fail
  refine bodyPost_ret (results_cellK rfl _ _ _ (w.heap.size + 1) _ rfl (load_lookK (by exact look_put5K (heap_put3K (by omega) H6.out)))) rfl ?_
  refine ⟨rfl, ?_, ?_⟩
  · exact HR1.out.kept (kept_put8K (z0 := w.heap.size) (z := w.heap.size + 3) ⟨by omega, by omega⟩ ⟨by omega, by omega⟩) (fun f => by have f2 := f.1; omega) (fun i e f => by have f2 := f.1; have := HRL.out i e; omega)
  · exact HKW.out.trans (kept_put8K (z0 := w.heap.size) (z := w.heap.size + 3) ⟨by omega, by omega⟩ ⟨by omega, by omega⟩) (fun _ e => .inr e.1)

set_option maxRecDepth 20000 in
set_option maxHeartbeats 4000000 in
theorem asked_10K (sec : Bool) (nn U ii : Int) (bv : Value) (s : ByteArray) (lv : Value) (br : Nat) (rv : Value) (l : List Int) (p nx : Nat) (x u : Int) (hx : IntKind.u64.wrap x = u) (ev : Value) (E : Int) (kv : Value) (w : World) (hR : Rd w br rv l p)
    (CR : Hid (∀ W, Kept (fun _ => False) w W → Calls Tryd.prog 47 #[.pointer (some ⟨br, 0, none⟩), .int .i64 nn] W fun e w' => e = .returned (.tuple #[.int .i64 x, ev]) ∧ Hid (Rd w' br rv l nx ∧ Kept (fun k => k = br) W w')))
    (CN : Hid (∀ W, Kept (fun k => k = br) w W → Calls Tryd.prog 22 #[ev] W fun e w' => e = .returned (.int .i64 E) ∧ w' = W)) :
    Calls Tryd.prog 23 #[.pointer (some ⟨br, 0, none⟩), .agg #[.int .i64 10, .bool sec, .int .i64 nn, .int .u64 U, .int .i64 ii, bv, .string s, lv], kv] w fun e w' => e = .returned (.agg #[.int .u64 u, .string ⟨#[]⟩, .slice none 0 0, .int .i64 (nx : Int), .int .i64 E]) ∧ Rd w' br rv l nx ∧ Kept (fun k => k = br) w w' := by
  have hbl : br < w.heap.size := lt_of_block hR.blk
  have hrl : ∀ k, rv.ownBlock = some k → k < w.heap.size := fun k e => (hR.own.lt k e).2
  have HRL := hideH hrl
  clear hR hrl
  go_enter Tryd.func23, Tryd.ntmps23
  go_wp2_with (go_at_call 47; refine StpH.go ?_)
  refine ⟨?_⟩
  refine (CR.out _ (three_newK _ _ _ _)).mono ?_
  clear CR
  rintro e W1 ⟨rfl, HP⟩
  obtain ⟨hr1, k1⟩ := HP.out
  have k0 := three_newK w (.cells #[.int .i64 10, .bool sec, .int .i64 nn, .int .u64 U, .int .i64 ii, bv, .string s, lv] 37) (.cells #[.int .u64 0, .string ⟨#[]⟩, .slice none 0 0, .int .i64 0, .int .i64 0] 60) (.cells #[.int .u64 0, .string ⟨#[]⟩, .slice none 0 0, .int .i64 0, .int .i64 0] 60)
  have kw1 : Kept (fun k => k = br) w W1 := (k0.mono (fun _ f => f.elim)).trans k1 (fun _ e => .inl e)
  have h7 := k1.heap (last_newK w _ _ _) (fun f => by have f2 : w.heap.size + 1 + 1 = br := f; omega)
  have h6 := k1.heap (mid_newK w _ _ _) (fun f => by have f2 : w.heap.size + 1 = br := f; omega)
  have c0 : W1.cell? ⟨w.heap.size + 1 + 1, 0, none⟩ = some (.int .u64 0) := by rw [cell_of_row _ _ 0 _ _ _ h7]; rfl
  have c1 : W1.cell? ⟨w.heap.size + 1 + 1, 1, none⟩ = some (.string ⟨#[]⟩) := by rw [cell_of_row _ _ 1 _ _ _ h7]; rfl
  have c2 : W1.cell? ⟨w.heap.size + 1 + 1, 2, none⟩ = some (.slice none 0 0) := by rw [cell_of_row _ _ 2 _ _ _ h7]; rfl
  have c3 : W1.cell? ⟨w.heap.size + 1 + 1, 3, none⟩ = some (.int .i64 0) := by rw [cell_of_row _ _ 3 _ _ _ h7]; rfl
  have c4 : W1.cell? ⟨w.heap.size + 1 + 1, 4, none⟩ = some (.int .i64 0) := by rw [cell_of_row _ _ 4 _ _ _ h7]; rfl
  have d0 : W1.cell? ⟨w.heap.size + 1, 0, none⟩ = some (.int .u64 0) := by rw [cell_of_row _ _ 0 _ _ _ h6]; rfl
  have d1 : W1.cell? ⟨w.heap.size + 1, 1, none⟩ = some (.string ⟨#[]⟩) := by rw [cell_of_row _ _ 1 _ _ _ h6]; rfl
  have d2 : W1.cell? ⟨w.heap.size + 1, 2, none⟩ = some (.slice none 0 0) := by rw [cell_of_row _ _ 2 _ _ _ h6]; rfl
  have d3 : W1.cell? ⟨w.heap.size + 1, 3, none⟩ = some (.int .i64 0) := by rw [cell_of_row _ _ 3 _ _ _ h6]; rfl
  have d4 : W1.cell? ⟨w.heap.size + 1, 4, none⟩ = some (.int .i64 0) := by rw [cell_of_row _ _ 4 _ _ _ h6]; rfl
  have f7 : ∀ j, W1.frozen? ⟨w.heap.size + 1 + 1, j, none⟩ = false := fun j => by simp [World.frozen?, h7]
  have f6 : ∀ j, W1.frozen? ⟨w.heap.size + 1, j, none⟩ = false := fun j => by simp [World.frozen?, h6]
  have HA : Hid (∀ W, Kept (fun k => k = w.heap.size + 1 + 1) W1 W → Calls Tryd.prog 20 #[.pointer (some ⟨br, 0, none⟩)] W fun e w' => e = .returned (.int .i64 (nx : Int)) ∧ w' = W) := hideH (fun W k => at_any br rv l nx W (hr1.kept k (fun f => by have f2 : br = w.heap.size + 1 + 1 := f; omega) (fun i e f => by have f2 : i = w.heap.size + 1 + 1 := f; have := HRL.out i e; omega)))
  have HN : Hid (∀ W, Kept (fun k => k = w.heap.size + 1 + 1) W1 W → Calls Tryd.prog 22 #[ev] W fun e w' => e = .returned (.int .i64 E) ∧ w' = W) := hideH (fun W k => CN.out W (kw1.trans k (fun i f => .inr (by have f2 : i = w.heap.size + 1 + 1 := f; omega))))
  have HR1 := hideH hr1
  have HKW := hideH kw1
  have H6 := hideH h6
  clear h6 h7 k0 k1 kw1 hr1 HP CN
  go_wp2_with (go_at_call 20; refine StpH.go ?_)
  refine ⟨?_⟩
  refine (HA.out _ ?_).mono ?_
  · exact kset1K
  clear HA
  rintro e W2 ⟨rfl, rfl⟩
  go_wp2_with (go_at_call 22; refine StpH.go ?_)
  refine ⟨?_⟩
  refine (HN.out _ ?_).mono ?_
  · exact kset2K
  clear HN
  rintro e W3 ⟨rfl, rfl⟩
  go_wp2_with fail
  refine bodyPost_ret (results_cellK rfl _ _ _ (w.heap.size + 1) _ rfl (load_lookK (by exact look_put5K (heap_put3K (by omega) H6.out)))) rfl ?_
  refine ⟨rfl, ?_, ?_⟩
  · exact HR1.out.kept (kept_put8K (z0 := w.heap.size) (z := w.heap.size + 3) ⟨by omega, by omega⟩ ⟨by omega, by omega⟩) (fun f => by have f2 := f.1; omega) (fun i e f => by have f2 := f.1; have := HRL.out i e; omega)
  · exact HKW.out.trans (kept_put8K (z0 := w.heap.size) (z := w.heap.size + 3) ⟨by omega, by omega⟩ ⟨by omega, by omega⟩) (fun _ e => .inr e.1)

set_option maxRecDepth 20000 in
set_option maxHeartbeats 4000000 in
theorem asked_4K (sec : Bool) (nn U ii : Int) (bv : Value) (s : ByteArray) (lv : Value) (br : Nat) (rv : Value) (l : List Int) (p nx : Nat) (x u : Int) (hx : IntKind.u64.wrap x = u) (ev : Value) (E : Int) (kv : Value) (w : World) (hR : Rd w br rv l p)
    (CR : Hid (∀ W, Kept (fun _ => False) w W → Calls Tryd.prog 48 #[.pointer (some ⟨br, 0, none⟩)] W fun e w' => e = .returned (.tuple #[.int .u32 x, ev]) ∧ Hid (Rd w' br rv l nx ∧ Kept (fun k => k = br) W w')))
    (CN : Hid (∀ W, Kept (fun k => k = br) w W → Calls Tryd.prog 22 #[ev] W fun e w' => e = .returned (.int .i64 E) ∧ w' = W)) :
    Calls Tryd.prog 23 #[.pointer (some ⟨br, 0, none⟩), .agg #[.int .i64 4, .bool sec, .int .i64 nn, .int .u64 U, .int .i64 ii, bv, .string s, lv], kv] w fun e w' => e = .returned (.agg #[.int .u64 u, .string ⟨#[]⟩, .slice none 0 0, .int .i64 (nx : Int), .int .i64 E]) ∧ Rd w' br rv l nx ∧ Kept (fun k => k = br) w w' := by
  have hbl : br < w.heap.size := lt_of_block hR.blk
  have hrl : ∀ k, rv.ownBlock = some k → k < w.heap.size := fun k e => (hR.own.lt k e).2
  have HRL := hideH hrl
  clear hR hrl
  go_enter Tryd.func23, Tryd.ntmps23
  go_wp2_with (go_at_call 48; refine StpH.go ?_)
  refine ⟨?_⟩
  refine (CR.out _ (three_newK _ _ _ _)).mono ?_
  clear CR
  rintro e W1 ⟨rfl, HP⟩
  obtain ⟨hr1, k1⟩ := HP.out
  have k0 := three_newK w (.cells #[.int .i64 4, .bool sec, .int .i64 nn, .int .u64 U, .int .i64 ii, bv, .string s, lv] 37) (.cells #[.int .u64 0, .string ⟨#[]⟩, .slice none 0 0, .int .i64 0, .int .i64 0] 60) (.cells #[.int .u64 0, .string ⟨#[]⟩, .slice none 0 0, .int .i64 0, .int .i64 0] 60)
  have kw1 : Kept (fun k => k = br) w W1 := (k0.mono (fun _ f => f.elim)).trans k1 (fun _ e => .inl e)
  have h7 := k1.heap (last_newK w _ _ _) (fun f => by have f2 : w.heap.size + 1 + 1 = br := f; omega)
  have h6 := k1.heap (mid_newK w _ _ _) (fun f => by have f2 : w.heap.size + 1 = br := f; omega)
  have c0 : W1.cell? ⟨w.heap.size + 1 + 1, 0, none⟩ = some (.int .u64 0) := by rw [cell_of_row _ _ 0 _ _ _ h7]; rfl
  have c1 : W1.cell? ⟨w.heap.size + 1 + 1, 1, none⟩ = some (.string ⟨#[]⟩) := by rw [cell_of_row _ _ 1 _ _ _ h7]; rfl
  have c2 : W1.cell? ⟨w.heap.size + 1 + 1, 2, none⟩ = some (.slice none 0 0) := by rw [cell_of_row _ _ 2 _ _ _ h7]; rfl
  have c3 : W1.cell? ⟨w.heap.size + 1 + 1, 3, none⟩ = some (.int .i64 0) := by rw [cell_of_row _ _ 3 _ _ _ h7]; rfl
  have c4 : W1.cell? ⟨w.heap.size + 1 + 1, 4, none⟩ = some (.int .i64 0) := by rw [cell_of_row _ _ 4 _ _ _ h7]; rfl
  have d0 : W1.cell? ⟨w.heap.size + 1, 0, none⟩ = some (.int .u64 0) := by rw [cell_of_row _ _ 0 _ _ _ h6]; rfl
  have d1 : W1.cell? ⟨w.heap.size + 1, 1, none⟩ = some (.string ⟨#[]⟩) := by rw [cell_of_row _ _ 1 _ _ _ h6]; rfl
  have d2 : W1.cell? ⟨w.heap.size + 1, 2, none⟩ = some (.slice none 0 0) := by rw [cell_of_row _ _ 2 _ _ _ h6]; rfl
  have d3 : W1.cell? ⟨w.heap.size + 1, 3, none⟩ = some (.int .i64 0) := by rw [cell_of_row _ _ 3 _ _ _ h6]; rfl
  have d4 : W1.cell? ⟨w.heap.size + 1, 4, none⟩ = some (.int .i64 0) := by rw [cell_of_row _ _ 4 _ _ _ h6]; rfl
  have f7 : ∀ j, W1.frozen? ⟨w.heap.size + 1 + 1, j, none⟩ = false := fun j => by simp [World.frozen?, h7]
  have f6 : ∀ j, W1.frozen? ⟨w.heap.size + 1, j, none⟩ = false := fun j => by simp [World.frozen?, h6]
  have HA : Hid (∀ W, Kept (fun k => k = w.heap.size + 1 + 1) W1 W → Calls Tryd.prog 20 #[.pointer (some ⟨br, 0, none⟩)] W fun e w' => e = .returned (.int .i64 (nx : Int)) ∧ w' = W) := hideH (fun W k => at_any br rv l nx W (hr1.kept k (fun f => by have f2 : br = w.heap.size + 1 + 1 := f; omega) (fun i e f => by have f2 : i = w.heap.size + 1 + 1 := f; have := HRL.out i e; omega)))
  have HN : Hid (∀ W, Kept (fun k => k = w.heap.size + 1 + 1) W1 W → Calls Tryd.prog 22 #[ev] W fun e w' => e = .returned (.int .i64 E) ∧ w' = W) := hideH (fun W k => CN.out W (kw1.trans k (fun i f => .inr (by have f2 : i = w.heap.size + 1 + 1 := f; omega))))
  have HR1 := hideH hr1
  have HKW := hideH kw1
  have H6 := hideH h6
  clear h6 h7 k0 k1 kw1 hr1 HP CN
  go_wp2_with (go_at_call 20; refine StpH.go ?_)
  refine ⟨?_⟩
  refine (HA.out _ ?_).mono ?_
  · exact kset1K
  clear HA
  rintro e W2 ⟨rfl, rfl⟩
  go_wp2_with (go_at_call 22; refine StpH.go ?_)
  refine ⟨?_⟩
  refine (HN.out _ ?_).mono ?_
  · exact kset2K
  clear HN
  rintro e W3 ⟨rfl, rfl⟩
  go_wp2_with fail
  refine bodyPost_ret (results_cellK rfl _ _ _ (w.heap.size + 1) _ rfl (load_lookK (by exact look_put5K (heap_put3K (by omega) H6.out)))) rfl ?_
  refine ⟨rfl, ?_, ?_⟩
  · exact HR1.out.kept (kept_put8K (z0 := w.heap.size) (z := w.heap.size + 3) ⟨by omega, by omega⟩ ⟨by omega, by omega⟩) (fun f => by have f2 := f.1; omega) (fun i e f => by have f2 := f.1; have := HRL.out i e; omega)
  · exact HKW.out.trans (kept_put8K (z0 := w.heap.size) (z := w.heap.size + 3) ⟨by omega, by omega⟩ ⟨by omega, by omega⟩) (fun _ e => .inr e.1)

set_option maxRecDepth 20000 in
set_option maxHeartbeats 4000000 in
theorem asked_5K (sec : Bool) (nn U ii : Int) (bv : Value) (s : ByteArray) (lv : Value) (br : Nat) (rv : Value) (l : List Int) (p nx : Nat) (u : Int) (ev : Value) (E : Int) (kv : Value) (w : World) (hR : Rd w br rv l p)
    (CR : Hid (∀ W, Kept (fun _ => False) w W → Calls Tryd.prog 49 #[.pointer (some ⟨br, 0, none⟩)] W fun e w' => e = .returned (.tuple #[.int .u64 u, ev]) ∧ Hid (Rd w' br rv l nx ∧ Kept (fun k => k = br) W w')))
    (CN : Hid (∀ W, Kept (fun k => k = br) w W → Calls Tryd.prog 22 #[ev] W fun e w' => e = .returned (.int .i64 E) ∧ w' = W)) :
    Calls Tryd.prog 23 #[.pointer (some ⟨br, 0, none⟩), .agg #[.int .i64 5, .bool sec, .int .i64 nn, .int .u64 U, .int .i64 ii, bv, .string s, lv], kv] w fun e w' => e = .returned (.agg #[.int .u64 u, .string ⟨#[]⟩, .slice none 0 0, .int .i64 (nx : Int), .int .i64 E]) ∧ Rd w' br rv l nx ∧ Kept (fun k => k = br) w w' := by
  have hbl : br < w.heap.size := lt_of_block hR.blk
  have hrl : ∀ k, rv.ownBlock = some k → k < w.heap.size := fun k e => (hR.own.lt k e).2
  have HRL := hideH hrl
  clear hR hrl
  go_enter Tryd.func23, Tryd.ntmps23
  go_wp2_with (go_at_call 49; refine StpH.go ?_)
  refine ⟨?_⟩
  refine (CR.out _ (three_newK _ _ _ _)).mono ?_
  clear CR
  rintro e W1 ⟨rfl, HP⟩
  obtain ⟨hr1, k1⟩ := HP.out
  have k0 := three_newK w (.cells #[.int .i64 5, .bool sec, .int .i64 nn, .int .u64 U, .int .i64 ii, bv, .string s, lv] 37) (.cells #[.int .u64 0, .string ⟨#[]⟩, .slice none 0 0, .int .i64 0, .int .i64 0] 60) (.cells #[.int .u64 0, .string ⟨#[]⟩, .slice none 0 0, .int .i64 0, .int .i64 0] 60)
  have kw1 : Kept (fun k => k = br) w W1 := (k0.mono (fun _ f => f.elim)).trans k1 (fun _ e => .inl e)
  have h7 := k1.heap (last_newK w _ _ _) (fun f => by have f2 : w.heap.size + 1 + 1 = br := f; omega)
  have h6 := k1.heap (mid_newK w _ _ _) (fun f => by have f2 : w.heap.size + 1 = br := f; omega)
  have c0 : W1.cell? ⟨w.heap.size + 1 + 1, 0, none⟩ = some (.int .u64 0) := by rw [cell_of_row _ _ 0 _ _ _ h7]; rfl
  have c1 : W1.cell? ⟨w.heap.size + 1 + 1, 1, none⟩ = some (.string ⟨#[]⟩) := by rw [cell_of_row _ _ 1 _ _ _ h7]; rfl
  have c2 : W1.cell? ⟨w.heap.size + 1 + 1, 2, none⟩ = some (.slice none 0 0) := by rw [cell_of_row _ _ 2 _ _ _ h7]; rfl
  have c3 : W1.cell? ⟨w.heap.size + 1 + 1, 3, none⟩ = some (.int .i64 0) := by rw [cell_of_row _ _ 3 _ _ _ h7]; rfl
  have c4 : W1.cell? ⟨w.heap.size + 1 + 1, 4, none⟩ = some (.int .i64 0) := by rw [cell_of_row _ _ 4 _ _ _ h7]; rfl
  have d0 : W1.cell? ⟨w.heap.size + 1, 0, none⟩ = some (.int .u64 0) := by rw [cell_of_row _ _ 0 _ _ _ h6]; rfl
  have d1 : W1.cell? ⟨w.heap.size + 1, 1, none⟩ = some (.string ⟨#[]⟩) := by rw [cell_of_row _ _ 1 _ _ _ h6]; rfl
  have d2 : W1.cell? ⟨w.heap.size + 1, 2, none⟩ = some (.slice none 0 0) := by rw [cell_of_row _ _ 2 _ _ _ h6]; rfl
  have d3 : W1.cell? ⟨w.heap.size + 1, 3, none⟩ = some (.int .i64 0) := by rw [cell_of_row _ _ 3 _ _ _ h6]; rfl
  have d4 : W1.cell? ⟨w.heap.size + 1, 4, none⟩ = some (.int .i64 0) := by rw [cell_of_row _ _ 4 _ _ _ h6]; rfl
  have f7 : ∀ j, W1.frozen? ⟨w.heap.size + 1 + 1, j, none⟩ = false := fun j => by simp [World.frozen?, h7]
  have f6 : ∀ j, W1.frozen? ⟨w.heap.size + 1, j, none⟩ = false := fun j => by simp [World.frozen?, h6]
  have HA : Hid (∀ W, Kept (fun k => k = w.heap.size + 1 + 1) W1 W → Calls Tryd.prog 20 #[.pointer (some ⟨br, 0, none⟩)] W fun e w' => e = .returned (.int .i64 (nx : Int)) ∧ w' = W) := hideH (fun W k => at_any br rv l nx W (hr1.kept k (fun f => by have f2 : br = w.heap.size + 1 + 1 := f; omega) (fun i e f => by have f2 : i = w.heap.size + 1 + 1 := f; have := HRL.out i e; omega)))
  have HN : Hid (∀ W, Kept (fun k => k = w.heap.size + 1 + 1) W1 W → Calls Tryd.prog 22 #[ev] W fun e w' => e = .returned (.int .i64 E) ∧ w' = W) := hideH (fun W k => CN.out W (kw1.trans k (fun i f => .inr (by have f2 : i = w.heap.size + 1 + 1 := f; omega))))
  have HR1 := hideH hr1
  have HKW := hideH kw1
  have H6 := hideH h6
  clear h6 h7 k0 k1 kw1 hr1 HP CN
  go_wp2_with (go_at_call 20; refine StpH.go ?_)
  refine ⟨?_⟩
  refine (HA.out _ ?_).mono ?_
  · exact kset1K
  clear HA
  rintro e W2 ⟨rfl, rfl⟩
  go_wp2_with (go_at_call 22; refine StpH.go ?_)
  refine ⟨?_⟩
  refine (HN.out _ ?_).mono ?_
  · exact kset2K
  clear HN
  rintro e W3 ⟨rfl, rfl⟩
  go_wp2_with fail
  refine bodyPost_ret (results_cellK rfl _ _ _ (w.heap.size + 1) _ rfl (load_lookK (by exact look_put5K (heap_put3K (by omega) H6.out)))) rfl ?_
  refine ⟨rfl, ?_, ?_⟩
  · exact HR1.out.kept (kept_put8K (z0 := w.heap.size) (z := w.heap.size + 3) ⟨by omega, by omega⟩ ⟨by omega, by omega⟩) (fun f => by have f2 := f.1; omega) (fun i e f => by have f2 := f.1; have := HRL.out i e; omega)
  · exact HKW.out.trans (kept_put8K (z0 := w.heap.size) (z := w.heap.size + 3) ⟨by omega, by omega⟩ ⟨by omega, by omega⟩) (fun _ e => .inr e.1)

set_option maxRecDepth 20000 in
set_option maxHeartbeats 4000000 in
theorem asked_7K (sec : Bool) (nn U ii : Int) (bv : Value) (s : ByteArray) (lv : Value) (br : Nat) (rv : Value) (l : List Int) (p nx : Nat) (t : ByteArray) (ev : Value) (E : Int) (kv : Value) (w : World) (hR : Rd w br rv l p)
    (CR : Hid (∀ W, Kept (fun _ => False) w W → Calls Tryd.prog 50 #[.pointer (some ⟨br, 0, none⟩), .int .i64 nn] W fun e w' => e = .returned (.tuple #[.string t, ev]) ∧ Hid (Rd w' br rv l nx ∧ Kept (fun k => k = br) W w')))
    (CN : Hid (∀ W, Kept (fun k => k = br) w W → Calls Tryd.prog 22 #[ev] W fun e w' => e = .returned (.int .i64 E) ∧ w' = W)) :
    Calls Tryd.prog 23 #[.pointer (some ⟨br, 0, none⟩), .agg #[.int .i64 7, .bool sec, .int .i64 nn, .int .u64 U, .int .i64 ii, bv, .string s, lv], kv] w fun e w' => e = .returned (.agg #[.int .u64 0, .string t, .slice none 0 0, .int .i64 (nx : Int), .int .i64 E]) ∧ Rd w' br rv l nx ∧ Kept (fun k => k = br) w w' := by
  have hbl : br < w.heap.size := lt_of_block hR.blk
  have hrl : ∀ k, rv.ownBlock = some k → k < w.heap.size := fun k e => (hR.own.lt k e).2
  have HRL := hideH hrl
  clear hR hrl
  go_enter Tryd.func23, Tryd.ntmps23
  go_wp2_with (go_at_call 50; refine StpH.go ?_)
  refine ⟨?_⟩
  refine (CR.out _ (three_newK _ _ _ _)).mono ?_
  clear CR
  rintro e W1 ⟨rfl, HP⟩
  obtain ⟨hr1, k1⟩ := HP.out
  have k0 := three_newK w (.cells #[.int .i64 7, .bool sec, .int .i64 nn, .int .u64 U, .int .i64 ii, bv, .string s, lv] 37) (.cells #[.int .u64 0, .string ⟨#[]⟩, .slice none 0 0, .int .i64 0, .int .i64 0] 60) (.cells #[.int .u64 0, .string ⟨#[]⟩, .slice none 0 0, .int .i64 0, .int .i64 0] 60)
  have kw1 : Kept (fun k => k = br) w W1 := (k0.mono (fun _ f => f.elim)).trans k1 (fun _ e => .inl e)
  have h7 := k1.heap (last_newK w _ _ _) (fun f => by have f2 : w.heap.size + 1 + 1 = br := f; omega)
  have h6 := k1.heap (mid_newK w _ _ _) (fun f => by have f2 : w.heap.size + 1 = br := f; omega)
  have c0 : W1.cell? ⟨w.heap.size + 1 + 1, 0, none⟩ = some (.int .u64 0) := by rw [cell_of_row _ _ 0 _ _ _ h7]; rfl
  have c1 : W1.cell? ⟨w.heap.size + 1 + 1, 1, none⟩ = some (.string ⟨#[]⟩) := by rw [cell_of_row _ _ 1 _ _ _ h7]; rfl
  have c2 : W1.cell? ⟨w.heap.size + 1 + 1, 2, none⟩ = some (.slice none 0 0) := by rw [cell_of_row _ _ 2 _ _ _ h7]; rfl
  have c3 : W1.cell? ⟨w.heap.size + 1 + 1, 3, none⟩ = some (.int .i64 0) := by rw [cell_of_row _ _ 3 _ _ _ h7]; rfl
  have c4 : W1.cell? ⟨w.heap.size + 1 + 1, 4, none⟩ = some (.int .i64 0) := by rw [cell_of_row _ _ 4 _ _ _ h7]; rfl
  have d0 : W1.cell? ⟨w.heap.size + 1, 0, none⟩ = some (.int .u64 0) := by rw [cell_of_row _ _ 0 _ _ _ h6]; rfl
  have d1 : W1.cell? ⟨w.heap.size + 1, 1, none⟩ = some (.string ⟨#[]⟩) := by rw [cell_of_row _ _ 1 _ _ _ h6]; rfl
  have d2 : W1.cell? ⟨w.heap.size + 1, 2, none⟩ = some (.slice none 0 0) := by rw [cell_of_row _ _ 2 _ _ _ h6]; rfl
  have d3 : W1.cell? ⟨w.heap.size + 1, 3, none⟩ = some (.int .i64 0) := by rw [cell_of_row _ _ 3 _ _ _ h6]; rfl
  have d4 : W1.cell? ⟨w.heap.size + 1, 4, none⟩ = some (.int .i64 0) := by rw [cell_of_row _ _ 4 _ _ _ h6]; rfl
  have f7 : ∀ j, W1.frozen? ⟨w.heap.size + 1 + 1, j, none⟩ = false := fun j => by simp [World.frozen?, h7]
  have f6 : ∀ j, W1.frozen? ⟨w.heap.size + 1, j, none⟩ = false := fun j => by simp [World.frozen?, h6]
  have HA : Hid (∀ W, Kept (fun k => k = w.heap.size + 1 + 1) W1 W → Calls Tryd.prog 20 #[.pointer (some ⟨br, 0, none⟩)] W fun e w' => e = .returned (.int .i64 (nx : Int)) ∧ w' = W) := hideH (fun W k => at_any br rv l nx W (hr1.kept k (fun f => by have f2 : br = w.heap.size + 1 + 1 := f; omega) (fun i e f => by have f2 : i = w.heap.size + 1 + 1 := f; have := HRL.out i e; omega)))
  have HN : Hid (∀ W, Kept (fun k => k = w.heap.size + 1 + 1) W1 W → Calls Tryd.prog 22 #[ev] W fun e w' => e = .returned (.int .i64 E) ∧ w' = W) := hideH (fun W k => CN.out W (kw1.trans k (fun i f => .inr (by have f2 : i = w.heap.size + 1 + 1 := f; omega))))
  have HR1 := hideH hr1
  have HKW := hideH kw1
  have H6 := hideH h6
  clear h6 h7 k0 k1 kw1 hr1 HP CN
  go_wp2_with (go_at_call 20; refine StpH.go ?_)
  refine ⟨?_⟩
  refine (HA.out _ ?_).mono ?_
  · exact kset1K
  clear HA
  rintro e W2 ⟨rfl, rfl⟩
  go_wp2_with (go_at_call 22; refine StpH.go ?_)
  refine ⟨?_⟩
  refine (HN.out _ ?_).mono ?_
  · exact kset2K
  clear HN
  rintro e W3 ⟨rfl, rfl⟩
  go_wp2_with fail
  refine bodyPost_ret (results_cellK rfl _ _ _ (w.heap.size + 1) _ rfl (load_lookK (by exact look_put5K (heap_put3K (by omega) H6.out)))) rfl ?_
  refine ⟨rfl, ?_, ?_⟩
  · exact HR1.out.kept (kept_put8K (z0 := w.heap.size) (z := w.heap.size + 3) ⟨by omega, by omega⟩ ⟨by omega, by omega⟩) (fun f => by have f2 := f.1; omega) (fun i e f => by have f2 := f.1; have := HRL.out i e; omega)
  · exact HKW.out.trans (kept_put8K (z0 := w.heap.size) (z := w.heap.size + 3) ⟨by omega, by omega⟩ ⟨by omega, by omega⟩) (fun _ e => .inr e.1)

end Go.Proofs.YtjmmdklgkcbihaaDoor

namespace Go.Proofs.YtjmmdklgkcbihaaDoor
open Go.ChangeShapes Go.WideShapes Go.ChangeAt Go.RowKit

theorem heap_put2K {W : World} {g h i j : Nat} {x y : Value} {o : Obj} (hn : g ≠ h) (hg : W.heap[g]? = some o) : ((W.setCell ⟨h, i, none⟩ x).setCell ⟨h, j, none⟩ y).heap[g]? = some o :=
  ((Kept.setCell W ⟨h, i, none⟩ x).trans (Kept.setCell _ ⟨h, j, none⟩ y) (fun _ e => .inl e)).heap hg (fun e => hn e)
theorem kept_put7K {W : World} {z0 z g h i j : Nat} {x y v0 v1 v2 v3 v4 : Value} (hg : z0 ≤ g ∧ g < z) (hh : z0 ≤ h ∧ h < z) : Kept (fun k => z0 ≤ k ∧ k < z) W (((((((W.setCell ⟨h, i, none⟩ x).setCell ⟨h, j, none⟩ y).setCell ⟨g, 0, none⟩ v0).setCell ⟨g, 1, none⟩ v1).setCell ⟨g, 2, none⟩ v2).setCell ⟨g, 3, none⟩ v3).setCell ⟨g, 4, none⟩ v4) := by
  have st : ∀ (A B : World) (b o : Nat) (t : Value), z0 ≤ b ∧ b < z → Kept (fun k => z0 ≤ k ∧ k < z) A B → Kept (fun k => z0 ≤ k ∧ k < z) A (B.setCell ⟨b, o, none⟩ t) := fun A B b o t hb k => k.trans (Kept.setCell B ⟨b, o, none⟩ t) (fun q e => .inl (by have e2 : q = b := e; rw [e2]; exact hb))
  exact st _ _ _ _ _ hg (st _ _ _ _ _ hg (st _ _ _ _ _ hg (st _ _ _ _ _ hg (st _ _ _ _ _ hg (st _ _ _ _ _ hh (st _ _ _ _ _ hh (Kept.refl _ _)))))))
theorem Bk2.lts {base : Nat} {W : World} {kb : Nat} {vB vI : Value} {V I : List Value} (h : Bk2 base W kb vB vI V I) : kb < W.heap.size ∧ (∀ k, vB.ownBlock = some k → k < W.heap.size) ∧ ∀ k, vI.ownBlock = some k → k < W.heap.size := ⟨lt_of_block h.obj, fun k e => (h.rowB.lt k e).2, fun k e => (h.rowI.lt k e).2⟩

set_option maxRecDepth 20000 in
set_option maxHeartbeats 8000000 in
theorem asked_6K (sec : Bool) (nn U ii : Int) (bv : Value) (s : ByteArray) (lv : Value) (br : Nat) (rv : Value) (l : List Int) (p nx : Nat) (ev : Value) (E : Int) (base kb : Nat) (vB vI : Value) (V I : List Value) (w : World) (Q : World → Option Addr → Nat → Nat → ByteArray → World → Prop) (hR : Rd w br rv l p) (hK : Bk2 base w kb vB vI V I) (hne : br ≠ kb) (hnB : ∀ k, vB.ownBlock = some k → k ≠ br ∧ rv.ownBlock ≠ some k) (hnk : rv.ownBlock ≠ some kb) (hnI : vI.ownBlock ≠ some br) (hb0 : base ≤ w.heap.size) (hV : V.length ≤ 1099511627776)
    (CR : Hid (∀ W, Kept (fun _ => False) w W → Calls Tryd.prog 18 #[.pointer (some ⟨br, 0, none⟩), .int .i64 nn] W fun e w' => ∃ (a : Option Addr) (m c : Nat) (T : ByteArray), e = .returned (.tuple #[.slice a m c, ev]) ∧ Hid (Rd w' br rv l nx ∧ Kept (fun k => k = br) W w') ∧ (convert 26 9 (.slice a m c)).run Tryd.prog w' = .ok (.string T) w' ∧ Hid (Q W a m c T w')))
    (CN : Hid (∀ W, Kept (fun k => k = br ∨ k = kb ∨ vB.ownBlock = some k) w W → Calls Tryd.prog 22 #[ev] W fun e w' => e = .returned (.int .i64 E) ∧ w' = W)) :
    Calls Tryd.prog 23 #[.pointer (some ⟨br, 0, none⟩), .agg #[.int .i64 6, .bool sec, .int .i64 nn, .int .u64 U, .int .i64 ii, bv, .string s, lv], .pointer (some ⟨kb, 0, none⟩)] w fun e w' => ∃ (a : Option Addr) (m c : Nat) (T : ByteArray) (W0 W1 : World) (vB' : Value), e = .returned (.agg #[.int .u64 0, .string T, .slice none 0 0, .int .i64 (nx : Int), .int .i64 E]) ∧ Rd w' br rv l nx ∧ Bk2 base w' kb vB' vI (V ++ [.slice a m c]) I ∧ (∀ k, vB'.ownBlock = some k → vB.ownBlock = some k ∨ w.heap.size ≤ k ∧ W1.heap.size ≤ k) ∧ Kept (fun k => k = br ∨ k = kb ∨ vB.ownBlock = some k) w w' ∧ Q W0 a m c T W1 ∧ Kept (fun _ => False) w W0 ∧ Kept (fun k => k < W0.heap.size) W1 w' := by
  have HNB := hideH hnB
  have HNI := hideH hnI
  clear hnB hnI
  have hbl : br < w.heap.size := lt_of_block hR.blk
  have hrl : ∀ k, rv.ownBlock = some k → k < w.heap.size := fun k e => (hR.own.lt k e).2
  obtain ⟨hkl, hBl, hIl⟩ := hK.lts
  have HRL := hideH hrl
  have HBL := hideH hBl
  have HIL := hideH hIl
  have HBK := hideH hK
  clear hR hrl hBl hIl hK
  go_enter Tryd.func23, Tryd.ntmps23
  go_wp2_with (go_at_call 18; refine StpH.go ?_)
  refine ⟨?_⟩
  refine (CR.out _ (three_newK _ _ _ _)).mono ?_
  clear CR
  rintro e W1 ⟨a, m, c, T, rfl, HP, cv, HQ⟩
  obtain ⟨hr1, k1⟩ := HP.out
  have k0 := three_newK w (.cells #[.int .i64 6, .bool sec, .int .i64 nn, .int .u64 U, .int .i64 ii, bv, .string s, lv] 37) (.cells #[.int .u64 0, .string ⟨#[]⟩, .slice none 0 0, .int .i64 0, .int .i64 0] 60) (.cells #[.int .u64 0, .string ⟨#[]⟩, .slice none 0 0, .int .i64 0, .int .i64 0] 60)
  have sz := size3K w (.cells #[.int .i64 6, .bool sec, .int .i64 nn, .int .u64 U, .int .i64 ii, bv, .string s, lv] 37) (.cells #[.int .u64 0, .string ⟨#[]⟩, .slice none 0 0, .int .i64 0, .int .i64 0] 60) (.cells #[.int .u64 0, .string ⟨#[]⟩, .slice none 0 0, .int .i64 0, .int .i64 0] 60)
  obtain ⟨W0, hW0⟩ : ∃ W0, W0 = ((w.alloc (.cells #[.int .i64 6, .bool sec, .int .i64 nn, .int .u64 U, .int .i64 ii, bv, .string s, lv] 37)).alloc (.cells #[.int .u64 0, .string ⟨#[]⟩, .slice none 0 0, .int .i64 0, .int .i64 0] 60)).alloc (.cells #[.int .u64 0, .string ⟨#[]⟩, .slice none 0 0, .int .i64 0, .int .i64 0] 60) := ⟨_, rfl⟩
  have h7a := last_newK w (.cells #[.int .i64 6, .bool sec, .int .i64 nn, .int .u64 U, .int .i64 ii, bv, .string s, lv] 37) (.cells #[.int .u64 0, .string ⟨#[]⟩, .slice none 0 0, .int .i64 0, .int .i64 0] 60) (.cells #[.int .u64 0, .string ⟨#[]⟩, .slice none 0 0, .int .i64 0, .int .i64 0] 60)
  have h6a := mid_newK w (.cells #[.int .i64 6, .bool sec, .int .i64 nn, .int .u64 U, .int .i64 ii, bv, .string s, lv] 37) (.cells #[.int .u64 0, .string ⟨#[]⟩, .slice none 0 0, .int .i64 0, .int .i64 0] 60) (.cells #[.int .u64 0, .string ⟨#[]⟩, .slice none 0 0, .int .i64 0, .int .i64 0] 60)
  rw [← hW0] at k0 sz k1 HQ h7a h6a
  have kw1 : Kept (fun k => k = br) w W1 := (k0.mono (fun _ f => f.elim)).trans k1 (fun _ e => .inl e)
  have h7 := k1.heap h7a (fun f => by have f2 : w.heap.size + 1 + 1 = br := f; omega)
  have h6 := k1.heap h6a (fun f => by have f2 : w.heap.size + 1 = br := f; omega)
  have s1 : W0.heap.size ≤ W1.heap.size := k1.size
  have c0 : W1.cell? ⟨w.heap.size + 1 + 1, 0, none⟩ = some (.int .u64 0) := by rw [cell_of_row _ _ 0 _ _ _ h7]; rfl
  have c1 : W1.cell? ⟨w.heap.size + 1 + 1, 1, none⟩ = some (.string ⟨#[]⟩) := by rw [cell_of_row _ _ 1 _ _ _ h7]; rfl
  have c2 : W1.cell? ⟨w.heap.size + 1 + 1, 2, none⟩ = some (.slice none 0 0) := by rw [cell_of_row _ _ 2 _ _ _ h7]; rfl
  have c3 : W1.cell? ⟨w.heap.size + 1 + 1, 3, none⟩ = some (.int .i64 0) := by rw [cell_of_row _ _ 3 _ _ _ h7]; rfl
  have c4 : W1.cell? ⟨w.heap.size + 1 + 1, 4, none⟩ = some (.int .i64 0) := by rw [cell_of_row _ _ 4 _ _ _ h7]; rfl
  have f7 : ∀ j, W1.frozen? ⟨w.heap.size + 1 + 1, j, none⟩ = false := fun j => by simp [World.frozen?, h7]
  have ks := kset1K (W := W1) (g := w.heap.size + 1 + 1) (i := 1) (x := .string T)
  have h7b := look_set1K (i := 1) (x := .string T) h7
  have h6b := heap_put1K (i := 1) (x := .string T) (show w.heap.size + 1 ≠ w.heap.size + 1 + 1 by omega) h6
  have bk1 : Bk2 base (W1.setCell ⟨w.heap.size + 1 + 1, 1, none⟩ (.string T)) kb vB vI V I := (HBK.out.kept kw1 (fun f => hne f.symm) (fun q e f => (HNB.out q e).1 f) (fun q e f => HNI.out (by have f2 : q = br := f; rw [← f2]; exact e))).kept ks (fun f => by have f2 : kb = w.heap.size + 1 + 1 := f; omega) (fun q e f => by have f2 : q = w.heap.size + 1 + 1 := f; have := HBL.out q e; omega) (fun q e f => by have f2 : q = w.heap.size + 1 + 1 := f; have := HIL.out q e; omega)
  have rd1 : Rd (W1.setCell ⟨w.heap.size + 1 + 1, 1, none⟩ (.string T)) br rv l nx := hr1.kept ks (fun f => by have f2 : br = w.heap.size + 1 + 1 := f; omega) (fun i e f => by have f2 : i = w.heap.size + 1 + 1 := f; have := HRL.out i e; omega)
  have kws : Kept (fun k => k = br) w (W1.setCell ⟨w.heap.size + 1 + 1, 1, none⟩ (.string T)) := kw1.trans ks (fun i f => .inr (by have f2 : i = w.heap.size + 1 + 1 := f; omega))
  have s2 : W0.heap.size ≤ (W1.setCell ⟨w.heap.size + 1 + 1, 1, none⟩ (.string T)).heap.size := Nat.le_trans s1 ks.size
  have s3 : W1.heap.size ≤ (W1.setCell ⟨w.heap.size + 1 + 1, 1, none⟩ (.string T)).heap.size := ks.size
  have BB := hideH (book2_bytes base kb V.length vB vI V I a m c _ bk1 rfl hV (Nat.le_trans hb0 (by omega)))
  have HRD := hideH rd1
  have HKS := hideH ks
  have HKWS := hideH kws
  have H7 := hideH h7b
  have H6 := hideH h6b
  have HK0 := hideH k0
  clear hW0 h7a h6a h6 h7 h7b h6b k0 k1 kw1 hr1 HP ks rd1 kws bk1
  go_wp2_with (go_at_call 9; refine StpH.go ?_)
  refine ⟨?_⟩
  refine BB.out.mono ?_
  clear BB c0 c1 c2 c3 c4 f7 cv
  rintro e W2 ⟨rfl, vB', bk2, k2, nw⟩
  have far : ∀ k, w.heap.size ≤ k → k < w.heap.size + 3 → ¬ (k = kb ∨ vB.ownBlock = some k) := fun k h1 h2 f => f.elim (fun e => by omega) (fun e => by have := HBL.out k e; omega)
  have h7 := k2.heap H7.out (far _ (by omega) (by omega))
  have h6 := k2.heap H6.out (far _ (by omega) (by omega))
  have rd2 : Rd W2 br rv l nx := HRD.out.kept k2 (fun f => f.elim (fun e => hne e) (fun e => (HNB.out br e).1 rfl)) (fun i e f => f.elim (fun e2 => hnk (by rw [← e2]; exact e)) (fun e2 => (HNB.out i e2).2 e))
  have kw2 : Kept (fun k => k = br ∨ k = kb ∨ vB.ownBlock = some k) w W2 := (HKWS.out.mono (fun _ e => .inl (.inl e))).trans k2 (fun i e => .inl (.inr e))
  have c0 : W2.cell? ⟨w.heap.size + 1 + 1, 0, none⟩ = some (.int .u64 0) := by rw [cell_of_row _ _ 0 _ _ _ h7]; rfl
  have c1 : W2.cell? ⟨w.heap.size + 1 + 1, 1, none⟩ = some (.string T) := by rw [cell_of_row _ _ 1 _ _ _ h7]; rfl
  have c2 : W2.cell? ⟨w.heap.size + 1 + 1, 2, none⟩ = some (.slice none 0 0) := by rw [cell_of_row _ _ 2 _ _ _ h7]; rfl
  have c3 : W2.cell? ⟨w.heap.size + 1 + 1, 3, none⟩ = some (.int .i64 0) := by rw [cell_of_row _ _ 3 _ _ _ h7]; rfl
  have c4 : W2.cell? ⟨w.heap.size + 1 + 1, 4, none⟩ = some (.int .i64 0) := by rw [cell_of_row _ _ 4 _ _ _ h7]; rfl
  have d0 : W2.cell? ⟨w.heap.size + 1, 0, none⟩ = some (.int .u64 0) := by rw [cell_of_row _ _ 0 _ _ _ h6]; rfl
  have d1 : W2.cell? ⟨w.heap.size + 1, 1, none⟩ = some (.string ⟨#[]⟩) := by rw [cell_of_row _ _ 1 _ _ _ h6]; rfl
  have d2 : W2.cell? ⟨w.heap.size + 1, 2, none⟩ = some (.slice none 0 0) := by rw [cell_of_row _ _ 2 _ _ _ h6]; rfl
  have d3 : W2.cell? ⟨w.heap.size + 1, 3, none⟩ = some (.int .i64 0) := by rw [cell_of_row _ _ 3 _ _ _ h6]; rfl
  have d4 : W2.cell? ⟨w.heap.size + 1, 4, none⟩ = some (.int .i64 0) := by rw [cell_of_row _ _ 4 _ _ _ h6]; rfl
  have f7 : ∀ j, W2.frozen? ⟨w.heap.size + 1 + 1, j, none⟩ = false := fun j => by simp [World.frozen?, h7]
  have f6 : ∀ j, W2.frozen? ⟨w.heap.size + 1, j, none⟩ = false := fun j => by simp [World.frozen?, h6]
  have CA := hideH (at_any br rv l nx W2 rd2)
  have HN : Hid (∀ W, Kept (fun k => k = w.heap.size + 1 + 1) W2 W → Calls Tryd.prog 22 #[ev] W fun e w' => e = .returned (.int .i64 E) ∧ w' = W) := hideH (fun W k => CN.out W (kw2.trans k (fun i f => .inr (by have f2 : i = w.heap.size + 1 + 1 := f; omega))))
  have HR2 := hideH rd2
  have HKW := hideH kw2
  have HB2 := hideH bk2
  have HNW := hideH nw
  have HK2 := hideH k2
  have H6' := hideH h6
  clear h6 h7 far rd2 kw2 bk2 nw k2 CN H6 H7
  go_wp2_with (go_at_call 20; refine StpH.go ?_)
  refine ⟨?_⟩
  refine CA.out.mono ?_
  clear CA
  rintro e W3 ⟨rfl, rfl⟩
  go_wp2_with (go_at_call 22; refine StpH.go ?_)
  refine ⟨?_⟩
  refine (HN.out _ ?_).mono ?_
  · exact kset1K
  clear HN
  rintro e W4 ⟨rfl, rfl⟩
  go_wp2_with fail
  refine bodyPost_ret (results_cellK rfl _ _ _ (w.heap.size + 1) _ rfl (load_lookK (by exact look_put5K (heap_put2K (by omega) H6'.out)))) rfl ?_
  have hnw : ∀ k, vB'.ownBlock = some k → vB.ownBlock = some k ∨ w.heap.size + 3 ≤ k ∧ W1.heap.size ≤ k := fun k e => (HNW.out k e).imp id (fun q => ⟨by omega, by omega⟩)
  refine ⟨a, m, c, T, W0, W1, vB', rfl, ?_, ?_, fun k e => (hnw k e).imp id (fun q => ⟨by omega, q.2⟩), ?_, HQ.out, HK0.out, ?_⟩
  · exact HR2.out.kept (kept_put7K (z0 := w.heap.size) (z := w.heap.size + 3) ⟨by omega, by omega⟩ ⟨by omega, by omega⟩) (fun f => by have f2 := f.1; omega) (fun i e f => by have f2 := f.1; have := HRL.out i e; omega)
  · exact HB2.out.kept (kept_put7K (z0 := w.heap.size) (z := w.heap.size + 3) ⟨by omega, by omega⟩ ⟨by omega, by omega⟩) (fun f => by have f2 := f.1; omega) (fun i e f => (hnw i e).elim (fun q => by have f2 := f.1; have := HBL.out i q; omega) (fun q => by have f2 := f.2; omega)) (fun i e f => by have f2 := f.1; have := HIL.out i e; omega)
  · exact HKW.out.trans (kept_put7K (z0 := w.heap.size) (z := w.heap.size + 3) ⟨by omega, by omega⟩ ⟨by omega, by omega⟩) (fun _ e => .inr e.1)
  · exact ((HKS.out.mono (fun i e => .inl (by have e2 : i = w.heap.size + 1 + 1 := e; omega))).trans HK2.out (fun i e => .inl (e.elim (fun q => by omega) (fun q => by have := HBL.out i q; omega)))).trans (kept_put7K (z0 := w.heap.size) (z := w.heap.size + 3) ⟨by omega, by omega⟩ ⟨by omega, by omega⟩) (fun i e => .inl (by have f2 := e.2; omega))

set_option maxRecDepth 20000 in
set_option maxHeartbeats 8000000 in
theorem asked_8K (sec : Bool) (nn U ii : Int) (bv : Value) (s : ByteArray) (lv : Value) (br : Nat) (rv : Value) (l : List Int) (p nx : Nat) (ls : List Int) (ev : Value) (E : Int) (base kb : Nat) (vB vI : Value) (V I : List Value) (w : World) (Q : World → Option Addr → Nat → Nat → World → Prop) (hR : Rd w br rv l p) (hK : Bk2 base w kb vB vI V I) (hne : br ≠ kb) (hnB : ∀ k, vI.ownBlock = some k → k ≠ br ∧ rv.ownBlock ≠ some k) (hnk : rv.ownBlock ≠ some kb) (hnI : vB.ownBlock ≠ some br) (hb0 : base ≤ w.heap.size) (hV : I.length ≤ 1099511627776) (hls : ls.length ≤ 4398046511104)
    (CR : Hid (∀ W, Kept (fun _ => False) w W → Calls Tryd.prog 51 #[.pointer (some ⟨br, 0, none⟩), .int .i64 nn] W fun e w' => ∃ (a : Option Addr) (m c : Nat), e = .returned (.tuple #[.slice a m c, ev]) ∧ Hid (Rd w' br rv l nx ∧ Kept (fun k => k = br) W w') ∧ Hid (m = ls.length ∧ IntsAt w' a ls ∧ (a = none → c = 0)) ∧ Hid (Q W a m c w')))
    (CN : Hid (∀ W, Kept (fun k => k = br ∨ k = kb ∨ vI.ownBlock = some k) w W → Calls Tryd.prog 22 #[ev] W fun e w' => e = .returned (.int .i64 E) ∧ w' = W)) :
    Calls Tryd.prog 23 #[.pointer (some ⟨br, 0, none⟩), .agg #[.int .i64 8, .bool sec, .int .i64 nn, .int .u64 U, .int .i64 ii, bv, .string s, lv], .pointer (some ⟨kb, 0, none⟩)] w fun e w' => ∃ (a : Option Addr) (m c : Nat) (a' : Option Addr) (c' : Nat) (W0 W1 : World) (vI' : Value), e = .returned (.agg #[.int .u64 0, .string ⟨#[]⟩, .slice a' ls.length c', .int .i64 (nx : Int), .int .i64 E]) ∧ IntsAt w' a' ls ∧ (∀ b off, a' = some ⟨b, off, none⟩ → w.heap.size ≤ b) ∧ Rd w' br rv l nx ∧ Bk2 base w' kb vB vI' V (I ++ [.slice a m c]) ∧ (∀ k, vI'.ownBlock = some k → vI.ownBlock = some k ∨ w.heap.size ≤ k ∧ W1.heap.size ≤ k) ∧ Kept (fun k => k = br ∨ k = kb ∨ vI.ownBlock = some k) w w' ∧ Q W0 a m c W1 ∧ Kept (fun _ => False) w W0 ∧ Kept (fun k => k < W0.heap.size) W1 w' := by
  have HNB := hideH hnB
  have HNI := hideH hnI
  clear hnB hnI
  have hbl : br < w.heap.size := lt_of_block hR.blk
  have hrl : ∀ k, rv.ownBlock = some k → k < w.heap.size := fun k e => (hR.own.lt k e).2
  obtain ⟨hkl, hBl, hIl⟩ := hK.lts
  have HRL := hideH hrl
  have HBL := hideH hBl
  have HIL := hideH hIl
  have HBK := hideH hK
  clear hR hrl hBl hIl hK
  go_enter Tryd.func23, Tryd.ntmps23
  go_wp2_with (go_at_call 51; refine StpH.go ?_)
  refine ⟨?_⟩
  refine (CR.out _ (three_newK _ _ _ _)).mono ?_
  clear CR
  rintro e W1 ⟨a, m, c, rfl, HP, HM, HQ⟩
  obtain ⟨hr1, k1⟩ := HP.out
  obtain ⟨hm, hia, haz⟩ := HM.out
  have k0 := three_newK w (.cells #[.int .i64 8, .bool sec, .int .i64 nn, .int .u64 U, .int .i64 ii, bv, .string s, lv] 37) (.cells #[.int .u64 0, .string ⟨#[]⟩, .slice none 0 0, .int .i64 0, .int .i64 0] 60) (.cells #[.int .u64 0, .string ⟨#[]⟩, .slice none 0 0, .int .i64 0, .int .i64 0] 60)
  have sz := size3K w (.cells #[.int .i64 8, .bool sec, .int .i64 nn, .int .u64 U, .int .i64 ii, bv, .string s, lv] 37) (.cells #[.int .u64 0, .string ⟨#[]⟩, .slice none 0 0, .int .i64 0, .int .i64 0] 60) (.cells #[.int .u64 0, .string ⟨#[]⟩, .slice none 0 0, .int .i64 0, .int .i64 0] 60)
  obtain ⟨W0, hW0⟩ : ∃ W0, W0 = ((w.alloc (.cells #[.int .i64 8, .bool sec, .int .i64 nn, .int .u64 U, .int .i64 ii, bv, .string s, lv] 37)).alloc (.cells #[.int .u64 0, .string ⟨#[]⟩, .slice none 0 0, .int .i64 0, .int .i64 0] 60)).alloc (.cells #[.int .u64 0, .string ⟨#[]⟩, .slice none 0 0, .int .i64 0, .int .i64 0] 60) := ⟨_, rfl⟩
  have h7a := last_newK w (.cells #[.int .i64 8, .bool sec, .int .i64 nn, .int .u64 U, .int .i64 ii, bv, .string s, lv] 37) (.cells #[.int .u64 0, .string ⟨#[]⟩, .slice none 0 0, .int .i64 0, .int .i64 0] 60) (.cells #[.int .u64 0, .string ⟨#[]⟩, .slice none 0 0, .int .i64 0, .int .i64 0] 60)
  have h6a := mid_newK w (.cells #[.int .i64 8, .bool sec, .int .i64 nn, .int .u64 U, .int .i64 ii, bv, .string s, lv] 37) (.cells #[.int .u64 0, .string ⟨#[]⟩, .slice none 0 0, .int .i64 0, .int .i64 0] 60) (.cells #[.int .u64 0, .string ⟨#[]⟩, .slice none 0 0, .int .i64 0, .int .i64 0] 60)
  rw [← hW0] at k0 sz k1 HQ h7a h6a
  have kw1 : Kept (fun k => k = br) w W1 := (k0.mono (fun _ f => f.elim)).trans k1 (fun _ e => .inl e)
  have h7 := k1.heap h7a (fun f => by have f2 : w.heap.size + 1 + 1 = br := f; omega)
  have h6 := k1.heap h6a (fun f => by have f2 : w.heap.size + 1 = br := f; omega)
  have s1 : W0.heap.size ≤ W1.heap.size := k1.size
  have ka := Kept.alloc W1 (.cells #[] 3)
  have HR0 : Hid ((W1.alloc (.cells #[] 3)).ownsRow W1.heap.size 3 1 (.slice (some ⟨W1.heap.size, 0, none⟩) 0 0) 0 (isH [])) := hideH ⟨rfl, .inr ⟨W1.heap.size, 0, #[], rfl, Nat.le_refl _, heap_alloc_new W1 _, Nat.le_refl _, Nat.zero_le _, rfl, rfl⟩⟩
  have HIA : Hid (IntsAt (W1.alloc (.cells #[] 3)) a ls) := hideH (fun hne => by
    obtain ⟨b, off, e, hc⟩ := hia hne
    exact ⟨b, off, e, fun k hk => ka.cell (hc k hk) (fun f => f)⟩)
  have hmb : m ≤ 4398046511104 := by omega
  have HML := hideH hm
  have HAZ := hideH haz
  have HSA := hideH ka.size
  have HKA := hideH ka
  have H7 := hideH h7
  have H6 := hideH h6
  have HK0 := hideH k0
  have HR1 := hideH hr1
  have HKW1 := hideH kw1
  clear hW0 h7a h6a h6 h7 k0 k1 kw1 hr1 HP HM ka hm hia haz
  go_wp2_with (at_builtin; refine StpH.go ?_)
  refine ⟨?_⟩
  refine wpList_catHI rfl _ _ rfl (.slice (some ⟨W1.heap.size, 0, none⟩) 0 0) 0 [] ls rfl HR0 a m c rfl HML HIA HAZ (by omega) HSA ?_
  intro a' c' W2 HO2 HKc
  have k12 : Kept (fun _ => False) W1 W2 := HKA.out.trans HKc.out (fun i e => .inr (by have e2 : W1.heap.size = i := Option.some.inj e; omega))
  have h7 := k12.heap H7.out (fun f => f)
  have h6 := k12.heap H6.out (fun f => f)
  have c0 : W2.cell? ⟨w.heap.size + 1 + 1, 0, none⟩ = some (.int .u64 0) := by rw [cell_of_row _ _ 0 _ _ _ h7]; rfl
  have c1 : W2.cell? ⟨w.heap.size + 1 + 1, 1, none⟩ = some (.string ⟨#[]⟩) := by rw [cell_of_row _ _ 1 _ _ _ h7]; rfl
  have c2 : W2.cell? ⟨w.heap.size + 1 + 1, 2, none⟩ = some (.slice none 0 0) := by rw [cell_of_row _ _ 2 _ _ _ h7]; rfl
  have c3 : W2.cell? ⟨w.heap.size + 1 + 1, 3, none⟩ = some (.int .i64 0) := by rw [cell_of_row _ _ 3 _ _ _ h7]; rfl
  have c4 : W2.cell? ⟨w.heap.size + 1 + 1, 4, none⟩ = some (.int .i64 0) := by rw [cell_of_row _ _ 4 _ _ _ h7]; rfl
  have f7 : ∀ j, W2.frozen? ⟨w.heap.size + 1 + 1, j, none⟩ = false := fun j => by simp [World.frozen?, h7]
  have ks := kset1K (W := W2) (g := w.heap.size + 1 + 1) (i := 2) (x := .slice a' m c')
  have h7b := look_set1K (i := 2) (x := .slice a' m c') h7
  have h6b := heap_put1K (i := 2) (x := .slice a' m c') (show w.heap.size + 1 ≠ w.heap.size + 1 + 1 by omega) h6
  have kw12 : Kept (fun k => k = br) w W2 := HKW1.out.trans k12 (fun _ f => f.elim)
  have bk1 : Bk2 base (W2.setCell ⟨w.heap.size + 1 + 1, 2, none⟩ (.slice a' m c')) kb vB vI V I := (HBK.out.kept kw12 (fun f => hne f.symm) (fun q e f => HNI.out (by have f2 : q = br := f; rw [← f2]; exact e)) (fun q e f => (HNB.out q e).1 f)).kept ks (fun f => by have f2 : kb = w.heap.size + 1 + 1 := f; omega) (fun q e f => by have f2 : q = w.heap.size + 1 + 1 := f; have := HBL.out q e; omega) (fun q e f => by have f2 : q = w.heap.size + 1 + 1 := f; have := HIL.out q e; omega)
  have rd1 : Rd (W2.setCell ⟨w.heap.size + 1 + 1, 2, none⟩ (.slice a' m c')) br rv l nx := (HR1.out.kept k12 (fun f => f) (fun _ _ f => f)).kept ks (fun f => by have f2 : br = w.heap.size + 1 + 1 := f; omega) (fun i e f => by have f2 : i = w.heap.size + 1 + 1 := f; have := HRL.out i e; omega)
  have kws : Kept (fun k => k = br) w (W2.setCell ⟨w.heap.size + 1 + 1, 2, none⟩ (.slice a' m c')) := kw12.trans ks (fun i f => .inr (by have f2 : i = w.heap.size + 1 + 1 := f; omega))
  have s2 : W0.heap.size ≤ (W2.setCell ⟨w.heap.size + 1 + 1, 2, none⟩ (.slice a' m c')).heap.size := Nat.le_trans (Nat.le_trans s1 k12.size) ks.size
  have s3 : W1.heap.size ≤ (W2.setCell ⟨w.heap.size + 1 + 1, 2, none⟩ (.slice a' m c')).heap.size := Nat.le_trans k12.size ks.size
  have ho2 : (W2.setCell ⟨w.heap.size + 1 + 1, 2, none⟩ (.slice a' m c')).ownsRow W1.heap.size 3 1 (.slice a' m c') m (isH ls) := by
    have q := HO2.out
    rw [Nat.zero_add, List.nil_append] at q
    exact ks.row q (fun i e f => by have f2 : i = w.heap.size + 1 + 1 := f; have := (q.lt i e).1; omega)
  have BB := hideH (book2_ints base kb I.length vB vI V I a m c _ bk1 rfl hV (Nat.le_trans hb0 (by omega)))
  have HRD := hideH rd1
  have HKS : Hid (Kept (fun k => k = w.heap.size + 1 + 1) W1 (W2.setCell ⟨w.heap.size + 1 + 1, 2, none⟩ (.slice a' m c'))) := hideH ((k12.mono (fun _ f => f.elim)).trans ks (fun _ f => .inl f))
  have HKWS := hideH kws
  have H7b := hideH h7b
  have H6b := hideH h6b
  have HOL := hideH ho2
  clear HO2 HKc h6 h7 h7b h6b ks rd1 kws bk1 ho2 kw12 k12 HR0 HIA HAZ HSA HKA HR1 HKW1 H7 H6
  go_wp2_with (go_at_call 52; refine StpH.go ?_)
  refine ⟨?_⟩
  refine BB.out.mono ?_
  clear BB c0 c1 c2 c3 c4 f7
  rintro e W3 ⟨rfl, vI', bk2, k2, nw⟩
  have far : ∀ k, w.heap.size ≤ k → ¬ (k = kb ∨ vI.ownBlock = some k) := fun k h1 f => f.elim (fun e => by omega) (fun e => by have := HIL.out k e; omega)
  have h7 := k2.heap H7b.out (far _ (by omega))
  have h6 := k2.heap H6b.out (far _ (by omega))
  have rd2 : Rd W3 br rv l nx := HRD.out.kept k2 (fun f => f.elim (fun e => hne e) (fun e => (HNB.out br e).1 rfl)) (fun i e f => f.elim (fun e2 => hnk (by rw [← e2]; exact e)) (fun e2 => (HNB.out i e2).2 e))
  have ol3 := k2.row HOL.out (fun i e => far i (by have := (HOL.out.lt i e).1; omega))
  have kw2 : Kept (fun k => k = br ∨ k = kb ∨ vI.ownBlock = some k) w W3 := (HKWS.out.mono (fun _ e => .inl (.inl e))).trans k2 (fun i e => .inl (.inr e))
  have c0 : W3.cell? ⟨w.heap.size + 1 + 1, 0, none⟩ = some (.int .u64 0) := by rw [cell_of_row _ _ 0 _ _ _ h7]; rfl
  have c1 : W3.cell? ⟨w.heap.size + 1 + 1, 1, none⟩ = some (.string ⟨#[]⟩) := by rw [cell_of_row _ _ 1 _ _ _ h7]; rfl
  have c2 : W3.cell? ⟨w.heap.size + 1 + 1, 2, none⟩ = some (.slice a' m c') := by rw [cell_of_row _ _ 2 _ _ _ h7]; rfl
  have c3 : W3.cell? ⟨w.heap.size + 1 + 1, 3, none⟩ = some (.int .i64 0) := by rw [cell_of_row _ _ 3 _ _ _ h7]; rfl
  have c4 : W3.cell? ⟨w.heap.size + 1 + 1, 4, none⟩ = some (.int .i64 0) := by rw [cell_of_row _ _ 4 _ _ _ h7]; rfl
  have d0 : W3.cell? ⟨w.heap.size + 1, 0, none⟩ = some (.int .u64 0) := by rw [cell_of_row _ _ 0 _ _ _ h6]; rfl
  have d1 : W3.cell? ⟨w.heap.size + 1, 1, none⟩ = some (.string ⟨#[]⟩) := by rw [cell_of_row _ _ 1 _ _ _ h6]; rfl
  have d2 : W3.cell? ⟨w.heap.size + 1, 2, none⟩ = some (.slice none 0 0) := by rw [cell_of_row _ _ 2 _ _ _ h6]; rfl
  have d3 : W3.cell? ⟨w.heap.size + 1, 3, none⟩ = some (.int .i64 0) := by rw [cell_of_row _ _ 3 _ _ _ h6]; rfl
  have d4 : W3.cell? ⟨w.heap.size + 1, 4, none⟩ = some (.int .i64 0) := by rw [cell_of_row _ _ 4 _ _ _ h6]; rfl
  have f7 : ∀ j, W3.frozen? ⟨w.heap.size + 1 + 1, j, none⟩ = false := fun j => by simp [World.frozen?, h7]
  have f6 : ∀ j, W3.frozen? ⟨w.heap.size + 1, j, none⟩ = false := fun j => by simp [World.frozen?, h6]
  have CA := hideH (at_any br rv l nx W3 rd2)
  have HN : Hid (∀ W, Kept (fun k => k = w.heap.size + 1 + 1) W3 W → Calls Tryd.prog 22 #[ev] W fun e w' => e = .returned (.int .i64 E) ∧ w' = W) := hideH (fun W k => CN.out W (kw2.trans k (fun i f => .inr (by have f2 : i = w.heap.size + 1 + 1 := f; omega))))
  have HR2 := hideH rd2
  have HKW := hideH kw2
  have HB2 := hideH bk2
  have HNW := hideH nw
  have HK2 := hideH k2
  have H6' := hideH h6
  have HOL3 := hideH ol3
  clear h6 h7 far rd2 kw2 bk2 nw k2 CN ol3 H7b H6b HOL
  go_wp2_with (go_at_call 20; refine StpH.go ?_)
  refine ⟨?_⟩
  refine CA.out.mono ?_
  clear CA
  rintro e W4 ⟨rfl, rfl⟩
  go_wp2_with (go_at_call 22; refine StpH.go ?_)
  refine ⟨?_⟩
  refine (HN.out _ ?_).mono ?_
  · exact kset1K
  clear HN
  rintro e W5 ⟨rfl, rfl⟩
  go_wp2_with fail
  refine bodyPost_ret (results_cellK rfl _ _ _ (w.heap.size + 1) _ rfl (load_lookK (by exact look_put5K (heap_put2K (by omega) H6'.out)))) rfl ?_
  have hnw : ∀ k, vI'.ownBlock = some k → vI.ownBlock = some k ∨ w.heap.size + 3 ≤ k ∧ W1.heap.size ≤ k := fun k e => (HNW.out k e).imp id (fun q => ⟨by omega, by omega⟩)
  have hml := HML.out
  refine ⟨a, m, c, a', c', W0, W1, vI', by rw [← hml], ?_, fun b off e => by have q := (HOL3.out.lt b (by rw [e]; rfl)).1; omega, ?_, ?_, fun k e => (hnw k e).imp id (fun q => ⟨by omega, q.2⟩), ?_, HQ.out, HK0.out, ?_⟩
  · have q := (kept_put7K (W := W4) (z0 := w.heap.size) (z := w.heap.size + 3) (g := w.heap.size + 1) (h := w.heap.size + 1 + 1) (i := 3) (j := 4) (x := .int .i64 (nx : Int)) (y := .int .i64 E) (v0 := .int .u64 0) (v1 := .string ⟨#[]⟩) (v2 := .slice a' m c') (v3 := .int .i64 (nx : Int)) (v4 := .int .i64 E) ⟨by omega, by omega⟩ ⟨by omega, by omega⟩).row HOL3.out (fun i e f => by have f2 := f.2; have := (HOL3.out.lt i e).1; omega)
    have li := (LibI.of_own q).ints
    exact li.1
  · exact HR2.out.kept (kept_put7K (z0 := w.heap.size) (z := w.heap.size + 3) ⟨by omega, by omega⟩ ⟨by omega, by omega⟩) (fun f => by have f2 := f.1; omega) (fun i e f => by have f2 := f.1; have := HRL.out i e; omega)
  · exact HB2.out.kept (kept_put7K (z0 := w.heap.size) (z := w.heap.size + 3) ⟨by omega, by omega⟩ ⟨by omega, by omega⟩) (fun f => by have f2 := f.1; omega) (fun i e f => by have f2 := f.1; have := HBL.out i e; omega) (fun i e f => (hnw i e).elim (fun q => by have f2 := f.1; have := HIL.out i q; omega) (fun q => by have f2 := f.2; omega))
  · exact HKW.out.trans (kept_put7K (z0 := w.heap.size) (z := w.heap.size + 3) ⟨by omega, by omega⟩ ⟨by omega, by omega⟩) (fun _ e => .inr e.1)
  · exact ((HKS.out.mono (fun i e => .inl (by have e2 : i = w.heap.size + 1 + 1 := e; omega))).trans HK2.out (fun i e => .inl (e.elim (fun q => by omega) (fun q => by have := HIL.out i q; omega)))).trans (kept_put7K (z0 := w.heap.size) (z := w.heap.size + 3) ⟨by omega, by omega⟩ ⟨by omega, by omega⟩) (fun i e => .inl (by have f2 := e.2; omega))

set_option maxRecDepth 20000 in
set_option maxHeartbeats 8000000 in
theorem asked_9K (sec : Bool) (nn U ii : Int) (bv : Value) (s : ByteArray) (lv : Value) (br : Nat) (rv : Value) (l : List Int) (p nx : Nat) (ls : List Int) (ev : Value) (E : Int) (base kb : Nat) (vB vI : Value) (V I : List Value) (w : World) (Q : World → Option Addr → Nat → Nat → World → Prop) (hR : Rd w br rv l p) (hK : Bk2 base w kb vB vI V I) (hne : br ≠ kb) (hnB : ∀ k, vI.ownBlock = some k → k ≠ br ∧ rv.ownBlock ≠ some k) (hnk : rv.ownBlock ≠ some kb) (hnI : vB.ownBlock ≠ some br) (hb0 : base ≤ w.heap.size) (hV : I.length ≤ 1099511627776) (hls : ls.length ≤ 4398046511104)
    (CR : Hid (∀ W, Kept (fun _ => False) w W → Calls Tryd.prog 53 #[.pointer (some ⟨br, 0, none⟩), .int .i64 nn] W fun e w' => ∃ (a : Option Addr) (m c : Nat), e = .returned (.tuple #[.slice a m c, ev]) ∧ Hid (Rd w' br rv l nx ∧ Kept (fun k => k = br) W w') ∧ Hid (m = ls.length ∧ IntsAt w' a ls ∧ (a = none → c = 0)) ∧ Hid (Q W a m c w')))
    (CN : Hid (∀ W, Kept (fun k => k = br ∨ k = kb ∨ vI.ownBlock = some k) w W → Calls Tryd.prog 22 #[ev] W fun e w' => e = .returned (.int .i64 E) ∧ w' = W)) :
    Calls Tryd.prog 23 #[.pointer (some ⟨br, 0, none⟩), .agg #[.int .i64 9, .bool sec, .int .i64 nn, .int .u64 U, .int .i64 ii, bv, .string s, lv], .pointer (some ⟨kb, 0, none⟩)] w fun e w' => ∃ (a : Option Addr) (m c : Nat) (a' : Option Addr) (c' : Nat) (W0 W1 : World) (vI' : Value), e = .returned (.agg #[.int .u64 0, .string ⟨#[]⟩, .slice a' ls.length c', .int .i64 (nx : Int), .int .i64 E]) ∧ IntsAt w' a' ls ∧ (∀ b off, a' = some ⟨b, off, none⟩ → w.heap.size ≤ b) ∧ Rd w' br rv l nx ∧ Bk2 base w' kb vB vI' V (I ++ [.slice a m c]) ∧ (∀ k, vI'.ownBlock = some k → vI.ownBlock = some k ∨ w.heap.size ≤ k ∧ W1.heap.size ≤ k) ∧ Kept (fun k => k = br ∨ k = kb ∨ vI.ownBlock = some k) w w' ∧ Q W0 a m c W1 ∧ Kept (fun _ => False) w W0 ∧ Kept (fun k => k < W0.heap.size) W1 w' := by
  have HNB := hideH hnB
  have HNI := hideH hnI
  clear hnB hnI
  have hbl : br < w.heap.size := lt_of_block hR.blk
  have hrl : ∀ k, rv.ownBlock = some k → k < w.heap.size := fun k e => (hR.own.lt k e).2
  obtain ⟨hkl, hBl, hIl⟩ := hK.lts
  have HRL := hideH hrl
  have HBL := hideH hBl
  have HIL := hideH hIl
  have HBK := hideH hK
  clear hR hrl hBl hIl hK
  go_enter Tryd.func23, Tryd.ntmps23
  go_wp2_with (go_at_call 53; refine StpH.go ?_)
  refine ⟨?_⟩
  refine (CR.out _ (three_newK _ _ _ _)).mono ?_
  clear CR
  rintro e W1 ⟨a, m, c, rfl, HP, HM, HQ⟩
  obtain ⟨hr1, k1⟩ := HP.out
  obtain ⟨hm, hia, haz⟩ := HM.out
  have k0 := three_newK w (.cells #[.int .i64 9, .bool sec, .int .i64 nn, .int .u64 U, .int .i64 ii, bv, .string s, lv] 37) (.cells #[.int .u64 0, .string ⟨#[]⟩, .slice none 0 0, .int .i64 0, .int .i64 0] 60) (.cells #[.int .u64 0, .string ⟨#[]⟩, .slice none 0 0, .int .i64 0, .int .i64 0] 60)
  have sz := size3K w (.cells #[.int .i64 9, .bool sec, .int .i64 nn, .int .u64 U, .int .i64 ii, bv, .string s, lv] 37) (.cells #[.int .u64 0, .string ⟨#[]⟩, .slice none 0 0, .int .i64 0, .int .i64 0] 60) (.cells #[.int .u64 0, .string ⟨#[]⟩, .slice none 0 0, .int .i64 0, .int .i64 0] 60)
  obtain ⟨W0, hW0⟩ : ∃ W0, W0 = ((w.alloc (.cells #[.int .i64 9, .bool sec, .int .i64 nn, .int .u64 U, .int .i64 ii, bv, .string s, lv] 37)).alloc (.cells #[.int .u64 0, .string ⟨#[]⟩, .slice none 0 0, .int .i64 0, .int .i64 0] 60)).alloc (.cells #[.int .u64 0, .string ⟨#[]⟩, .slice none 0 0, .int .i64 0, .int .i64 0] 60) := ⟨_, rfl⟩
  have h7a := last_newK w (.cells #[.int .i64 9, .bool sec, .int .i64 nn, .int .u64 U, .int .i64 ii, bv, .string s, lv] 37) (.cells #[.int .u64 0, .string ⟨#[]⟩, .slice none 0 0, .int .i64 0, .int .i64 0] 60) (.cells #[.int .u64 0, .string ⟨#[]⟩, .slice none 0 0, .int .i64 0, .int .i64 0] 60)
  have h6a := mid_newK w (.cells #[.int .i64 9, .bool sec, .int .i64 nn, .int .u64 U, .int .i64 ii, bv, .string s, lv] 37) (.cells #[.int .u64 0, .string ⟨#[]⟩, .slice none 0 0, .int .i64 0, .int .i64 0] 60) (.cells #[.int .u64 0, .string ⟨#[]⟩, .slice none 0 0, .int .i64 0, .int .i64 0] 60)
  rw [← hW0] at k0 sz k1 HQ h7a h6a
  have kw1 : Kept (fun k => k = br) w W1 := (k0.mono (fun _ f => f.elim)).trans k1 (fun _ e => .inl e)
  have h7 := k1.heap h7a (fun f => by have f2 : w.heap.size + 1 + 1 = br := f; omega)
  have h6 := k1.heap h6a (fun f => by have f2 : w.heap.size + 1 = br := f; omega)
  have s1 : W0.heap.size ≤ W1.heap.size := k1.size
  have ka := Kept.alloc W1 (.cells #[] 3)
  have HR0 : Hid ((W1.alloc (.cells #[] 3)).ownsRow W1.heap.size 3 1 (.slice (some ⟨W1.heap.size, 0, none⟩) 0 0) 0 (isH [])) := hideH ⟨rfl, .inr ⟨W1.heap.size, 0, #[], rfl, Nat.le_refl _, heap_alloc_new W1 _, Nat.le_refl _, Nat.zero_le _, rfl, rfl⟩⟩
  have HIA : Hid (IntsAt (W1.alloc (.cells #[] 3)) a ls) := hideH (fun hne => by
    obtain ⟨b, off, e, hc⟩ := hia hne
    exact ⟨b, off, e, fun k hk => ka.cell (hc k hk) (fun f => f)⟩)
  have hmb : m ≤ 4398046511104 := by omega
  have HML := hideH hm
  have HAZ := hideH haz
  have HSA := hideH ka.size
  have HKA := hideH ka
  have H7 := hideH h7
  have H6 := hideH h6
  have HK0 := hideH k0
  have HR1 := hideH hr1
  have HKW1 := hideH kw1
  clear hW0 h7a h6a h6 h7 k0 k1 kw1 hr1 HP HM ka hm hia haz
  go_wp2_with (at_builtin; refine StpH.go ?_)
  refine ⟨?_⟩
  refine wpList_catHI rfl _ _ rfl (.slice (some ⟨W1.heap.size, 0, none⟩) 0 0) 0 [] ls rfl HR0 a m c rfl HML HIA HAZ (by omega) HSA ?_
  intro a' c' W2 HO2 HKc
  have k12 : Kept (fun _ => False) W1 W2 := HKA.out.trans HKc.out (fun i e => .inr (by have e2 : W1.heap.size = i := Option.some.inj e; omega))
  have h7 := k12.heap H7.out (fun f => f)
  have h6 := k12.heap H6.out (fun f => f)
  have c0 : W2.cell? ⟨w.heap.size + 1 + 1, 0, none⟩ = some (.int .u64 0) := by rw [cell_of_row _ _ 0 _ _ _ h7]; rfl
  have c1 : W2.cell? ⟨w.heap.size + 1 + 1, 1, none⟩ = some (.string ⟨#[]⟩) := by rw [cell_of_row _ _ 1 _ _ _ h7]; rfl
  have c2 : W2.cell? ⟨w.heap.size + 1 + 1, 2, none⟩ = some (.slice none 0 0) := by rw [cell_of_row _ _ 2 _ _ _ h7]; rfl
  have c3 : W2.cell? ⟨w.heap.size + 1 + 1, 3, none⟩ = some (.int .i64 0) := by rw [cell_of_row _ _ 3 _ _ _ h7]; rfl
  have c4 : W2.cell? ⟨w.heap.size + 1 + 1, 4, none⟩ = some (.int .i64 0) := by rw [cell_of_row _ _ 4 _ _ _ h7]; rfl
  have f7 : ∀ j, W2.frozen? ⟨w.heap.size + 1 + 1, j, none⟩ = false := fun j => by simp [World.frozen?, h7]
  have ks := kset1K (W := W2) (g := w.heap.size + 1 + 1) (i := 2) (x := .slice a' m c')
  have h7b := look_set1K (i := 2) (x := .slice a' m c') h7
  have h6b := heap_put1K (i := 2) (x := .slice a' m c') (show w.heap.size + 1 ≠ w.heap.size + 1 + 1 by omega) h6
  have kw12 : Kept (fun k => k = br) w W2 := HKW1.out.trans k12 (fun _ f => f.elim)
  have bk1 : Bk2 base (W2.setCell ⟨w.heap.size + 1 + 1, 2, none⟩ (.slice a' m c')) kb vB vI V I := (HBK.out.kept kw12 (fun f => hne f.symm) (fun q e f => HNI.out (by have f2 : q = br := f; rw [← f2]; exact e)) (fun q e f => (HNB.out q e).1 f)).kept ks (fun f => by have f2 : kb = w.heap.size + 1 + 1 := f; omega) (fun q e f => by have f2 : q = w.heap.size + 1 + 1 := f; have := HBL.out q e; omega) (fun q e f => by have f2 : q = w.heap.size + 1 + 1 := f; have := HIL.out q e; omega)
  have rd1 : Rd (W2.setCell ⟨w.heap.size + 1 + 1, 2, none⟩ (.slice a' m c')) br rv l nx := (HR1.out.kept k12 (fun f => f) (fun _ _ f => f)).kept ks (fun f => by have f2 : br = w.heap.size + 1 + 1 := f; omega) (fun i e f => by have f2 : i = w.heap.size + 1 + 1 := f; have := HRL.out i e; omega)
  have kws : Kept (fun k => k = br) w (W2.setCell ⟨w.heap.size + 1 + 1, 2, none⟩ (.slice a' m c')) := kw12.trans ks (fun i f => .inr (by have f2 : i = w.heap.size + 1 + 1 := f; omega))
  have s2 : W0.heap.size ≤ (W2.setCell ⟨w.heap.size + 1 + 1, 2, none⟩ (.slice a' m c')).heap.size := Nat.le_trans (Nat.le_trans s1 k12.size) ks.size
  have s3 : W1.heap.size ≤ (W2.setCell ⟨w.heap.size + 1 + 1, 2, none⟩ (.slice a' m c')).heap.size := Nat.le_trans k12.size ks.size
  have ho2 : (W2.setCell ⟨w.heap.size + 1 + 1, 2, none⟩ (.slice a' m c')).ownsRow W1.heap.size 3 1 (.slice a' m c') m (isH ls) := by
    have q := HO2.out
    rw [Nat.zero_add, List.nil_append] at q
    exact ks.row q (fun i e f => by have f2 : i = w.heap.size + 1 + 1 := f; have := (q.lt i e).1; omega)
  have BB := hideH (book2_ints base kb I.length vB vI V I a m c _ bk1 rfl hV (Nat.le_trans hb0 (by omega)))
  have HRD := hideH rd1
  have HKS : Hid (Kept (fun k => k = w.heap.size + 1 + 1) W1 (W2.setCell ⟨w.heap.size + 1 + 1, 2, none⟩ (.slice a' m c'))) := hideH ((k12.mono (fun _ f => f.elim)).trans ks (fun _ f => .inl f))
  have HKWS := hideH kws
  have H7b := hideH h7b
  have H6b := hideH h6b
  have HOL := hideH ho2
  clear HO2 HKc h6 h7 h7b h6b ks rd1 kws bk1 ho2 kw12 k12 HR0 HIA HAZ HSA HKA HR1 HKW1 H7 H6
  go_wp2_with (go_at_call 52; refine StpH.go ?_)
  refine ⟨?_⟩
  refine BB.out.mono ?_
  clear BB c0 c1 c2 c3 c4 f7
  rintro e W3 ⟨rfl, vI', bk2, k2, nw⟩
  have far : ∀ k, w.heap.size ≤ k → ¬ (k = kb ∨ vI.ownBlock = some k) := fun k h1 f => f.elim (fun e => by omega) (fun e => by have := HIL.out k e; omega)
  have h7 := k2.heap H7b.out (far _ (by omega))
  have h6 := k2.heap H6b.out (far _ (by omega))
  have rd2 : Rd W3 br rv l nx := HRD.out.kept k2 (fun f => f.elim (fun e => hne e) (fun e => (HNB.out br e).1 rfl)) (fun i e f => f.elim (fun e2 => hnk (by rw [← e2]; exact e)) (fun e2 => (HNB.out i e2).2 e))
  have ol3 := k2.row HOL.out (fun i e => far i (by have := (HOL.out.lt i e).1; omega))
  have kw2 : Kept (fun k => k = br ∨ k = kb ∨ vI.ownBlock = some k) w W3 := (HKWS.out.mono (fun _ e => .inl (.inl e))).trans k2 (fun i e => .inl (.inr e))
  have c0 : W3.cell? ⟨w.heap.size + 1 + 1, 0, none⟩ = some (.int .u64 0) := by rw [cell_of_row _ _ 0 _ _ _ h7]; rfl
  have c1 : W3.cell? ⟨w.heap.size + 1 + 1, 1, none⟩ = some (.string ⟨#[]⟩) := by rw [cell_of_row _ _ 1 _ _ _ h7]; rfl
  have c2 : W3.cell? ⟨w.heap.size + 1 + 1, 2, none⟩ = some (.slice a' m c') := by rw [cell_of_row _ _ 2 _ _ _ h7]; rfl
  have c3 : W3.cell? ⟨w.heap.size + 1 + 1, 3, none⟩ = some (.int .i64 0) := by rw [cell_of_row _ _ 3 _ _ _ h7]; rfl
  have c4 : W3.cell? ⟨w.heap.size + 1 + 1, 4, none⟩ = some (.int .i64 0) := by rw [cell_of_row _ _ 4 _ _ _ h7]; rfl
  have d0 : W3.cell? ⟨w.heap.size + 1, 0, none⟩ = some (.int .u64 0) := by rw [cell_of_row _ _ 0 _ _ _ h6]; rfl
  have d1 : W3.cell? ⟨w.heap.size + 1, 1, none⟩ = some (.string ⟨#[]⟩) := by rw [cell_of_row _ _ 1 _ _ _ h6]; rfl
  have d2 : W3.cell? ⟨w.heap.size + 1, 2, none⟩ = some (.slice none 0 0) := by rw [cell_of_row _ _ 2 _ _ _ h6]; rfl
  have d3 : W3.cell? ⟨w.heap.size + 1, 3, none⟩ = some (.int .i64 0) := by rw [cell_of_row _ _ 3 _ _ _ h6]; rfl
  have d4 : W3.cell? ⟨w.heap.size + 1, 4, none⟩ = some (.int .i64 0) := by rw [cell_of_row _ _ 4 _ _ _ h6]; rfl
  have f7 : ∀ j, W3.frozen? ⟨w.heap.size + 1 + 1, j, none⟩ = false := fun j => by simp [World.frozen?, h7]
  have f6 : ∀ j, W3.frozen? ⟨w.heap.size + 1, j, none⟩ = false := fun j => by simp [World.frozen?, h6]
  have CA := hideH (at_any br rv l nx W3 rd2)
  have HN : Hid (∀ W, Kept (fun k => k = w.heap.size + 1 + 1) W3 W → Calls Tryd.prog 22 #[ev] W fun e w' => e = .returned (.int .i64 E) ∧ w' = W) := hideH (fun W k => CN.out W (kw2.trans k (fun i f => .inr (by have f2 : i = w.heap.size + 1 + 1 := f; omega))))
  have HR2 := hideH rd2
  have HKW := hideH kw2
  have HB2 := hideH bk2
  have HNW := hideH nw
  have HK2 := hideH k2
  have H6' := hideH h6
  have HOL3 := hideH ol3
  clear h6 h7 far rd2 kw2 bk2 nw k2 CN ol3 H7b H6b HOL
  go_wp2_with (go_at_call 20; refine StpH.go ?_)
  refine ⟨?_⟩
  refine CA.out.mono ?_
  clear CA
  rintro e W4 ⟨rfl, rfl⟩
  go_wp2_with (go_at_call 22; refine StpH.go ?_)
  refine ⟨?_⟩
  refine (HN.out _ ?_).mono ?_
  · exact kset1K
  clear HN
  rintro e W5 ⟨rfl, rfl⟩
  go_wp2_with fail
  refine bodyPost_ret (results_cellK rfl _ _ _ (w.heap.size + 1) _ rfl (load_lookK (by exact look_put5K (heap_put2K (by omega) H6'.out)))) rfl ?_
  have hnw : ∀ k, vI'.ownBlock = some k → vI.ownBlock = some k ∨ w.heap.size + 3 ≤ k ∧ W1.heap.size ≤ k := fun k e => (HNW.out k e).imp id (fun q => ⟨by omega, by omega⟩)
  have hml := HML.out
  refine ⟨a, m, c, a', c', W0, W1, vI', by rw [← hml], ?_, fun b off e => by have q := (HOL3.out.lt b (by rw [e]; rfl)).1; omega, ?_, ?_, fun k e => (hnw k e).imp id (fun q => ⟨by omega, q.2⟩), ?_, HQ.out, HK0.out, ?_⟩
  · have q := (kept_put7K (W := W4) (z0 := w.heap.size) (z := w.heap.size + 3) (g := w.heap.size + 1) (h := w.heap.size + 1 + 1) (i := 3) (j := 4) (x := .int .i64 (nx : Int)) (y := .int .i64 E) (v0 := .int .u64 0) (v1 := .string ⟨#[]⟩) (v2 := .slice a' m c') (v3 := .int .i64 (nx : Int)) (v4 := .int .i64 E) ⟨by omega, by omega⟩ ⟨by omega, by omega⟩).row HOL3.out (fun i e f => by have f2 := f.2; have := (HOL3.out.lt i e).1; omega)
    have li := (LibI.of_own q).ints
    exact li.1
  · exact HR2.out.kept (kept_put7K (z0 := w.heap.size) (z := w.heap.size + 3) ⟨by omega, by omega⟩ ⟨by omega, by omega⟩) (fun f => by have f2 := f.1; omega) (fun i e f => by have f2 := f.1; have := HRL.out i e; omega)
  · exact HB2.out.kept (kept_put7K (z0 := w.heap.size) (z := w.heap.size + 3) ⟨by omega, by omega⟩ ⟨by omega, by omega⟩) (fun f => by have f2 := f.1; omega) (fun i e f => by have f2 := f.1; have := HBL.out i e; omega) (fun i e f => (hnw i e).elim (fun q => by have f2 := f.1; have := HIL.out i q; omega) (fun q => by have f2 := f.2; omega))
  · exact HKW.out.trans (kept_put7K (z0 := w.heap.size) (z := w.heap.size + 3) ⟨by omega, by omega⟩ ⟨by omega, by omega⟩) (fun _ e => .inr e.1)
  · exact ((HKS.out.mono (fun i e => .inl (by have e2 : i = w.heap.size + 1 + 1 := e; omega))).trans HK2.out (fun i e => .inl (e.elim (fun q => by omega) (fun q => by have := HIL.out i q; omega)))).trans (kept_put7K (z0 := w.heap.size) (z := w.heap.size + 3) ⟨by omega, by omega⟩ ⟨by omega, by omega⟩) (fun i e => .inl (by have f2 := e.2; omega))

set_option maxRecDepth 20000 in
set_option maxHeartbeats 4000000 in
theorem asked_xK (kd : Int) (sec : Bool) (nn U ii : Int) (bv : Value) (s : ByteArray) (lv : Value) (br : Nat) (rv : Value) (l : List Int) (p : Nat) (kv : Value) (w : World) (hR : Rd w br rv l p) (hk : kd < 1 ∨ 10 < kd) :
    Calls Tryd.prog 23 #[.pointer (some ⟨br, 0, none⟩), .agg #[.int .i64 kd, .bool sec, .int .i64 nn, .int .u64 U, .int .i64 ii, bv, .string s, lv], kv] w fun e w' => e = .returned (.agg #[.int .u64 0, .string ⟨#[]⟩, .slice none 0 0, .int .i64 (p : Int), .int .i64 0]) ∧ Rd w' br rv l p ∧ Kept (fun k => k = br) w w' := by
  have n1 : (kd == 1) = false := by rw [beq_eq_false_iff_ne]; omega
  have n2 : (kd == 2) = false := by rw [beq_eq_false_iff_ne]; omega
  have n3 : (kd == 3) = false := by rw [beq_eq_false_iff_ne]; omega
  have n4 : (kd == 4) = false := by rw [beq_eq_false_iff_ne]; omega
  have n5 : (kd == 5) = false := by rw [beq_eq_false_iff_ne]; omega
  have n6 : (kd == 6) = false := by rw [beq_eq_false_iff_ne]; omega
  have n7 : (kd == 7) = false := by rw [beq_eq_false_iff_ne]; omega
  have n8 : (kd == 8) = false := by rw [beq_eq_false_iff_ne]; omega
  have n9 : (kd == 9) = false := by rw [beq_eq_false_iff_ne]; omega
  have n10 : (kd == 10) = false := by rw [beq_eq_false_iff_ne]; omega
  have HA : Hid (∀ W, Kept (fun _ => False) w W → Calls Tryd.prog 20 #[.pointer (some ⟨br, 0, none⟩)] W fun e w' => e = .returned (.int .i64 (p : Int)) ∧ w' = W) := hideH (fun W k => at_any br rv l p W (hR.kept k (fun f => f) (fun _ _ f => f)))
  have HR := hideH hR
  clear hk hR
  go_enter Tryd.func23, Tryd.ntmps23
  go_wp2_with (go_at_call 20; refine StpH.go ?_)
  refine ⟨?_⟩
  refine (HA.out _ (three_newK _ _ _ _)).mono ?_
  clear HA
  rintro e W1 ⟨rfl, rfl⟩
  go_wp2_with (go_at_call 22; refine StpH.go ?_)
  refine ⟨?_⟩
  refine (num_nilK _).mono ?_
  rintro e W2 ⟨rfl, rfl⟩
  go_wp2_with fail
  refine bodyPost_ret (results_cellK rfl _ _ _ (w.heap.size + 1) _ rfl (load_lookK (mid_newK _ _ _ _))) rfl ?_
  exact ⟨rfl, HR.out.kept (three_newK _ _ _ _) (fun f => f) (fun _ _ f => f), (three_newK _ _ _ _).mono (fun _ f => f.elim)⟩

end Go.Proofs.YtjmmdklgkcbihaaDoor

namespace Go.Proofs.YtjmmdklgkcbihaaDoor
open Go.ChangeShapes Go.WideShapes Go.ChangeAt Go.RowKit

theorem rdr_err_leK : ∀ (n s : Nat) (l : List Int) (e : Nat), rdr n s l = .error e → e ≤ 2
  | 0, s, l, e, h => by rw [rdr] at h; cases h
  | n + 1, s, l, e, h => by
    cases hr : rdu 0 0 l with
    | error er =>
      rw [rdr_err n s l er hr] at h
      have := rdu_err_le _ _ _ _ hr
      simp only [Except.error.injEq] at h
      omega
    | ok xk =>
      obtain ⟨x, k⟩ := xk
      by_cases hb : 9223372036854775807 < s + x
      · rw [rdr_lim n s l x k hr hb] at h
        simp only [Except.error.injEq] at h
        omega
      · rw [rdr_step n s l x k hr (by omega)] at h
        cases h2 : rdr n (s + x + 1) (l.drop k) with
        | error e2 =>
          rw [h2] at h
          simp only [Except.error.injEq] at h
          have := rdr_err_leK n _ _ _ h2
          omega
        | ok rm => rw [h2] at h; cases h
theorem rdr_lenK : ∀ (n s : Nat) (l : List Int) (xs : List Int) (m : Nat), rdr n s l = .ok (xs, m) → xs.length ≤ m ∧ m ≤ l.length
  | 0, s, l, xs, m, h => by rw [rdr] at h; simp only [Except.ok.injEq, Prod.mk.injEq] at h; obtain ⟨rfl, rfl⟩ := h; simp
  | n + 1, s, l, xs, m, h => by
    cases hr : rdu 0 0 l with
    | error er => rw [rdr_err n s l er hr] at h; cases h
    | ok xk =>
      obtain ⟨x, k⟩ := xk
      have hk := rdu_le _ _ _ _ _ hr
      by_cases hb : 9223372036854775807 < s + x
      · rw [rdr_lim n s l x k hr hb] at h; cases h
      · rw [rdr_step n s l x k hr (by omega)] at h
        cases h2 : rdr n (s + x + 1) (l.drop k) with
        | error e2 => rw [h2] at h; cases h
        | ok rm =>
          obtain ⟨r, m2⟩ := rm
          rw [h2] at h
          simp only [Except.ok.injEq, Prod.mk.injEq] at h
          obtain ⟨rfl, rfl⟩ := h
          have ih := rdr_lenK n _ _ _ _ h2
          rw [List.length_drop] at ih
          rw [List.length_cons]
          omega
theorem rdp_errK {n : Nat} {l : List Int} {e : Nat} (h : rdp n l = .error e) : e = 0 ∨ e = 2 ∨ e = 3 := by
  unfold rdp at h
  split at h
  · cases h
  · split at h
    · simp only [Except.error.injEq] at h; omega
    · split at h
      · simp only [Except.error.injEq] at h; omega
      · split at h
        · simp only [Except.error.injEq] at h; omega
        · split at h
          · cases h
          · simp only [Except.error.injEq] at h; omega
theorem rdp_lenK {n : Nat} {l xs : List Int} {m : Nat} (h : rdp n l = .ok (xs, m)) : xs.length ≤ 8 * l.length + 65536 := by
  unfold rdp at h
  split at h
  · simp only [Except.ok.injEq, Prod.mk.injEq] at h
    obtain ⟨rfl, rfl⟩ := h
    simp
  · split at h
    · cases h
    · rename_i c r
      split at h
      · cases h
      · rename_i h1
        split at h
        · cases h
        · rename_i h2
          split at h
          · simp only [Except.ok.injEq, Prod.mk.injEq] at h
            obtain ⟨rfl, rfl⟩ := h
            rw [unp_length, List.length_cons]
            by_cases hc : c.toNat = 0
            · have : ¬ 65536 < n := fun h => h1 (.inr ⟨hc, h⟩)
              omega
            · have hmul : n ≤ n * c.toNat := Nat.le_mul_of_pos_right _ (by omega)
              omega
          · cases h
theorem erOfK {ad : Nat → Addr} {er : Nat} (h : er ≤ 1) : errOf (ad 0) (ad 1) er = erK ad (er + 1) := by
  rcases (show er = 0 ∨ er = 1 by omega) with rfl | rfl <;> rfl
theorem erOf2K {ad : Nat → Addr} {er : Nat} (h : er ≤ 2) : errOf2 (ad 0) (ad 1) (ad 2) er = erK ad (er + 1) := by
  rcases (show er = 0 ∨ er = 1 ∨ er = 2 by omega) with rfl | rfl | rfl <;> rfl
theorem erOf3K {ad : Nat → Addr} {er : Nat} (h : er = 0 ∨ er = 2 ∨ er = 3) : errOf3 (ad 0) (ad 2) (ad 3) er = erK ad (er + 1) := by
  rcases h with rfl | rfl | rfl <;> rfl
/-- What the law's asked meets. -/
structure AkIn (w : World) (br : Nat) (rv : Value) (l : List Int) (p : Nat) (base kb : Nat) (vB vI : Value) (V I : List Value) (ad : Nat → Addr) : Prop where
  rd : Rd w br rv l p
  bk : Bk2 base w kb vB vI V I
  ne : br ≠ kb
  nB : ∀ k, vB.ownBlock = some k → k ≠ br ∧ rv.ownBlock ≠ some k
  nI : ∀ k, vI.ownBlock = some k → k ≠ br ∧ rv.ownBlock ≠ some k
  nk : rv.ownBlock ≠ some kb
  b0 : base ≤ w.heap.size
  es : ∀ W, Kept (fun k => k = br ∨ k = kb ∨ vB.ownBlock = some k ∨ vI.ownBlock = some k) w W → Es8K W ad
  lV : V.length ≤ 1048576
  lI : I.length ≤ 1048576
  sm : l.length ≤ 1048576
/-- What goes into the book. -/
inductive Adds (w w' : World) (vB' vI' : Value) (V I : List Value) : List Value → List Value → Prop
  | none : Adds w w' vB' vI' V I V I
  | bytes (v : Value) (t : List Int) (h : Lib w' v t) (hn : ∀ k, v.ownBlock = some k → w.heap.size ≤ k ∧ vB'.ownBlock ≠ some k ∧ vI'.ownBlock ≠ some k) (hl : t.length ≤ 33554432) : Adds w w' vB' vI' V I (V ++ [v]) I
  | ints (v : Value) (t : List Int) (h : LibI w' v t) (hn : ∀ k, v.ownBlock = some k → w.heap.size ≤ k ∧ vB'.ownBlock ≠ some k ∧ vI'.ownBlock ≠ some k) (hl : t.length ≤ 33554432) : Adds w w' vB' vI' V I V (I ++ [v])
/-- What the law's asked leaves. -/
def akP (w : World) (br : Nat) (rv : Value) (l : List Int) (base kb : Nat) (vB vI : Value) (V I : List Value) (R : Lk) (e : Ending) (w' : World) : Prop :=
  ∃ a c vB' vI' V' I', e = .returned (lkV R a c) ∧ IntsAt w' a R.ls ∧ (R.ls ≠ [] → ∀ b off, a = some ⟨b, off, none⟩ → w.heap.size ≤ b) ∧ Rd w' br rv l R.nx ∧ Bk2 base w' kb vB' vI' V' I' ∧ (∀ k, vB'.ownBlock = some k → vB.ownBlock = some k ∨ w.heap.size ≤ k) ∧ (∀ k, vI'.ownBlock = some k → vI.ownBlock = some k ∨ w.heap.size ≤ k) ∧ Kept (fun k => k = br ∨ k = kb ∨ vB.ownBlock = some k ∨ vI.ownBlock = some k) w w' ∧ Adds w w' vB' vI' V I V' I'
section
variable {w : World} {br : Nat} {rv : Value} {l : List Int} {p base kb : Nat} {vB vI : Value} {V I : List Value} {ad : Nat → Addr}
theorem ak_plain (h : AkIn w br rv l p base kb vB vI V I ad) {R : Lk} {e : Ending} {w' : World} (hl : R.ls = []) (q : e = .returned (.agg #[.int .u64 R.u, .string (strOfNums R.t), .slice none 0 0, .int .i64 (R.nx : Int), .int .i64 (R.e : Int)]) ∧ Rd w' br rv l R.nx ∧ Kept (fun k => k = br) w w') : akP w br rv l base kb vB vI V I R e w' := by
  obtain ⟨rfl, rd, k⟩ := q
  refine ⟨none, 0, vB, vI, V, I, ?_, ?_, (fun _ b off e => by cases e), rd, h.bk.kept k (fun f => h.ne f.symm) (fun q e f => (h.nB q e).1 f) (fun q e f => (h.nI q e).1 f), fun _ e => .inl e, fun _ e => .inl e, k.mono (fun _ e => .inl (.inl e)), .none⟩
  · rw [lkV, hl]; rfl
  · rw [hl]; exact fun e => (e rfl).elim
theorem AkIn.cn (h : AkIn w br rv l p base kb vB vI V I ad) (E : Nat) (hE : E ≤ 4 ∨ E = 8) : ∀ W, Kept (fun k => k = br) w W → Calls Tryd.prog 22 #[erK ad E] W fun e w' => e = .returned (.int .i64 (E : Int)) ∧ w' = W := fun W k => num_erK (h.es W (k.mono (fun _ e => .inl (.inl e)))) E hE
theorem AkIn.at (h : AkIn w br rv l p base kb vB vI V I ad) {W : World} (k : Kept (fun _ => False) w W) : Rd W br rv l p ∧ Es8K W ad := ⟨h.rd.kept k (fun f => f) (fun _ _ f => f), h.es W (k.mono (fun _ f => f.elim))⟩
theorem quietK {W w' : World} {e : Ending} {z v : Value} (h : Rd W br rv l p) (q : e = .returned (.tuple #[z, v]) ∧ ∃ n, w' = W.drewN n) : e = .returned (.tuple #[z, v]) ∧ Hid (Rd w' br rv l p ∧ Kept (fun k => k = br) W w') := by
  obtain ⟨rfl, n, rfl⟩ := q
  exact ⟨rfl, h.drewN n, (Kept.drewN _ _).mono (fun _ f => f.elim)⟩
theorem up_badK {W : World} (h : Rd W br rv l p) (hE : Es8K W ad) (nn : Int) (hm2 : nn ≤ 9223372036854775807) {er : Nat} (hu : upk nn l p = .error er) : (∀ a c, BytesAt W a l → ∀ n, Calls Tryd.prog 80 #[.slice a l.length c, .int .i64 p, .int .i64 nn] (W.drewN n) fun e w' => e = .returned (.tuple #[.int .i64 0, .int .i64 0, errV (ad er)]) ∧ ∃ m, w' = (W.drewN n).drewN m) ∧ er ≤ 2 := by
  have hsm := h.sm
  unfold upk at hu
  cases hr : rdu 0 0 (l.drop p) with
  | error e2 =>
    rw [hr] at hu
    simp only [Except.error.injEq] at hu
    subst hu
    have hle := rdu_err_le _ _ _ _ hr
    refine ⟨fun a c hb n => ?_, by omega⟩
    have q := upat_err l a c p e2 nn (ad 0) (ad 1) (W.drewN n) hb h.isb h.le (by omega) hE.s0.var hE.s1.var hr
    rw [erOfK hle] at q
    exact q
  | ok xk =>
    obtain ⟨x, k⟩ := xk
    rw [hr] at hu
    simp only at hu
    by_cases hx : (x : Int) ≤ nn
    · rw [if_pos hx] at hu; cases hu
    · rw [if_neg hx] at hu
      simp only [Except.error.injEq] at hu
      subst hu
      exact ⟨fun a c hb n => upat_lim l a c p x k nn (ad 0) (ad 1) (ad 2) (W.drewN n) hb h.isb h.le (by omega) hE.s0.var hE.s1.var hE.s2.var hr (by omega) hm2, by omega⟩
/-- What a call leaves whose list is new: what the law's asked makes of it. -/
def NewL (ls : List Int) (W : World) (a : Option Addr) (m c : Nat) (w' : World) : Prop := LibI w' (.slice a m c) ls ∧ ∀ k, (Value.slice a m c).ownBlock = some k → W.heap.size ≤ k ∧ k < w'.heap.size
theorem ak_list (h : AkIn w br rv l p base kb vB vI V I ad) {R : Lk} {E : Nat} {e : Ending} {w' : World} (hu : R.u = 0) (ht : R.t = []) (hRE : R.e = E) (hlen : R.ls.length ≤ 33554432)
    (q : ∃ (a : Option Addr) (m c : Nat) (a' : Option Addr) (c' : Nat) (W0 W1 : World) (vI' : Value), e = .returned (.agg #[.int .u64 0, .string ⟨#[]⟩, .slice a' R.ls.length c', .int .i64 (R.nx : Int), .int .i64 (E : Int)]) ∧ IntsAt w' a' R.ls ∧ (∀ b off, a' = some ⟨b, off, none⟩ → w.heap.size ≤ b) ∧ Rd w' br rv l R.nx ∧ Bk2 base w' kb vB vI' V (I ++ [.slice a m c]) ∧ (∀ k, vI'.ownBlock = some k → vI.ownBlock = some k ∨ w.heap.size ≤ k ∧ W1.heap.size ≤ k) ∧ Kept (fun k => k = br ∨ k = kb ∨ vI.ownBlock = some k) w w' ∧ NewL R.ls W0 a m c W1 ∧ Kept (fun _ => False) w W0 ∧ Kept (fun k => k < W0.heap.size) W1 w') : akP w br rv l base kb vB vI V I R e w' := by
  obtain ⟨a, m, c, a', c', W0, W1, vI', rfl, hia, hnewa, rd, bk, nw, kw, ⟨hlib, hblk⟩, k0, k1⟩ := q
  have hs0 := k0.size
  refine ⟨a', c', vB, vI', V, _, ?_, hia, (fun _ => hnewa), rd, bk, fun _ e => .inl e, fun k e => (nw k e).imp id (fun q => q.1), kw.mono (fun _ e => .inl (e.elim .inl (fun e => .inr (e.elim .inl (fun e => .inr (.inr e)))))), .ints _ R.ls (hlib.kept k1 (fun i e f => by have h1 := (hblk i e).1; have f2 : i < W0.heap.size := f; omega)) (fun k e => ⟨Nat.le_trans hs0 (hblk k e).1, fun e2 => ?_, fun e2 => ?_⟩) hlen⟩
  · rw [lkV, ht, hu, hRE]; rfl
  · have h1 := hblk k e
    have := (h.bk.rowB.lt k e2).2
    omega
  · have h1 := hblk k e
    rcases nw k e2 with q | q
    · have := (h.bk.rowI.lt k q).2
      omega
    · omega
theorem nil_callK {W w' : World} {e : Ending} {v : Value} (_h : Rd W br rv l p) (q : e = .returned (.tuple #[.slice none 0 0, v]) ∧ Rd w' br rv l p ∧ Kept (fun k => k = br) W w') : ∃ (a : Option Addr) (m c : Nat), e = .returned (.tuple #[.slice a m c, v]) ∧ Hid (Rd w' br rv l p ∧ Kept (fun k => k = br) W w') ∧ Hid (m = ([] : List Int).length ∧ IntsAt w' a [] ∧ (a = none → c = 0)) ∧ Hid (NewL [] W a m c w') :=
  ⟨none, 0, 0, q.1, q.2, ⟨rfl, fun h => absurd rfl h, fun _ => rfl⟩, .inl ⟨rfl, rfl⟩, fun k e => by cases e⟩
theorem own_callK {W w' : World} {e : Ending} {u : Value} {xs : List Int} {nx : Nat} (q : e = .returned (.tuple #[u, .nilIface]) ∧ w'.ownsRow W.heap.size 3 1 u xs.length (is xs) ∧ Rd w' br rv l nx ∧ Kept (fun k => k = br) W w') : ∃ (a : Option Addr) (m c : Nat), e = .returned (.tuple #[.slice a m c, erK ad 0]) ∧ Hid (Rd w' br rv l nx ∧ Kept (fun k => k = br) W w') ∧ Hid (m = xs.length ∧ IntsAt w' a xs ∧ (a = none → c = 0)) ∧ Hid (NewL xs W a m c w') := by
  obtain ⟨he, hrow, rd, k⟩ := q
  have hlib : LibI w' u xs := LibI.of_own hrow
  obtain ⟨a, c, rfl, hz, -⟩ := hlib.shape
  exact ⟨a, _, c, he, ⟨rd, k⟩, ⟨rfl, hlib.ints.1, fun e => (hz e).2⟩, hlib, fun k e => hrow.lt k e⟩
variable (sec : Bool) (nn U ii : Int) (bv : Value) (s : ByteArray) (lv : Value)
set_option maxRecDepth 20000 in
/-- The law's asked of any Op. -/
theorem asked_allK (kd : Int) (h : AkIn w br rv l p base kb vB vI V I ad) (hm0 : -9223372036854775808 ≤ nn) (hm : nn ≤ 9223372036854775807) :
    Calls Tryd.prog 23 #[.pointer (some ⟨br, 0, none⟩), .agg #[.int .i64 kd, .bool sec, .int .i64 nn, .int .u64 U, .int .i64 ii, bv, .string s, lv], .pointer (some ⟨kb, 0, none⟩)] w (akP w br rv l base kb vB vI V I (rlk kd nn l p)) := by
  have hI := h.rd.isb
  have hple := h.rd.le
  have hsm := h.sm
  unfold rlk
  by_cases q1 : kd = 1
  · rw [if_pos q1, q1]
    by_cases hlt : p < l.length
    · have hd := hI _ (List.getElem_mem hlt)
      have h3 : l[p]?.getD 0 = l[p] := by rw [List.getElem?_eq_getElem hlt]; rfl
      rw [byk, if_pos hlt]
      exact (asked_1K sec nn U ii bv s lv br rv l p (p + 1) (l[p]?.getD 0) (l[p]?.getD 0) (by rw [IntKind.wrap_u64, h3]; omega) (erK ad 0) ((0 : Nat) : Int) _ w h.rd (fun W k => (rbyte_ok br rv l p W (h.at k).1 hlt).mono fun e w' q => ⟨q.1, q.2⟩) (h.cn 0 (by omega))).mono fun e w' q => ak_plain h rfl q
    · have hpe : p = l.length := by omega
      rw [byk, if_neg hlt]
      exact (asked_1K sec nn U ii bv s lv br rv l p p 0 0 rfl (erK ad 1) ((1 : Nat) : Int) _ w h.rd (fun W k => (rbyte_short br rv l (ad 0) W (by rw [← hpe]; exact (h.at k).1) (h.at k).2.s0.var).mono fun e w' q => quietK (h.at k).1 q) (h.cn 1 (by omega))).mono fun e w' q => ak_plain h rfl q
  rw [if_neg q1]
  by_cases q2 : kd = 2
  · rw [if_pos q2, q2]
    cases hr : rdu 0 0 (l.drop p) with
    | error er =>
      have hle := rdu_err_le _ _ _ _ hr
      rw [uvk, hr]
      exact (asked_2K sec nn U ii bv s lv br rv l p p 0 (erK ad (er + 1)) ((er + 1 : Nat) : Int) _ w h.rd (fun W k => (ruv_err br rv l p er (ad 0) (ad 1) W (h.at k).1 hr (h.at k).2.s0.var (h.at k).2.s1.var).mono fun e w' q => quietK (h.at k).1 (by rw [erOfK hle] at q; exact q)) (h.cn (er + 1) (by omega))).mono fun e w' q => ak_plain h rfl q
    | ok xk =>
      rw [uvk, hr]
      exact (asked_2K sec nn U ii bv s lv br rv l p (p + xk.2) xk.1 (erK ad 0) ((0 : Nat) : Int) _ w h.rd (fun W k => (ruv_ok br rv l p xk.1 xk.2 (ad 0) (ad 1) W (h.at k).1 hr (h.at k).2.s0.var (h.at k).2.s1.var).mono fun e w' q => ⟨q.1, q.2⟩) (h.cn 0 (by omega))).mono fun e w' q => ak_plain h rfl q
  rw [if_neg q2]
  by_cases q3 : kd = 3
  · rw [if_pos q3, q3]
    cases hr : rdu 0 0 (l.drop p) with
    | error er =>
      have hle := rdu_err_le _ _ _ _ hr
      rw [uvk, hr]
      exact (asked_3K sec nn U ii bv s lv br rv l p p 0 0 rfl (erK ad (er + 1)) ((er + 1 : Nat) : Int) _ w h.rd (fun W k => (rvar_err br rv l p er (ad 0) (ad 1) W (h.at k).1 hr (h.at k).2.s0.var (h.at k).2.s1.var).mono fun e w' q => quietK (h.at k).1 (by rw [erOfK hle] at q; exact q)) (h.cn (er + 1) (by omega))).mono fun e w' q => ak_plain h rfl q
    | ok xk =>
      rw [uvk, hr]
      exact (asked_3K sec nn U ii bv s lv br rv l p (p + xk.2) (zag xk.1) (IntKind.u64.wrap (zag xk.1)) rfl (erK ad 0) ((0 : Nat) : Int) _ w h.rd (fun W k => (rvar_ok br rv l p xk.1 xk.2 (ad 0) (ad 1) W (h.at k).1 hr (h.at k).2.s0.var (h.at k).2.s1.var).mono fun e w' q => ⟨q.1, q.2⟩) (h.cn 0 (by omega))).mono fun e w' q => ak_plain h rfl q
  rw [if_neg q3]
  by_cases q10 : kd = 10
  · rw [if_pos q10, q10]
    cases hr : upk nn l p with
    | error er =>
      have hle : er ≤ 2 := (up_badK (h.at (Kept.refl _ _)).1 (h.at (Kept.refl _ _)).2 nn hm hr).2
      rw [upi, hr]
      exact (asked_10K sec nn U ii bv s lv br rv l p p 0 0 rfl (erK ad (er + 1)) ((er + 1 : Nat) : Int) _ w h.rd (fun W k => (rupto_bad br rv l p nn (ad er) W (h.at k).1 (up_badK (h.at k).1 (h.at k).2 nn hm hr).1).mono fun e w' q => quietK (h.at k).1 q) (h.cn (er + 1) (by omega))).mono fun e w' q => ak_plain h rfl q
    | ok xk =>
      obtain ⟨x, q0⟩ := xk
      obtain ⟨hx1, hx2, hx3, k2, hx4, rfl⟩ := upk_ok hr
      rw [upi, hr]
      exact (asked_10K sec nn U ii bv s lv br rv l p (p + k2) (x : Int) (x : Int) (by rw [IntKind.wrap_u64]; omega) (erK ad 0) ((0 : Nat) : Int) _ w h.rd (fun W k => (rupto_ok br rv l p x k2 nn (ad 0) (ad 1) W (h.at k).1 hx4 hx3 hm (h.at k).2.s0.var (h.at k).2.s1.var).mono fun e w' q => ⟨q.1, q.2⟩) (h.cn 0 (by omega))).mono fun e w' q => ak_plain h rfl q
  rw [if_neg q10]
  by_cases q4 : kd = 4
  · rw [if_pos q4, q4]
    by_cases hw : p + 4 ≤ l.length
    · have hb : vle ((l.drop p).take 4) < 18446744073709551616 := by
        have h1 := vle_ltK ((l.drop p).take 4) (isb_takeK (isb_dropK hI _) _)
        have h2 : ((l.drop p).take 4).length ≤ 4 := by rw [List.length_take]; omega
        have h3 : (256 : Nat) ^ ((l.drop p).take 4).length ≤ 256 ^ 4 := Nat.pow_le_pow_right (by decide) h2
        exact Nat.lt_of_lt_of_le h1 (Nat.le_trans h3 (by decide))
      rw [wdk, if_pos hw]
      exact (asked_4K sec nn U ii bv s lv br rv l p (p + 4) ((vle ((l.drop p).take 4) : Nat) : Int) ((vle ((l.drop p).take 4) : Nat) : Int) (by rw [IntKind.wrap_u64]; omega) (erK ad 0) ((0 : Nat) : Int) _ w h.rd (fun W k => (rw32_ok br rv l p W (h.at k).1 hw).mono fun e w' q => ⟨q.1, q.2⟩) (h.cn 0 (by omega))).mono fun e w' q => ak_plain h rfl q
    · rw [wdk, if_neg hw]
      exact (asked_4K sec nn U ii bv s lv br rv l p p 0 0 rfl (erK ad 1) ((1 : Nat) : Int) _ w h.rd (fun W k => (rw32_short br rv l p (ad 0) W (h.at k).1 (by omega) (h.at k).2.s0.var).mono fun e w' q => quietK (h.at k).1 q) (h.cn 1 (by omega))).mono fun e w' q => ak_plain h rfl q
  rw [if_neg q4]
  by_cases q5 : kd = 5
  · rw [if_pos q5, q5]
    by_cases hw : p + 8 ≤ l.length
    · rw [wdk, if_pos hw]
      exact (asked_5K sec nn U ii bv s lv br rv l p (p + 8) _ (erK ad 0) ((0 : Nat) : Int) _ w h.rd (fun W k => (rw64_ok br rv l p W (h.at k).1 hw).mono fun e w' q => ⟨q.1, q.2⟩) (h.cn 0 (by omega))).mono fun e w' q => ak_plain h rfl q
    · rw [wdk, if_neg hw]
      exact (asked_5K sec nn U ii bv s lv br rv l p p 0 (erK ad 1) ((1 : Nat) : Int) _ w h.rd (fun W k => (rw64_short br rv l p (ad 0) W (h.at k).1 (by omega) (h.at k).2.s0.var).mono fun e w' q => quietK (h.at k).1 q) (h.cn 1 (by omega))).mono fun e w' q => ak_plain h rfl q
  rw [if_neg q5]
  by_cases q6 : kd = 6
  · rw [if_pos q6, q6]
    have key : ∀ (R : Lk) (E : Nat), R.u = 0 → R.ls = [] → R.e = E → (E ≤ 4 ∨ E = 8) → R.t.length ≤ 1048576 → (∀ W, Kept (fun _ => False) w W → Calls Tryd.prog 18 #[.pointer (some ⟨br, 0, none⟩), .int .i64 nn] W fun e w' => ∃ (a : Option Addr) (m c : Nat) (T : ByteArray), e = .returned (.tuple #[.slice a m c, erK ad E]) ∧ Hid (Rd w' br rv l R.nx ∧ Kept (fun k => k = br) W w') ∧ (convert 26 9 (.slice a m c)).run Tryd.prog w' = .ok (.string T) w' ∧ Hid (T = strOfNums R.t ∧ Lib w' (.slice a m c) R.t ∧ ∀ k, (Value.slice a m c).ownBlock = some k → W.heap.size ≤ k ∧ k < w'.heap.size)) → Calls Tryd.prog 23 #[.pointer (some ⟨br, 0, none⟩), .agg #[.int .i64 6, .bool sec, .int .i64 nn, .int .u64 U, .int .i64 ii, bv, .string s, lv], .pointer (some ⟨kb, 0, none⟩)] w (akP w br rv l base kb vB vI V I R) := by
      intro R E hu hls hRE hE hlen CR
      refine (asked_6K sec nn U ii bv s lv br rv l p R.nx (erK ad E) (E : Int) base kb vB vI V I w (fun W a m c T w' => T = strOfNums R.t ∧ Lib w' (.slice a m c) R.t ∧ ∀ k, (Value.slice a m c).ownBlock = some k → W.heap.size ≤ k ∧ k < w'.heap.size) h.rd h.bk h.ne h.nB h.nk (fun e => (h.nI br e).1 rfl) h.b0 (by have := h.lV; omega) CR (fun W k => num_erK (h.es W (k.mono (fun _ e => .inl (e.elim .inl (fun e => .inr (e.elim .inl (fun e => .inr (.inl e)))))))) E hE)).mono ?_
      rintro e w' ⟨a, m, c, T, W0, W1, vB', rfl, rd, bk, nw, kw, ⟨rfl, hlib, hblk⟩, k0, k1⟩
      have hs0 := k0.size
      refine ⟨none, 0, vB', vI, _, I, ?_, ?_, (fun _ b off e => by cases e), rd, bk, fun k e => (nw k e).imp id (fun q => q.1), fun _ e => .inl e, kw.mono (fun _ e => .inl (e.elim .inl (fun e => .inr (e.elim .inl (fun e => .inr (.inl e)))))), .bytes _ R.t (hlib.kept k1 (fun i e f => by have h1 := (hblk i e).1; have f2 : i < W0.heap.size := f; omega)) (fun k e => ⟨Nat.le_trans hs0 (hblk k e).1, fun e2 => ?_, fun e2 => ?_⟩) (by omega)⟩
      · rw [lkV, hls, hu, hRE]; rfl
      · rw [hls]; exact fun e => (e rfl).elim
      · have h1 := hblk k e
        rcases nw k e2 with q | q
        · have := (h.bk.rowB.lt k q).2
          omega
        · omega
      · have h1 := hblk k e
        have := (h.bk.rowI.lt k e2).2
        omega
    by_cases hneg : nn < 0
    · rw [rwk, if_pos hneg]
      refine key _ 8 rfl rfl rfl (.inr rfl) (by simp [lkT]) (fun W k => (rraw_neg br nn (ad 7) W hneg (h.at k).2.s7.var).mono ?_)
      rintro e w' ⟨rfl, n, rfl⟩
      exact ⟨none, 0, 0, strOfNums [], rfl, ⟨(h.at k).1.drewN n, (Kept.drewN _ _).mono (fun _ f => f.elim)⟩, conv_atK (B := []) (fun h => absurd rfl h), rfl, .inl ⟨rfl, rfl⟩, fun k e => by cases e⟩
    · obtain ⟨m, rfl⟩ : ∃ m : Nat, nn = m := ⟨nn.toNat, by omega⟩
      by_cases hle : p + m ≤ l.length
      · rw [rwk, if_neg hneg, Int.toNat_natCast, if_pos hle]
        have htl : ((l.drop p).take m).length = m := by rw [List.length_take, List.length_drop]; omega
        refine key _ 0 rfl rfl rfl (.inl (by omega)) (by simp only [lkT]; omega) (fun W k => (rraw_ok br rv l p m W (h.at k).1 hle).mono ?_)
        rintro e w' ⟨g, rfl, hg, hrow, hrd, hk⟩
        have hlib : Lib w' (.slice (some ⟨g, 0, none⟩) m m) ((l.drop p).take m) := Lib.of_own hrow
        exact ⟨_, _, _, _, rfl, ⟨hrd, hk⟩, conv_atH hlib, rfl, hlib, fun k e => hrow.lt k e⟩
      · rw [rwk, if_neg hneg, Int.toNat_natCast, if_neg hle]
        refine key _ 1 rfl rfl rfl (.inl (by omega)) (by simp [lkT]) (fun W k => (rraw_short br rv l p m (ad 0) W (h.at k).1 (by omega) (h.at k).2.s0.var).mono ?_)
        rintro e w' ⟨rfl, n, rfl⟩
        exact ⟨none, 0, 0, strOfNums [], rfl, ⟨(h.at k).1.drewN n, (Kept.drewN _ _).mono (fun _ f => f.elim)⟩, conv_atK (B := []) (fun h => absurd rfl h), rfl, .inl ⟨rfl, rfl⟩, fun k e => by cases e⟩
  rw [if_neg q6]
  by_cases q7 : kd = 7
  · rw [if_pos q7, q7]
    cases hu : upk nn l p with
    | error er =>
      have hle : er ≤ 2 := (up_badK (h.at (Kept.refl _ _)).1 (h.at (Kept.refl _ _)).2 nn hm hu).2
      rw [txk, hu]
      exact (asked_7K sec nn U ii bv s lv br rv l p p (strOfNums []) (erK ad (er + 1)) ((er + 1 : Nat) : Int) _ w h.rd (fun W k => (rtext_bad br rv l p nn (ad er) W (h.at k).1 (up_badK (h.at k).1 (h.at k).2 nn hm hu).1).mono fun e w' q => quietK (h.at k).1 q) (h.cn (er + 1) (by omega))).mono fun e w' q => ak_plain h rfl q
    | ok xk =>
      obtain ⟨x, q0⟩ := xk
      obtain ⟨hx1, hx2, hx3, k2, hx4, rfl⟩ := upk_ok hu
      by_cases hle : p + k2 + x ≤ l.length
      · rw [txk, hu]
        simp only [if_pos hle]
        exact (asked_7K sec nn U ii bv s lv br rv l p (p + k2 + x) (strOfNums ((l.drop (p + k2)).take x)) (erK ad 0) ((0 : Nat) : Int) _ w h.rd (fun W k => (rtext_ok br rv l p x k2 nn (ad 0) (ad 1) W (h.at k).1 hx4 hx3 hm hle (h.at k).2.s0.var (h.at k).2.s1.var).mono fun e w' q => ⟨q.1, q.2⟩) (h.cn 0 (by omega))).mono fun e w' q => ak_plain h rfl q
      · rw [txk, hu]
        simp only [if_neg hle]
        exact (asked_7K sec nn U ii bv s lv br rv l p p (strOfNums []) (erK ad 1) ((1 : Nat) : Int) _ w h.rd (fun W k => (rtext_short br rv l p x k2 nn (ad 0) (ad 1) W (h.at k).1 hx4 hx3 hm (by omega) (h.at k).2.s0.var (h.at k).2.s1.var).mono fun e w' q => quietK (h.at k).1 q) (h.cn 1 (by omega))).mono fun e w' q => ak_plain h rfl q
  rw [if_neg q7]
  by_cases q8 : kd = 8
  · rw [if_pos q8, q8]
    have key : ∀ (R : Lk) (E : Nat), R.u = 0 → R.t = [] → R.e = E → (E ≤ 4 ∨ E = 8) → R.ls.length ≤ 33554432 → (∀ W, Kept (fun _ => False) w W → Calls Tryd.prog 51 #[.pointer (some ⟨br, 0, none⟩), .int .i64 nn] W fun e w' => ∃ (a : Option Addr) (m c : Nat), e = .returned (.tuple #[.slice a m c, erK ad E]) ∧ Hid (Rd w' br rv l R.nx ∧ Kept (fun k => k = br) W w') ∧ Hid (m = R.ls.length ∧ IntsAt w' a R.ls ∧ (a = none → c = 0)) ∧ Hid (NewL R.ls W a m c w')) → Calls Tryd.prog 23 #[.pointer (some ⟨br, 0, none⟩), .agg #[.int .i64 8, .bool sec, .int .i64 nn, .int .u64 U, .int .i64 ii, bv, .string s, lv], .pointer (some ⟨kb, 0, none⟩)] w (akP w br rv l base kb vB vI V I R) := fun R E hu ht hRE hE hlen CR =>
      (asked_8K sec nn U ii bv s lv br rv l p R.nx R.ls (erK ad E) (E : Int) base kb vB vI V I w (NewL R.ls) h.rd h.bk h.ne h.nI h.nk (fun e => (h.nB br e).1 rfl) h.b0 (by have := h.lI; omega) (by omega) CR (fun W k => num_erK (h.es W (k.mono (fun _ e => .inl (e.elim .inl (fun e => .inr (e.elim .inl (fun e => .inr (.inr e)))))))) E hE)).mono fun e w' q => ak_list h hu ht hRE hlen q
    cases hu : upk nn l p with
    | error er =>
      have hle : er ≤ 2 := (up_badK (h.at (Kept.refl _ _)).1 (h.at (Kept.refl _ _)).2 nn hm hu).2
      rw [rsk, hu]
      exact key _ (er + 1) rfl rfl rfl (.inl (by omega)) (by simp [lkL]) (fun W k => (rris_bad br rv l p nn (ad er) W (h.at k).1 (up_badK (h.at k).1 (h.at k).2 nn hm hu).1).mono fun e w' q => nil_callK (h.at k).1 (quietK (h.at k).1 q))
    | ok xk =>
      obtain ⟨n, q0⟩ := xk
      obtain ⟨hx1, hx2, hx3, k2, hx4, rfl⟩ := upk_ok hu
      have CR := fun W k => rris_any br rv l p n k2 nn (ad 0) (ad 1) (ad 2) W (h.at (W := W) k).1 hx4 hx3 hm (by omega) (h.at k).2.s0.var (h.at k).2.s1.var (h.at k).2.s2.var
      cases hr : rdr n 0 (l.drop (p + k2)) with
      | error er =>
        have hle := rdr_err_leK _ _ _ _ hr
        rw [hr] at CR
        rw [show rsk nn l p = .error er by rw [rsk, hu]; simp only [hr]]
        refine key _ (er + 1) rfl rfl rfl (.inl (by omega)) (by simp [lkL]) (fun W k => (CR W k).mono fun e w' q => nil_callK (h.at k).1 ?_)
        obtain ⟨he, rd, kk⟩ := q
        rw [erOf2K hle] at he
        exact ⟨he, rd, kk.mono (fun _ f => f.elim)⟩
      | ok xm =>
        obtain ⟨xs, m⟩ := xm
        have hlen := rdr_lenK _ _ _ _ _ hr
        rw [List.length_drop] at hlen
        rw [hr] at CR
        rw [show rsk nn l p = .ok (xs, p + k2 + m) by rw [rsk, hu]; simp only [hr]]
        refine key _ 0 rfl rfl rfl (.inl (by omega)) (by simp only [lkL]; omega) (fun W k => (CR W k).mono fun e w' q => ?_)
        obtain ⟨u, hq⟩ := q
        exact own_callK hq
  rw [if_neg q8]
  by_cases q9 : kd = 9
  · rw [if_pos q9, q9]
    have key : ∀ (R : Lk) (E : Nat), R.u = 0 → R.t = [] → R.e = E → (E ≤ 4 ∨ E = 8) → R.ls.length ≤ 33554432 → (∀ W, Kept (fun _ => False) w W → Calls Tryd.prog 53 #[.pointer (some ⟨br, 0, none⟩), .int .i64 nn] W fun e w' => ∃ (a : Option Addr) (m c : Nat), e = .returned (.tuple #[.slice a m c, erK ad E]) ∧ Hid (Rd w' br rv l R.nx ∧ Kept (fun k => k = br) W w') ∧ Hid (m = R.ls.length ∧ IntsAt w' a R.ls ∧ (a = none → c = 0)) ∧ Hid (NewL R.ls W a m c w')) → Calls Tryd.prog 23 #[.pointer (some ⟨br, 0, none⟩), .agg #[.int .i64 9, .bool sec, .int .i64 nn, .int .u64 U, .int .i64 ii, bv, .string s, lv], .pointer (some ⟨kb, 0, none⟩)] w (akP w br rv l base kb vB vI V I R) := fun R E hu ht hRE hE hlen CR =>
      (asked_9K sec nn U ii bv s lv br rv l p R.nx R.ls (erK ad E) (E : Int) base kb vB vI V I w (NewL R.ls) h.rd h.bk h.ne h.nI h.nk (fun e => (h.nB br e).1 rfl) h.b0 (by have := h.lI; omega) (by omega) CR (fun W k => num_erK (h.es W (k.mono (fun _ e => .inl (e.elim .inl (fun e => .inr (e.elim .inl (fun e => .inr (.inr e)))))))) E hE)).mono fun e w' q => ak_list h hu ht hRE hlen q
    cases hu : upk nn l p with
    | error er =>
      have hle : er ≤ 2 := (up_badK (h.at (Kept.refl _ _)).1 (h.at (Kept.refl _ _)).2 nn hm hu).2
      rw [pkk, hu]
      exact key _ (er + 1) rfl rfl rfl (.inl (by omega)) (by simp [lkL]) (fun W k => (rpak_bad br rv l p nn (ad er) W (h.at k).1 (up_badK (h.at k).1 (h.at k).2 nn hm hu).1).mono fun e w' q => nil_callK (h.at k).1 (quietK (h.at k).1 q))
    | ok xk =>
      obtain ⟨n, q0⟩ := xk
      obtain ⟨hx1, hx2, hx3, k2, hx4, rfl⟩ := upk_ok hu
      have CR := fun W k => rpak_any br rv l p n k2 nn (ad 0) (ad 1) (ad 2) (ad 3) W (h.at (W := W) k).1 hx4 hx3 hm (by omega) (h.at k).2.s0.var (h.at k).2.s1.var (h.at k).2.s2.var (h.at k).2.s3.var
      cases hr : rdp n (l.drop (p + k2)) with
      | error er =>
        have hle := rdp_errK hr
        rw [hr] at CR
        rw [show pkk nn l p = .error er by rw [pkk, hu]; simp only [hr]]
        refine key _ (er + 1) rfl rfl rfl (.inl (by omega)) (by simp [lkL]) (fun W k => (CR W k).mono fun e w' q => nil_callK (h.at k).1 ?_)
        obtain ⟨he, rd, kk⟩ := q
        rw [erOf3K hle] at he
        exact ⟨he, rd, kk.mono (fun _ f => f.elim)⟩
      | ok xm =>
        obtain ⟨xs, m⟩ := xm
        have hlen := rdp_lenK hr
        rw [List.length_drop] at hlen
        rw [hr] at CR
        rw [show pkk nn l p = .ok (xs, p + k2 + m) by rw [pkk, hu]; simp only [hr]]
        refine key _ 0 rfl rfl rfl (.inl (by omega)) (by simp only [lkL]; omega) (fun W k => (CR W k).mono fun e w' q => ?_)
        obtain ⟨u, hq⟩ := q
        exact own_callK hq
  rw [if_neg q9]
  exact (asked_xK kd sec nn U ii bv s lv br rv l p _ w h.rd (by omega)).mono fun e w' q => ak_plain h rfl q
end
end Go.Proofs.YtjmmdklgkcbihaaDoor

namespace Go.Proofs.YtjmmdklgkcbihaaDoor
open Go.ChangeShapes Go.WideShapes Go.ChangeAt Go.RowKit

/-- The two Readers (0, 1), their bytes (2), the list that holds them (3), the list of the bytes (4), these (5), the list of places (6), what is elder than the law (9). -/
structure R0 (w W : World) (o : Nat → Nat) (bR : Nat → Nat) (rv : Nat → Value) (l : Nat → List Int) (pR : Nat → Nat) (gr gd : Nat) (vd : Nat → Value) (ga : Nat) (pA : Nat → Nat) : Prop where
  rd : ∀ i, i < 2 → Rd W (bR i) (rv i) (l i) (pR i)
  or : ∀ i, i < 2 → o (bR i) = i
  ov : ∀ i, i < 2 → ∀ k, (rv i).ownBlock = some k → o k = 2
  hr : W.heap[gr]? = some (.cells #[.pointer (some ⟨bR 0, 0, none⟩), .pointer (some ⟨bR 1, 0, none⟩)] 46 (0, 0))
  og : o gr = 3
  hd : W.heap[gd]? = some (.cells #[vd 0, vd 1] 26 (0, 0))
  oh : o gd = 4
  ld : ∀ i, i < 2 → W.ownsRow 0 5 1 (vd i) (l i).length (bs (l i))
  od : ∀ i, i < 2 → ∀ k, (vd i).ownBlock = some k → o k = 5
  ha : W.heap[ga]? = some (.cells #[.int .i64 (pA 0 : Int), .int .i64 (pA 1 : Int)] 3 (0, 0))
  oa : o ga = 6
  lo : ∀ k, k < w.heap.size → o k = 9
  kp : Kept (fun _ => False) w W
section
variable {w W W' : World} {o : Nat → Nat} {bR : Nat → Nat} {rv : Nat → Value} {l : Nat → List Int} {pR : Nat → Nat} {gr gd : Nat} {vd : Nat → Value} {ga : Nat} {pA : Nat → Nat} {F : Nat → Prop}
theorem R0.move (i : Nat) (hi : i < 2) {nx : Nat} (h : R0 w W o bR rv l pR gr gd vd ga pA) (k : Kept F W W') (hF : ∀ q, F q → q < W.heap.size → o q = i ∨ 7 ≤ o q ∧ o q ≠ 9) (hrd : Rd W' (bR i) (rv i) (l i) nx) (o' : Nat → Nat) (key : ∀ q, q < W.heap.size → o' q = o q) : R0 w W' o' bR rv l (upK pR i nx) gr gd vd ga pA := by
  have lr := lt_of_block h.hr
  have ldd := lt_of_block h.hd
  have la := lt_of_block h.ha
  have no : ∀ {c q : Nat}, o q = c → c ≠ i → c < 7 ∨ c = 9 → q < W.heap.size → ¬ F q := fun e h1 h2 l f => by have := hF _ f l; omega
  exact { rd := fun j hj => by
            by_cases e : j = i
            · subst e; rw [upK_at]; exact hrd
            · rw [upK_ne _ _ e]
              exact (h.rd j hj).kept k (no (h.or j hj) e (by omega) (lt_of_block (h.rd j hj).blk)) (fun q e2 => no (h.ov j hj q e2) (by omega) (by omega) ((h.rd j hj).own.lt q e2).2)
          or := fun j hj => (key _ (lt_of_block (h.rd j hj).blk)).trans (h.or j hj)
          ov := fun j hj q e => (key q ((h.rd j hj).own.lt q e).2).trans (h.ov j hj q e)
          hr := k.heap h.hr (no h.og (by omega) (by omega) lr)
          og := (key gr lr).trans h.og
          hd := k.heap h.hd (no h.oh (by omega) (by omega) ldd)
          oh := (key gd ldd).trans h.oh
          ld := fun j hj => k.row (h.ld j hj) (fun q e => no (h.od j hj q e) (by omega) (by omega) ((h.ld j hj).lt q e).2)
          od := fun j hj q e => (key q ((h.ld j hj).lt q e).2).trans (h.od j hj q e)
          ha := k.heap h.ha (no h.oa (by omega) (by omega) la)
          oa := (key ga la).trans h.oa
          lo := fun q hq => (key q (Nat.lt_of_lt_of_le hq h.kp.size)).trans (h.lo q hq)
          kp := h.kp.trans k (fun q f => .inr (by
            apply Classical.byContradiction
            intro c
            have q1 : q < w.heap.size := by omega
            have := hF q f (Nat.lt_of_lt_of_le q1 h.kp.size)
            have := h.lo q q1
            omega)) }
theorem upK_self {α : Type} (f : Nat → α) (i : Nat) : upK f i (f i) = f := by
  funext j
  by_cases e : j = i
  · subst e; exact upK_at _ _ _
  · exact upK_ne _ _ e
theorem R0.keep (h : R0 w W o bR rv l pR gr gd vd ga pA) (k : Kept F W W') (hF : ∀ q, F q → q < W.heap.size → 7 ≤ o q ∧ o q ≠ 9) (o' : Nat → Nat) (key : ∀ q, q < W.heap.size → o' q = o q) : R0 w W' o' bR rv l pR gr gd vd ga pA := by
  have hrd : Rd W' (bR 0) (rv 0) (l 0) (pR 0) := (h.rd 0 (by decide)).kept k (fun f => by have h1 := hF _ f (lt_of_block (h.rd 0 (by decide)).blk); have h2 := h.or 0 (by decide); omega) (fun q e f => by have h1 := hF _ f ((h.rd 0 (by decide)).own.lt q e).2; have h2 := h.ov 0 (by decide) q e; omega)
  have q := h.move 0 (by decide) k (fun q f l => .inr (hF q f l)) hrd o' key
  rw [upK_self] at q
  exact q
theorem R0.later (h : R0 w W o bR rv l pR gr gd vd ga pA) (k : Kept (fun _ => False) W W') : R0 w W' o bR rv l pR gr gd vd ga pA := h.keep k (fun _ f => f.elim) o (fun _ _ => rfl)
theorem R0.store (i : Nat) (hi : i < 2) (x : Nat) (h : R0 w W o bR rv l pR gr gd vd ga pA) : R0 w (W.setCell ⟨ga, i, none⟩ (.int .i64 (x : Int))) o bR rv l pR gr gd vd ga (upK pA i x) := by
  have k : Kept (fun q => q = ga) W (W.setCell ⟨ga, i, none⟩ (.int .i64 (x : Int))) := kset1K
  have no : ∀ {c q : Nat}, o q = c → c ≠ 6 → ¬ q = ga := fun e h1 f => by rw [f, h.oa] at e; omega
  exact { rd := fun j hj => (h.rd j hj).kept k (no (h.or j hj) (by omega)) (fun q e => no (h.ov j hj q e) (by omega))
          or := h.or, ov := h.ov
          hr := k.heap h.hr (no h.og (by omega)), og := h.og
          hd := k.heap h.hd (no h.oh (by omega)), oh := h.oh
          ld := fun j hj => k.row (h.ld j hj) (fun q e => no (h.od j hj q e) (by omega)), od := h.od
          ha := by
            rw [heap_setCell_same W ga i _ _ _ h.ha]
            rcases (show i = 0 ∨ i = 1 by omega) with rfl | rfl
            · rfl
            · rfl
          oa := h.oa, lo := h.lo
          kp := h.kp.trans k (fun q f => .inr (by
            apply Classical.byContradiction
            intro c
            have q1 : q < w.heap.size := by omega
            have h1 := h.lo q q1
            rw [f, h.oa] at h1
            omega)) }
theorem R0.cells (h : R0 w W o bR rv l pR gr gd vd ga pA) : (W.cell? ⟨gr, 0, none⟩ = some (.pointer (some ⟨bR 0, 0, none⟩)) ∧ W.cell? ⟨gr, 1, none⟩ = some (.pointer (some ⟨bR 1, 0, none⟩))) ∧ (W.cell? ⟨gd, 0, none⟩ = some (vd 0) ∧ W.cell? ⟨gd, 1, none⟩ = some (vd 1)) ∧ (W.cell? ⟨ga, 0, none⟩ = some (.int .i64 (pA 0 : Int)) ∧ W.cell? ⟨ga, 1, none⟩ = some (.int .i64 (pA 1 : Int))) ∧ W.frozen? ⟨ga, 0, none⟩ = false ∧ W.frozen? ⟨ga, 1, none⟩ = false := by
  refine ⟨⟨?_, ?_⟩, ⟨?_, ?_⟩, ⟨?_, ?_⟩, ?_, ?_⟩
  · rw [cell_of_row _ _ 0 _ _ _ h.hr]; rfl
  · rw [cell_of_row _ _ 1 _ _ _ h.hr]; rfl
  · rw [cell_of_row _ _ 0 _ _ _ h.hd]; rfl
  · rw [cell_of_row _ _ 1 _ _ _ h.hd]; rfl
  · rw [cell_of_row _ _ 0 _ _ _ h.ha]; rfl
  · rw [cell_of_row _ _ 1 _ _ _ h.ha]; rfl
  · simp [World.frozen?, h.ha]
  · simp [World.frozen?, h.ha]
/-- The bytes of one of the two: their shape and what lies there. -/
theorem R0.data (h : R0 w W o bR rv l pR gr gd vd ga pA) (i : Nat) (hi : i < 2) : ∃ a c, vd i = .slice a (l i).length c ∧ Lib W (.slice a (l i).length c) (l i) := by
  obtain ⟨a, c, e⟩ := row_shapeH (h.ld i hi)
  exact ⟨a, c, e, by rw [← e]; exact Lib.of_own (h.ld i hi)⟩
end
/-- The book (7) and its lists (10 and more). -/
structure Bq (W : World) (o : Nat → Nat) (kb : Nat) (vB vI : Value) (V I : List Value) (LB LI : List (List Int)) : Prop where
  bk : Bk2 0 W kb vB vI V I
  ok : o kb = 7
  oB : ∀ k, vB.ownBlock = some k → o k = 7
  oI : ∀ k, vI.ownBlock = some k → o k = 7
  nB : LB.length = V.length
  nI : LI.length = I.length
  lb : ∀ t (h : t < V.length), Lib W V[t] (LB[t]?.getD [])
  ob : ∀ t (h : t < V.length) k, V[t].ownBlock = some k → o k = 10 + 2 * t
  li : ∀ t (h : t < I.length), LibI W I[t] (LI[t]?.getD [])
  oi : ∀ t (h : t < I.length) k, I[t].ownBlock = some k → o k = 11 + 2 * t
  mB : ∀ x ∈ LB, x.length ≤ 33554432
  mI : ∀ x ∈ LI, x.length ≤ 33554432
section
variable {W W' : World} {o : Nat → Nat} {kb : Nat} {vB vI : Value} {V I : List Value} {LB LI : List (List Int)} {F : Nat → Prop}
theorem Bq.keep (h : Bq W o kb vB vI V I LB LI) (k : Kept F W W') (hF : ∀ q, F q → q < W.heap.size → o q < 7 ∨ o q = 8) (o' : Nat → Nat) (key : ∀ q, q < W.heap.size → o' q = o q) : Bq W' o' kb vB vI V I LB LI := by
  obtain ⟨kl, hBl, hIl⟩ := h.bk.lts
  have no : ∀ {c q : Nat}, o q = c → c = 7 ∨ 10 ≤ c → q < W.heap.size → ¬ F q := fun e h1 l f => by have := hF _ f l; omega
  exact { bk := h.bk.kept k (no h.ok (by omega) kl) (fun q e => no (h.oB q e) (by omega) (hBl q e)) (fun q e => no (h.oI q e) (by omega) (hIl q e))
          ok := (key kb kl).trans h.ok
          oB := fun q e => (key q (hBl q e)).trans (h.oB q e)
          oI := fun q e => (key q (hIl q e)).trans (h.oI q e)
          nB := h.nB, nI := h.nI
          lb := fun t ht => (h.lb t ht).kept k (fun q e => no (h.ob t ht q e) (by omega) ((h.lb t ht).lt e))
          ob := fun t ht q e => (key q ((h.lb t ht).lt e)).trans (h.ob t ht q e)
          li := fun t ht => (h.li t ht).kept k (fun q e => no (h.oi t ht q e) (by omega) ((h.li t ht).lt e))
          oi := fun t ht q e => (key q ((h.li t ht).lt e)).trans (h.oi t ht q e)
          mB := h.mB, mI := h.mI }
theorem Bq.later (h : Bq W o kb vB vI V I LB LI) (k : Kept (fun _ => False) W W') : Bq W' o kb vB vI V I LB LI := h.keep k (fun _ f => f.elim) o (fun _ _ => rfl)
theorem snoc_lib {P : Value → List Int → Prop} {V : List Value} {L : List (List Int)} {v : Value} {x : List Int} (hn : L.length = V.length) (h : ∀ t (ht : t < V.length), P V[t] (L[t]?.getD [])) (hv : P v x) : ∀ t (ht : t < (V ++ [v]).length), P (V ++ [v])[t] ((L ++ [x])[t]?.getD []) := by
  intro t ht
  rw [List.length_append, List.length_singleton] at ht
  by_cases e : t < V.length
  · rw [List.getElem_append_left e, List.getElem?_append_left (by omega)]
    exact h t e
  · obtain rfl : t = V.length := by omega
    rw [List.getElem_append_right (Nat.le_refl _), List.getElem?_append_right (by omega)]
    simpa [hn] using hv
theorem snoc_own {V : List Value} {v : Value} {o : Nat → Nat} {f : Nat → Nat} (h : ∀ t (ht : t < V.length) k, V[t].ownBlock = some k → o k = f t) (hv : ∀ k, v.ownBlock = some k → o k = f V.length) : ∀ t (ht : t < (V ++ [v]).length) k, (V ++ [v])[t].ownBlock = some k → o k = f t := by
  intro t ht k e
  rw [List.length_append, List.length_singleton] at ht
  by_cases q : t < V.length
  · rw [List.getElem_append_left q] at e
    exact h t q k e
  · obtain rfl : t = V.length := by omega
    rw [List.getElem_append_right (Nat.le_refl _)] at e
    simp only [Nat.sub_self, List.getElem_cons_zero] at e
    exact hv k e
/-- The law's asked, over the whole memory. -/
theorem rr_asked {w : World} {bR : Nat → Nat} {rv : Nat → Value} {l : Nat → List Int} {pR : Nat → Nat} {gr gd : Nat} {vd : Nat → Value} {ga : Nat} {pA : Nat → Nat} (i : Nat) (hi : i < 2) {R : Lk} {e : Ending} (h : R0 w W o bR rv l pR gr gd vd ga pA) (hb : Bq W o kb vB vI V I LB LI) (q : akP W (bR i) (rv i) (l i) 0 kb vB vI V I R e W') :
    ∃ a c o' vB' vI' V' I' LB' LI', e = .returned (lkV R a c) ∧ IntsAt W' a R.ls ∧ (R.ls ≠ [] → ∀ b off, a = some ⟨b, off, none⟩ → W.heap.size ≤ b) ∧ (∀ q, q < W.heap.size → o' q = o q) ∧ R0 w W' o' bR rv l (upK pR i R.nx) gr gd vd ga pA ∧ Bq W' o' kb vB' vI' V' I' LB' LI' ∧ V'.length ≤ V.length + 1 ∧ I'.length ≤ I.length + 1 ∧ Kept (fun k => o k = i ∨ o k = 7) W W' := by
  obtain ⟨a, c, vB', vI', V', I', he, hia, hnewa, rd, bk, nwB, nwI, kw, ad⟩ := q
  have kF : Kept (fun k => o k = i ∨ o k = 7) W W' := kw.mono (fun q f => .inl (by
    rcases f with f | f | f | f
    · exact .inl (by rw [f]; exact h.or i hi)
    · exact .inr (by rw [f]; exact hb.ok)
    · exact .inr (hb.oB q f)
    · exact .inr (hb.oI q f)))
  have hr0 : ∀ o' : Nat → Nat, (∀ q, q < W.heap.size → o' q = o q) → R0 w W' o' bR rv l (upK pR i R.nx) gr gd vd ga pA := fun o' key => h.move i hi kF (fun q f _ => by omega) rd o' key
  have low : ∀ {c q : Nat}, o q = c → 10 ≤ c → ¬ (o q = i ∨ o q = 7) := fun e h1 f => by omega
  cases ad with
  | none =>
    have key : ∀ q, q < W.heap.size → newK W.heap.size 7 o q = o q := fun q hq => newK_old hq
    refine ⟨a, c, newK W.heap.size 7 o, vB', vI', V, I, LB, LI, he, hia, hnewa, key, hr0 _ key, ?_, Nat.le_succ _, Nat.le_succ _, kF⟩
    exact { bk := bk, ok := (key kb hb.bk.lts.1).trans hb.ok, oB := new_code hb.oB nwB, oI := new_code hb.oI nwI, nB := hb.nB, nI := hb.nI
            lb := fun t ht => (hb.lb t ht).kept kF (fun q e => low (hb.ob t ht q e) (by omega))
            ob := fun t ht q e => (key q ((hb.lb t ht).lt e)).trans (hb.ob t ht q e)
            li := fun t ht => (hb.li t ht).kept kF (fun q e => low (hb.oi t ht q e) (by omega))
            oi := fun t ht q e => (key q ((hb.li t ht).lt e)).trans (hb.oi t ht q e)
            mB := hb.mB, mI := hb.mI }
  | bytes v t hv hn hl =>
    obtain ⟨o', ho'⟩ : ∃ o' : Nat → Nat, o' = fun q => if v.ownBlock = some q then 10 + 2 * V.length else newK W.heap.size 7 o q := ⟨_, rfl⟩
    have key : ∀ q, q < W.heap.size → o' q = o q := fun q hq => by
      rw [ho']
      have : v.ownBlock ≠ some q := fun e => by have := (hn q e).1; omega
      simp only [if_neg this]
      exact newK_old hq
    have ov : ∀ k, v.ownBlock = some k → o' k = 10 + 2 * V.length := fun k e => by rw [ho']; exact if_pos e
    have oe : ∀ k, v.ownBlock ≠ some k → o' k = newK W.heap.size 7 o k := fun k e => by rw [ho']; exact if_neg e
    refine ⟨a, c, o', vB', vI', V ++ [v], I, LB ++ [t], LI, he, hia, hnewa, key, hr0 _ key, ?_, by rw [List.length_append]; exact Nat.le_refl _, Nat.le_succ _, kF⟩
    exact { bk := bk, ok := (key kb hb.bk.lts.1).trans hb.ok
            oB := fun k e => (oe k (fun e2 => (hn k e2).2.1 e)).trans (new_code hb.oB nwB k e)
            oI := fun k e => (oe k (fun e2 => (hn k e2).2.2 e)).trans (new_code hb.oI nwI k e)
            nB := by rw [List.length_append, List.length_append, hb.nB]; rfl
            nI := hb.nI
            lb := snoc_lib (P := Lib W') hb.nB (fun t ht => (hb.lb t ht).kept kF (fun q e => low (hb.ob t ht q e) (by omega))) hv
            ob := snoc_own (f := fun t => 10 + 2 * t) (fun t ht q e => (key q ((hb.lb t ht).lt e)).trans (hb.ob t ht q e)) ov
            li := fun t ht => (hb.li t ht).kept kF (fun q e => low (hb.oi t ht q e) (by omega))
            oi := fun t ht q e => (key q ((hb.li t ht).lt e)).trans (hb.oi t ht q e)
            mB := fun x hx => (List.mem_append.1 hx).elim (hb.mB x) (fun q => by simp only [List.mem_singleton] at q; rw [q]; exact hl)
            mI := hb.mI }
  | ints v t hv hn hl =>
    obtain ⟨o', ho'⟩ : ∃ o' : Nat → Nat, o' = fun q => if v.ownBlock = some q then 11 + 2 * I.length else newK W.heap.size 7 o q := ⟨_, rfl⟩
    have key : ∀ q, q < W.heap.size → o' q = o q := fun q hq => by
      rw [ho']
      have : v.ownBlock ≠ some q := fun e => by have := (hn q e).1; omega
      simp only [if_neg this]
      exact newK_old hq
    have ov : ∀ k, v.ownBlock = some k → o' k = 11 + 2 * I.length := fun k e => by rw [ho']; exact if_pos e
    have oe : ∀ k, v.ownBlock ≠ some k → o' k = newK W.heap.size 7 o k := fun k e => by rw [ho']; exact if_neg e
    refine ⟨a, c, o', vB', vI', V, I ++ [v], LB, LI ++ [t], he, hia, hnewa, key, hr0 _ key, ?_, Nat.le_succ _, by rw [List.length_append]; exact Nat.le_refl _, kF⟩
    exact { bk := bk, ok := (key kb hb.bk.lts.1).trans hb.ok
            oB := fun k e => (oe k (fun e2 => (hn k e2).2.1 e)).trans (new_code hb.oB nwB k e)
            oI := fun k e => (oe k (fun e2 => (hn k e2).2.2 e)).trans (new_code hb.oI nwI k e)
            nB := hb.nB
            nI := by rw [List.length_append, List.length_append, hb.nI]; rfl
            lb := fun t ht => (hb.lb t ht).kept kF (fun q e => low (hb.ob t ht q e) (by omega))
            ob := fun t ht q e => (key q ((hb.lb t ht).lt e)).trans (hb.ob t ht q e)
            li := snoc_lib (P := LibI W') hb.nI (fun t ht => (hb.li t ht).kept kF (fun q e => low (hb.oi t ht q e) (by omega))) hv
            oi := snoc_own (f := fun t => 11 + 2 * t) (fun t ht q e => (key q ((hb.li t ht).lt e)).trans (hb.oi t ht q e)) ov
            mB := hb.mB
            mI := fun x hx => (List.mem_append.1 hx).elim (hb.mI x) (fun q => by simp only [List.mem_singleton] at q; rw [q]; exact hl) }
/-- What the law's asked meets, out of the whole memory. -/
theorem rr_in {w : World} {bR : Nat → Nat} {rv : Nat → Value} {l : Nat → List Int} {pR : Nat → Nat} {gr gd : Nat} {vd : Nat → Value} {ga : Nat} {pA : Nat → Nat} {ad : Nat → Addr} (i : Nat) (hi : i < 2) (h : R0 w W o bR rv l pR gr gd vd ga pA) (hb : Bq W o kb vB vI V I LB LI) (hE : Es8K w ad) (hV : V.length ≤ 1048576) (hI : I.length ≤ 1048576) (hs : (l i).length ≤ 1048576) : AkIn W (bR i) (rv i) (l i) (pR i) 0 kb vB vI V I ad :=
  { rd := h.rd i hi, bk := hb.bk
    ne := fun e => by have h1 := h.or i hi; rw [e, hb.ok] at h1; omega
    nB := fun k e => ⟨fun e2 => by have h1 := hb.oB k e; rw [e2, h.or i hi] at h1; omega, fun e2 => by have h1 := hb.oB k e; rw [h.ov i hi k e2] at h1; omega⟩
    nI := fun k e => ⟨fun e2 => by have h1 := hb.oI k e; rw [e2, h.or i hi] at h1; omega, fun e2 => by have h1 := hb.oI k e; rw [h.ov i hi k e2] at h1; omega⟩
    nk := fun e => by have h1 := h.ov i hi kb e; rw [hb.ok] at h1; omega
    b0 := Nat.zero_le _
    es := fun W2 k => hE.kept (h.kp.trans k (fun q f => .inr (by
      apply Classical.byContradiction
      intro c
      have h1 := h.lo q (by omega)
      rcases f with f | f | f | f
      · rw [f, h.or i hi] at h1; omega
      · rw [f, hb.ok] at h1; omega
      · rw [hb.oB q f] at h1; omega
      · rw [hb.oI q f] at h1; omega)))
    lV := hV, lI := hI, sm := hs }
/-- The book's lists share nothing. -/
theorem rr_unshared {w : World} {bR : Nat → Nat} {rv : Nat → Value} {l : Nat → List Int} {pR : Nat → Nat} {gr gd : Nat} {vd : Nat → Value} {ga : Nat} {pA : Nat → Nat} (bm im : Nat → Nat → Int) (hbm : BmI bm) (him : BmII im) (h : R0 w W o bR rv l pR gr gd vd ga pA) (hb : Bq W o kb vB vI V I LB LI) (hV : V.length ≤ 1048576) (hI : I.length ≤ 1048576) :
    Calls Tryd.prog 12 #[.pointer (some ⟨kb, 0, none⟩)] W fun e W' => e = .returned (.bool true) ∧ R0 w W' o bR rv l pR gr gd vd ga pA := by
  let oB : Nat → Nat := fun q => if 10 ≤ o q ∧ o q % 2 = 0 then (o q - 10) / 2 else 2000000
  let oI : Nat → Nat := fun q => if 10 ≤ o q ∧ o q % 2 = 1 then (o q - 11) / 2 else 2000000
  have eB : ∀ q, o q < 10 → oB q = 2000000 := fun q hq => if_neg (by omega)
  have eI : ∀ q, o q < 10 → oI q = 2000000 := fun q hq => if_neg (by omega)
  have big : ∀ q, o q < 10 → V.length ≤ oB q ∧ I.length ≤ oI q := fun q hq => by rw [eB q hq, eI q hq]; omega
  refine (unshared2 bm im hbm him 0 kb vB vI V I (fun t => LB[t]?.getD []) (fun t => LI[t]?.getD []) oB oI W hb.bk ⟨hb.lb, fun t ht k e => ?_⟩ ⟨hb.li, fun t ht k e => ?_⟩ (big kb (by rw [hb.ok]; decide)) (fun k e => big k (by rw [hb.oB k e]; decide)) (fun k e => big k (by rw [hb.oI k e]; decide)) (fun t ht k e => ?_) (by omega) (by omega) (fun t ht => ?_) (fun t ht => ?_)).mono ?_
  · have q := hb.ob t ht k e
    show (if 10 ≤ o k ∧ o k % 2 = 0 then (o k - 10) / 2 else 2000000) = t
    rw [if_pos (by omega)]
    omega
  · have q := hb.oi t ht k e
    show (if 10 ≤ o k ∧ o k % 2 = 1 then (o k - 11) / 2 else 2000000) = t
    rw [if_pos (by omega)]
    omega
  · have q := hb.oi t ht k e
    show V.length ≤ (if 10 ≤ o k ∧ o k % 2 = 0 then (o k - 10) / 2 else 2000000)
    rw [if_neg (by omega)]
    omega
  · cases e : LB[t]? with
    | none => simp
    | some x => have := hb.mB x (List.mem_of_getElem? e); simp only [Option.getD_some]; omega
  · cases e : LI[t]? with
    | none => simp
    | some x => have := hb.mI x (List.mem_of_getElem? e); simp only [Option.getD_some]; omega
  · rintro e W' ⟨rfl, k⟩
    refine ⟨rfl, h.keep k (fun q f _ => ?_) o (fun _ _ => rfl)⟩
    apply Classical.byContradiction
    intro c
    have h1 : o q < 10 := by omega
    have h2 := big q h1
    have f2 : oB q < V.length ∨ oI q < I.length := f
    omega
end
set_option maxRecDepth 20000 in
set_option maxHeartbeats 4000000 in
/-- Two looks that are alike. -/
theorem sameLook_trueK (R : Lk) (a b : Option Addr) (c d : Nat) (w : World) (ha : IntsAt w a R.ls) (hb : IntsAt w b R.ls) (hl : R.ls.length ≤ 33554432) :
    Calls Tryd.prog 25 #[lkV R a c, lkV R b d] w fun e w' => e = .returned (.bool true) ∧ Kept (fun _ => False) w w' := by
  unfold lkV
  obtain ⟨n, hn⟩ : ∃ n, n = R.ls.length := ⟨_, rfl⟩
  have CS : Hid (∀ W, Kept (fun _ => False) w W → Calls Tryd.prog 63 #[.slice a n c, .slice b n d] W fun e w' => e = .returned (.bool true) ∧ Kept (fun _ => False) W w') := hideH (fun W k => sameI_true R.ls a b n c d W hn (fun hne => by obtain ⟨x, y, e, hc⟩ := ha hne; exact ⟨x, y, e, fun j hj => k.cell (hc j hj) (fun f => f)⟩) (fun hne => by obtain ⟨x, y, e, hc⟩ := hb hne; exact ⟨x, y, e, fun j hj => k.cell (hc j hj) (fun f => f)⟩) (by omega))
  rw [← hn]
  generalize R.u = u
  generalize strOfNums R.t = t
  generalize (R.nx : Int) = z
  generalize (R.e : Int) = E
  clear ha hb hl hn
  have k2 : Kept (fun _ => False) w ((w.alloc (.cells #[.int .u64 u, .string t, .slice a n c, .int .i64 z, .int .i64 E] 60)).alloc (.cells #[.int .u64 u, .string t, .slice b n d, .int .i64 z, .int .i64 E] 60)) := (Kept.alloc _ _).trans (Kept.alloc _ _) (fun _ f => f.elim)
  have C2 := hideH (CS.out _ k2)
  have HK2 := hideH k2
  clear CS k2
  go_enter Tryd.func25, Tryd.ntmps25
  go_wp2_with (go_at_call 63; refine StpH.go ?_)
  refine ⟨?_⟩
  refine C2.out.mono ?_
  rintro e W1 ⟨rfl, k3⟩
  have HKF := hideH (HK2.out.trans k3 (fun _ f => f.elim))
  clear k3 C2
  go_wp2_with fail
  go_ret
  exact ⟨rfl, HKF.out⟩
end Go.Proofs.YtjmmdklgkcbihaaDoor

namespace Go.Proofs.YtjmmdklgkcbihaaDoor
open Go.ChangeShapes Go.WideShapes Go.ChangeAt Go.RowKit

theorem done_anyK (br : Nat) (v : Value) (l : List Int) (w : World) (h : Rd w br v l l.length) :
    Calls Tryd.prog 21 #[.pointer (some ⟨br, 0, none⟩)] w fun e w' => e = .returned .nilIface ∧ ∃ n, w' = w.drewN n := by
  have q := left_any br v l l.length w h
  rw [Nat.sub_self] at q
  have z0 : ((0 : Nat) : Int) = 0 := rfl
  rw [z0] at q
  have Q := hideH q
  clear q h
  go_enter Tryd.func21, Tryd.ntmps21
  go_wp2_with (go_at_call 19; refine Q.out.mono ?_; rintro e w2 ⟨rfl, n, rfl⟩)
  go_ret
  exact ⟨rfl, n, rfl⟩
theorem done_tailK (br : Nat) (v : Value) (l : List Int) (p : Nat) (a4 : Addr) (w : World) (h : Rd w br v l p) (hp : p < l.length) (g4 : w.cell? ⟨2, 0, none⟩ = some (errV a4)) :
    Calls Tryd.prog 21 #[.pointer (some ⟨br, 0, none⟩)] w fun e w' => e = .returned (errV a4) ∧ ∃ n, w' = w.drewN n := by
  have q := left_any br v l p w h
  obtain ⟨d, hd⟩ : ∃ d, d = l.length - p := ⟨_, rfl⟩
  rw [← hd] at q
  have Q := hideH q
  have i1 : (0 : Int) < (d : Int) := by omega
  have hg : ∀ n, (w.drewN n).cell? ⟨2, 0, none⟩ = some (errV a4) := fun n => (Kept.drewN w n).cell g4 (fun f => f)
  unfold errV at hg ⊢
  clear q h hd g4
  go_enter Tryd.func21, Tryd.ntmps21
  go_wp2_with (go_at_call 19; refine Q.out.mono ?_; rintro e w2 ⟨rfl, n, rfl⟩)
  go_ret
  exact ⟨rfl, n, rfl⟩

theorem slice_fromK (W : World) (b n c p : Nat) (hp : p ≤ n) (_hn : n ≤ c) : (Instr.slice 26 (.slice (some ⟨b, 0, none⟩) n c) (some (.int .i64 (p : Int))) none none).run Tryd.prog W = .ok (.slice (some (if c = p then ⟨b, 0, none⟩ else ⟨b, p, none⟩)) (n - p) (c - p)) W := by
  have ht' : Tryd.prog.underlying 26 = some (.slice (Tryd.prog.elem 26)) := by simp [Program.elem, Tryd.underlying26]
  have he : Tryd.prog.elem 26 = 5 := by simp [Program.elem, Tryd.underlying26]
  have hz : (Go.sizeOf 5).run Tryd.prog W = .ok 1 W := by kernel_rfl
  rw [run_slice_l W 26 _ _ _ ht' .i64 _ (by omega) (by omega), he, hz]
  by_cases h0 : c = p
  · simp [Result.andThen, sliced, h0]
  · by_cases h1 : p = 0
    · subst h1; simp [Result.andThen, sliced, Addr.add, h0]
    · simp [Result.andThen, sliced, Addr.add, h0, h1]
theorem R0.far {w W : World} {o : Nat → Nat} {bR : Nat → Nat} {rv : Nat → Value} {l : Nat → List Int} {pR : Nat → Nat} {gr gd : Nat} {vd : Nat → Value} {ga : Nat} {pA : Nat → Nat} (h : R0 w W o bR rv l pR gr gd vd ga pA) : (∀ i, i < 2 → gd ≠ bR i) ∧ ∀ i, i < 2 → ga ≠ bR i := ⟨fun i hi e => by have h1 := h.oh; rw [e, h.or i hi] at h1; omega, fun i hi e => by have h1 := h.oa; rw [e, h.or i hi] at h1; omega⟩
set_option maxRecDepth 20000 in
set_option maxHeartbeats 16000000 in
/-- The law's readsEnd. -/
theorem readsEnd_K {w W : World} {o : Nat → Nat} {bR : Nat → Nat} {rv : Nat → Value} {l : Nat → List Int} {pR : Nat → Nat} {gr gd : Nat} {vd : Nat → Value} {ga : Nat} {kb : Nat} {vB vI : Value} {V I : List Value} {LB LI : List (List Int)} (bm im : Nat → Nat → Int) (hbm : BmI bm) (him : BmII im) (h : R0 w W o bR rv l pR gr gd vd ga pR) (hb : Bq W o kb vB vI V I LB LI) (hV : V.length ≤ 1048576) (hI : I.length ≤ 1048576) (hls : ∀ i, i < 2 → (l i).length ≤ 1048576) (hvd : ∀ i, i < 2 → ∃ b c, vd i = .slice (some ⟨b, 0, none⟩) (l i).length c ∧ True) :
    Calls Tryd.prog 26 #[.slice (some ⟨gr, 0, none⟩) 2 2, .slice (some ⟨gd, 0, none⟩) 2 2, .slice (some ⟨ga, 0, none⟩) 2 2, .pointer (some ⟨kb, 0, none⟩)] W fun e W' => e = .returned (.bool true) ∧ Kept (fun _ => False) w W' := by
  have U := hideH (rr_unshared bm im hbm him h hb hV hI)
  have HNE := hideH h.far
  have HVD := hideH hvd
  have HLS := hideH hls
  clear h hb hbm him hvd hls
  go_enter Tryd.func26, Tryd.ntmps26
  go_wp2_with (go_at_call 12; refine StpH.go ?_)
  refine ⟨?_⟩
  refine U.out.mono ?_
  clear U
  rintro e W1 ⟨rfl, h1⟩
  have HR := hideH h1
  clear h1
  go_wp2_with fail
  go_loopw [20] (fun s20 wr => ∃ (j : Nat) (pA : Nat → Nat), j ≤ 2 ∧ s20 = .int .i64 j ∧ Hid (∀ i, j ≤ i → i < 2 → pA i = pR i) ∧ Hid (R0 w wr o bR rv l pA gr gd vd ga pR)) (fun s20 _ => 2 - (intOf s20).toNat)
  case atStart => exact ⟨0, pR, by omega, rfl, hideH (fun _ _ _ => rfl), HR⟩
  case round =>
  obtain ⟨j, pC, hj, rfl, HPC, HX⟩ := hrel
  obtain ⟨Wp, hWp⟩ : ∃ W, W = wr := ⟨_, rfl⟩
  rw [← hWp] at HX ⊢
  clear hWp HR
  by_cases hj2 : j = 2
  · subst hj2
    have i2 : ¬ ((2 : Nat) : Int) < 2 := by omega
    have HKF := hideH HX.out.kp
    go_wp2_with fail
    go_ret
    exact ⟨rfl, HKF.out⟩
  rcases (show j = 0 ∨ j = 1 by omega) with rfl | rfl
  · have i2 : ((0 : Nat) : Int) < 2 := by omega

    have hc := HX.out.cells
    obtain ⟨⟨r0, r1⟩, ⟨e0, e1⟩, ⟨a0', a1'⟩, -, -⟩ := hc
    obtain ⟨bD, cD, eD, hDl⟩ := HVD.out 0 (by decide)
    obtain ⟨n, hn⟩ : ∃ n, n = (l 0).length := ⟨_, rfl⟩
    rw [← hn] at eD
    clear hDl
    have hnb : n ≤ 1048576 := by rw [hn]; exact HLS.out 0 (by decide)
    have hrd := HX.out.rd 0 (by decide)
    rw [HPC.out 0 (Nat.le_refl _) (by decide)] at hrd
    have hple : pR 0 ≤ n := by rw [hn]; exact hrd.le
    rw [eD] at e0
    have hrow := HX.out.ld 0 (by decide)
    rw [eD] at hrow
    have hlib : Lib Wp (.slice (some ⟨bD, 0, none⟩) n cD) (l 0) := Lib.of_own hrow
    obtain ⟨pz, hpz⟩ : ∃ p, p = pR 0 := ⟨_, rfl⟩
    rw [← hpz] at hple hrd
    rw [← hpz] at a0'
    obtain ⟨d, hd⟩ : ∃ d, d = n - pz := ⟨_, rfl⟩
    have hdi : (n : Int) - (pz : Int) = (d : Int) := by omega
    have hdw : IntKind.i64.wrap (d : Int) = (d : Int) := by rw [IntKind.wrap_i64]; omega
    have CA : Hid (∀ W, Kept (fun _ => False) Wp W → Calls Tryd.prog 20 #[.pointer (some ⟨bR 0, 0, none⟩)] W fun e w' => e = .returned (.int .i64 (pz : Int)) ∧ w' = W) := hideH (fun W k => at_any (bR 0) (rv 0) (l 0) pz W (hrd.kept k (fun f => f) (fun _ _ f => f)))
    have CL : Hid (∀ W, Kept (fun _ => False) Wp W → Calls Tryd.prog 19 #[.pointer (some ⟨bR 0, 0, none⟩)] W fun e w' => e = .returned (.int .i64 (d : Int)) ∧ ∃ n, w' = W.drewN n) := hideH (fun W k => by rw [hd, hn]; exact left_any (bR 0) (rv 0) (l 0) pz W (hrd.kept k (fun f => f) (fun _ _ f => f)))
    have HRD := hideH hrd
    have HLIB := hideH hlib
    have HN := hideH hn
    have HD := hideH hd
    have HPZ := hideH hpz
    clear hn hd hrow hrd hlib hpz
    go_wp2_with fail
    have hS : Kept (fun _ => False) Wp Wp.drew := Kept.drew Wp
    refine wp_region_held (S := fun W' => Kept (fun _ => False) Wp W') (by kernel_rfl) ?_
    change wpAnyH _ _ _ _ _ _ _ _ (World.drew _)
    refine takeYH (i := 0) (d := 25) (v := .pointer (some ⟨bR 0, 0, none⟩)) rfl rfl (by kernel_rfl) (by kernel_rfl) (by kernel_rfl) (fun _ _ _ h => h) (Or.inl ⟨by rfl, fun W hW => ?_⟩) hS ?_
    · (go_simp)
    simp only [Act.put, List.setIfInBounds_toArray, List.set_cons_zero, List.set_cons_succ]
    refine takeYH (i := 1) (d := 26) (v := .pointer (some ⟨bR 0, 0, none⟩)) rfl rfl (by kernel_rfl) (by kernel_rfl) (by kernel_rfl) (fun _ _ _ h => h) (Or.inl ⟨by rfl, fun W hW => ?_⟩) hS ?_
    · (go_simp)
    simp only [Act.put, List.setIfInBounds_toArray, List.set_cons_zero, List.set_cons_succ]
    refine takeYH (i := 2) (d := 27) (v := .pointer (some ⟨bR 0, 0, none⟩)) rfl rfl (by kernel_rfl) (by kernel_rfl) (by kernel_rfl) (fun _ _ _ h => h) (Or.inl ⟨by rfl, fun W hW => ?_⟩) hS ?_
    · (go_simp)
    simp only [Act.put, List.setIfInBounds_toArray, List.set_cons_zero, List.set_cons_succ]
    refine takeYH (i := 4) (d := 29) (v := .slice (some ⟨ga, 0, none⟩) 2 2) rfl rfl (by kernel_rfl) (by kernel_rfl) (by kernel_rfl) (fun _ _ _ h => h) (Or.inl ⟨by rfl, fun W hW => ?_⟩) hS ?_
    · (go_simp)
    simp only [Act.put, List.setIfInBounds_toArray, List.set_cons_zero, List.set_cons_succ]
    refine takeYH (i := 5) (d := 30) (v := .int .i64 0) rfl rfl (by kernel_rfl) (by kernel_rfl) (by kernel_rfl) (fun _ _ _ h => h) (Or.inl ⟨by rfl, fun W hW => ?_⟩) hS ?_
    · (go_simp)
    simp only [Act.put, List.setIfInBounds_toArray, List.set_cons_zero, List.set_cons_succ]
    refine takeYH (i := 6) (d := 31) (v := .pointer (some ⟨ga, 0, none⟩)) rfl rfl (by kernel_rfl) (by kernel_rfl) (by kernel_rfl) (fun _ _ _ h => h) (Or.inl ⟨by rfl, fun W hW => ?_⟩) hS ?_
    · (go_simp)
    simp only [Act.put, List.setIfInBounds_toArray, List.set_cons_zero, List.set_cons_succ]
    refine takeYH (i := 7) (d := 32) (v := .int .i64 (pz : Int)) rfl rfl (by kernel_rfl) (by kernel_rfl) (by kernel_rfl) (fun _ _ _ h => h) (Or.inl ⟨by rfl, fun W hW => ?_⟩) hS ?_
    · have x0 := Kept.cell (F := fun _ => False) (w := Wp) (w' := W) hW a0' (fun f => f)
      (go_simp)
    simp only [Act.put, List.setIfInBounds_toArray, List.set_cons_zero, List.set_cons_succ]

    refine wpAnyH_all (rs := [3]) (by kernel_rfl) (by simp) ?_
    intro i' hi'
    obtain rfl : i' = 3 := by simpa using hi'
    unfold wpOp
    go_simp
    first | refine (CA.out Wp.drew hS).mono ?_ | refine Or.inl ((CA.out Wp.drew hS).mono ?_)
    rintro e Wy ⟨rfl, rfl⟩
    first | refine ⟨hS, ?_⟩ | skip
    refine takeYH (i := 8) (d := 33) (v := .bool false) rfl rfl (by kernel_rfl) (by kernel_rfl) (by kernel_rfl) (fun _ _ _ h => h) (Or.inl ⟨by rfl, fun W hW => ?_⟩) hS ?_
    · (go_simp)
    simp only [Act.put, List.setIfInBounds_toArray, List.set_cons_zero, List.set_cons_succ]
    refine takeYH (i := 9) (d := 34) (v := .bool false) rfl rfl (by kernel_rfl) (by kernel_rfl) (by kernel_rfl) (fun _ _ _ h => h) (Or.inl ⟨by rfl, fun W hW => ?_⟩) hS ?_
    · (go_simp)
    simp only [Act.put, List.setIfInBounds_toArray, List.set_cons_zero, List.set_cons_succ]
    refine takeYH (i := 10) (d := 35) (v := .pointer (some ⟨bR 0, 0, none⟩)) rfl rfl (by kernel_rfl) (by kernel_rfl) (by kernel_rfl) (fun _ _ _ h => h) (Or.inl ⟨by rfl, fun W hW => ?_⟩) hS ?_
    · (go_simp)
    simp only [Act.put, List.setIfInBounds_toArray, List.set_cons_zero, List.set_cons_succ]
    refine takeYH (i := 11) (d := 36) (v := .pointer (some ⟨bR 0, 0, none⟩)) rfl rfl (by kernel_rfl) (by kernel_rfl) (by kernel_rfl) (fun _ _ _ h => h) (Or.inl ⟨by rfl, fun W hW => ?_⟩) hS ?_
    · (go_simp)
    simp only [Act.put, List.setIfInBounds_toArray, List.set_cons_zero, List.set_cons_succ]
    refine takeYH (i := 12) (d := 37) (v := .pointer (some ⟨bR 0, 0, none⟩)) rfl rfl (by kernel_rfl) (by kernel_rfl) (by kernel_rfl) (fun _ _ _ h => h) (Or.inl ⟨by rfl, fun W hW => ?_⟩) hS ?_
    · (go_simp)
    simp only [Act.put, List.setIfInBounds_toArray, List.set_cons_zero, List.set_cons_succ]
    refine takeYH (i := 14) (d := 39) (v := .slice (some ⟨gd, 0, none⟩) 2 2) rfl rfl (by kernel_rfl) (by kernel_rfl) (by kernel_rfl) (fun _ _ _ h => h) (Or.inl ⟨by rfl, fun W hW => ?_⟩) hS ?_
    · (go_simp)
    simp only [Act.put, List.setIfInBounds_toArray, List.set_cons_zero, List.set_cons_succ]
    refine takeYH (i := 15) (d := 40) (v := .int .i64 0) rfl rfl (by kernel_rfl) (by kernel_rfl) (by kernel_rfl) (fun _ _ _ h => h) (Or.inl ⟨by rfl, fun W hW => ?_⟩) hS ?_
    · (go_simp)
    simp only [Act.put, List.setIfInBounds_toArray, List.set_cons_zero, List.set_cons_succ]
    refine takeYH (i := 16) (d := 41) (v := .pointer (some ⟨gd, 0, none⟩)) rfl rfl (by kernel_rfl) (by kernel_rfl) (by kernel_rfl) (fun _ _ _ h => h) (Or.inl ⟨by rfl, fun W hW => ?_⟩) hS ?_
    · (go_simp)
    simp only [Act.put, List.setIfInBounds_toArray, List.set_cons_zero, List.set_cons_succ]
    refine takeYH (i := 17) (d := 42) (v := .slice (some ⟨bD, 0, none⟩) n cD) rfl rfl (by kernel_rfl) (by kernel_rfl) (by kernel_rfl) (fun _ _ _ h => h) (Or.inl ⟨by rfl, fun W hW => ?_⟩) hS ?_
    · have x0 := Kept.cell (F := fun _ => False) (w := Wp) (w' := W) hW e0 (fun f => f)
      (go_simp)
    simp only [Act.put, List.setIfInBounds_toArray, List.set_cons_zero, List.set_cons_succ]
    refine takeYH (i := 18) (d := 43) (v := .int .i64 (n : Int)) rfl rfl (by kernel_rfl) (by kernel_rfl) (by kernel_rfl) (fun _ _ _ h => h) (Or.inl ⟨by rfl, fun W hW => ?_⟩) hS ?_
    · (go_simp)
    simp only [Act.put, List.setIfInBounds_toArray, List.set_cons_zero, List.set_cons_succ]
    refine takeYH (i := 19) (d := 44) (v := .slice (some ⟨ga, 0, none⟩) 2 2) rfl rfl (by kernel_rfl) (by kernel_rfl) (by kernel_rfl) (fun _ _ _ h => h) (Or.inl ⟨by rfl, fun W hW => ?_⟩) hS ?_
    · (go_simp)
    simp only [Act.put, List.setIfInBounds_toArray, List.set_cons_zero, List.set_cons_succ]
    refine takeYH (i := 20) (d := 45) (v := .int .i64 0) rfl rfl (by kernel_rfl) (by kernel_rfl) (by kernel_rfl) (fun _ _ _ h => h) (Or.inl ⟨by rfl, fun W hW => ?_⟩) hS ?_
    · (go_simp)
    simp only [Act.put, List.setIfInBounds_toArray, List.set_cons_zero, List.set_cons_succ]
    refine takeYH (i := 21) (d := 46) (v := .pointer (some ⟨ga, 0, none⟩)) rfl rfl (by kernel_rfl) (by kernel_rfl) (by kernel_rfl) (fun _ _ _ h => h) (Or.inl ⟨by rfl, fun W hW => ?_⟩) hS ?_
    · (go_simp)
    simp only [Act.put, List.setIfInBounds_toArray, List.set_cons_zero, List.set_cons_succ]
    refine takeYH (i := 22) (d := 47) (v := .int .i64 (pz : Int)) rfl rfl (by kernel_rfl) (by kernel_rfl) (by kernel_rfl) (fun _ _ _ h => h) (Or.inl ⟨by rfl, fun W hW => ?_⟩) hS ?_
    · have x0 := Kept.cell (F := fun _ => False) (w := Wp) (w' := W) hW a0' (fun f => f)
      (go_simp)
    simp only [Act.put, List.setIfInBounds_toArray, List.set_cons_zero, List.set_cons_succ]
    refine takeYH (i := 23) (d := 48) (v := .int .i64 (d : Int)) rfl rfl (by kernel_rfl) (by kernel_rfl) (by kernel_rfl) (fun _ _ _ h => h) (Or.inl ⟨by rfl, fun W hW => ?_⟩) hS ?_
    · (go_simp)
    simp only [Act.put, List.setIfInBounds_toArray, List.set_cons_zero, List.set_cons_succ]

    refine wpAnyH_all (rs := [13]) (by kernel_rfl) (by simp) ?_
    intro i' hi'
    obtain rfl : i' = 13 := by simpa using hi'
    unfold wpOp
    go_simp
    first | refine (CL.out Wp.drew hS).mono ?_ | refine Or.inl ((CL.out Wp.drew hS).mono ?_)
    rintro e Wy ⟨rfl, n9, rfl⟩
    have hS2 : Kept (fun _ => False) Wp (Wp.drew.drewN n9) := hS.trans (Kept.drewN _ _) (fun _ f => f.elim)
    first | refine ⟨hS2, ?_⟩ | skip
    refine takeYH (i := 24) (d := 49) (v := .bool false) rfl rfl (by kernel_rfl) (by kernel_rfl) (by kernel_rfl) (fun _ _ _ h => h) (Or.inl ⟨by rfl, fun W hW => ?_⟩) hS2 ?_
    · (go_simp)
    simp only [Act.put, List.setIfInBounds_toArray, List.set_cons_zero, List.set_cons_succ]
    refine takeYH (i := 25) (d := 50) (v := .bool false) rfl rfl (by kernel_rfl) (by kernel_rfl) (by kernel_rfl) (fun _ _ _ h => h) (Or.inl ⟨by rfl, fun W hW => ?_⟩) hS2 ?_
    · (go_simp)
    simp only [Act.put, List.setIfInBounds_toArray, List.set_cons_zero, List.set_cons_succ]

    refine wpAnyH_done (by kernel_rfl) ?_ _
    obtain ⟨Wq, hWq⟩ : ∃ W, W = Wp.drew.drewN n9 := ⟨_, rfl⟩
    rw [← hWq] at hS2 ⊢
    have HKQ := hideH hS2
    have e2 := hS2.cell e0 (fun f => f)
    have a2 := hS2.cell a0' (fun f => f)
    have hrq := HRD.out.kept hS2 (fun f => f) (fun _ _ f => f)
    have CR : Hid (∀ W, Kept (fun _ => False) Wq W → Calls Tryd.prog 18 #[.pointer (some ⟨bR 0, 0, none⟩), .int .i64 (d : Int)] W fun e w' => ∃ g, e = .returned (.tuple #[.slice (some ⟨g, 0, none⟩) d d, .nilIface]) ∧ Hid (w'.ownsRow W.heap.size 5 1 (.slice (some ⟨g, 0, none⟩) d d) d (bs (((l 0).drop pz).take d)) ∧ Rd w' (bR 0) (rv 0) (l 0) (pz + d) ∧ Kept (fun i => i = bR 0) W w')) := hideH (fun W k => (rraw_ok (bR 0) (rv 0) (l 0) pz d W (hrq.kept k (fun f => f) (fun _ _ f => f)) (by rw [← HN.out]; have := HD.out; omega)).mono (by rintro e w' ⟨g, he, -, h1, h2, h3⟩; exact ⟨g, he, h1, h2, h3⟩))
    clear hWq hS hS2 CA CL r0 r1 e0 e1 a0' a1' hrq
    go_wp2_with fail
    have hS : Kept (fun i => i = bR 0) Wq Wq.drew := (Kept.drew Wq).mono (fun _ f => f.elim)
    have hS0 : Kept (fun _ => False) Wq Wq.drew := Kept.drew Wq
    have hne1 : gd ≠ bR 0 := HNE.out.1 0 (by decide)
    have hne2 : ga ≠ bR 0 := HNE.out.2 0 (by decide)
    refine wp_region_held (S := fun W' => Kept (fun i => i = bR 0) Wq W') (by kernel_rfl) ?_
    change wpAnyH _ _ _ _ _ _ _ _ (World.drew _)
    refine takeYH (i := 0) (d := 52) (v := .pointer (some ⟨bR 0, 0, none⟩)) rfl rfl (by kernel_rfl) (by kernel_rfl) (by kernel_rfl) (fun _ _ _ h => h) (Or.inl ⟨by rfl, fun W hW => ?_⟩) hS ?_
    · (go_simp)
    simp only [Act.put, List.setIfInBounds_toArray, List.set_cons_zero, List.set_cons_succ]
    refine takeYH (i := 1) (d := 53) (v := .slice (some ⟨gd, 0, none⟩) 2 2) rfl rfl (by kernel_rfl) (by kernel_rfl) (by kernel_rfl) (fun _ _ _ h => h) (Or.inl ⟨by rfl, fun W hW => ?_⟩) hS ?_
    · (go_simp)
    simp only [Act.put, List.setIfInBounds_toArray, List.set_cons_zero, List.set_cons_succ]
    refine takeYH (i := 2) (d := 54) (v := .int .i64 0) rfl rfl (by kernel_rfl) (by kernel_rfl) (by kernel_rfl) (fun _ _ _ h => h) (Or.inl ⟨by rfl, fun W hW => ?_⟩) hS ?_
    · (go_simp)
    simp only [Act.put, List.setIfInBounds_toArray, List.set_cons_zero, List.set_cons_succ]
    refine takeYH (i := 3) (d := 55) (v := .pointer (some ⟨gd, 0, none⟩)) rfl rfl (by kernel_rfl) (by kernel_rfl) (by kernel_rfl) (fun _ _ _ h => h) (Or.inl ⟨by rfl, fun W hW => ?_⟩) hS ?_
    · (go_simp)
    simp only [Act.put, List.setIfInBounds_toArray, List.set_cons_zero, List.set_cons_succ]
    refine takeYH (i := 4) (d := 56) (v := .slice (some ⟨bD, 0, none⟩) n cD) rfl rfl (by kernel_rfl) (by kernel_rfl) (by kernel_rfl) (fun _ _ _ h => h) (Or.inl ⟨by rfl, fun W hW => ?_⟩) hS ?_
    · have x0 := Kept.cell (F := fun i => i = bR 0) (w := Wq) (w' := W) hW e2 hne1
      (go_simp)
    simp only [Act.put, List.setIfInBounds_toArray, List.set_cons_zero, List.set_cons_succ]
    refine takeYH (i := 5) (d := 57) (v := .int .i64 (n : Int)) rfl rfl (by kernel_rfl) (by kernel_rfl) (by kernel_rfl) (fun _ _ _ h => h) (Or.inl ⟨by rfl, fun W hW => ?_⟩) hS ?_
    · (go_simp)
    simp only [Act.put, List.setIfInBounds_toArray, List.set_cons_zero, List.set_cons_succ]
    refine takeYH (i := 6) (d := 58) (v := .slice (some ⟨ga, 0, none⟩) 2 2) rfl rfl (by kernel_rfl) (by kernel_rfl) (by kernel_rfl) (fun _ _ _ h => h) (Or.inl ⟨by rfl, fun W hW => ?_⟩) hS ?_
    · (go_simp)
    simp only [Act.put, List.setIfInBounds_toArray, List.set_cons_zero, List.set_cons_succ]
    refine takeYH (i := 7) (d := 59) (v := .int .i64 0) rfl rfl (by kernel_rfl) (by kernel_rfl) (by kernel_rfl) (fun _ _ _ h => h) (Or.inl ⟨by rfl, fun W hW => ?_⟩) hS ?_
    · (go_simp)
    simp only [Act.put, List.setIfInBounds_toArray, List.set_cons_zero, List.set_cons_succ]
    refine takeYH (i := 8) (d := 60) (v := .pointer (some ⟨ga, 0, none⟩)) rfl rfl (by kernel_rfl) (by kernel_rfl) (by kernel_rfl) (fun _ _ _ h => h) (Or.inl ⟨by rfl, fun W hW => ?_⟩) hS ?_
    · (go_simp)
    simp only [Act.put, List.setIfInBounds_toArray, List.set_cons_zero, List.set_cons_succ]
    refine takeYH (i := 9) (d := 61) (v := .int .i64 (pz : Int)) rfl rfl (by kernel_rfl) (by kernel_rfl) (by kernel_rfl) (fun _ _ _ h => h) (Or.inl ⟨by rfl, fun W hW => ?_⟩) hS ?_
    · have x0 := Kept.cell (F := fun i => i = bR 0) (w := Wq) (w' := W) hW a2 hne2
      (go_simp)
    simp only [Act.put, List.setIfInBounds_toArray, List.set_cons_zero, List.set_cons_succ]
    refine takeYH (i := 10) (d := 62) (v := .int .i64 (d : Int)) rfl rfl (by kernel_rfl) (by kernel_rfl) (by kernel_rfl) (fun _ _ _ h => h) (Or.inl ⟨by rfl, fun W hW => ?_⟩) hS ?_
    · (go_simp)
    simp only [Act.put, List.setIfInBounds_toArray, List.set_cons_zero, List.set_cons_succ]

    refine wpAnyH_all (rs := [11]) (by kernel_rfl) (by simp) ?_
    intro i' hi'
    obtain rfl : i' = 11 := by simpa using hi'
    unfold wpOp
    go_simp
    first | refine (CR.out Wq.drew hS0).mono ?_ | refine Or.inl ((CR.out Wq.drew hS0).mono ?_)
    rintro e Wy ⟨g, rfl, HRW⟩
    have hS3 : Kept (fun i => i = bR 0) Wq Wy := hS.trans HRW.out.2.2 (fun _ e => .inl e)
    first | refine ⟨hS3, ?_⟩ | skip
    refine takeYH (i := 12) (d := 51) (v := .tuple #[.slice (some ⟨g, 0, none⟩) d d, .nilIface]) rfl rfl (by kernel_rfl) (by kernel_rfl) (by kernel_rfl) (fun _ _ _ h => h) (Or.inl ⟨by rfl, fun W hW => ?_⟩) hS3 ?_
    · (go_simp)
    simp only [Act.put, List.setIfInBounds_toArray, List.set_cons_zero, List.set_cons_succ]
    refine takeYH (i := 13) (d := 64) (v := .slice (some ⟨g, 0, none⟩) d d) rfl rfl (by kernel_rfl) (by kernel_rfl) (by kernel_rfl) (fun _ _ _ h => h) (Or.inl ⟨by rfl, fun W hW => ?_⟩) hS3 ?_
    · (go_simp)
    simp only [Act.put, List.setIfInBounds_toArray, List.set_cons_zero, List.set_cons_succ]
    refine takeYH (i := 14) (d := 65) (v := .nilIface) rfl rfl (by kernel_rfl) (by kernel_rfl) (by kernel_rfl) (fun _ _ _ h => h) (Or.inl ⟨by rfl, fun W hW => ?_⟩) hS3 ?_
    · (go_simp)
    simp only [Act.put, List.setIfInBounds_toArray, List.set_cons_zero, List.set_cons_succ]
    refine takeYH (i := 15) (d := 12) (v := .slice (some ⟨g, 0, none⟩) d d) rfl rfl (by kernel_rfl) (by kernel_rfl) (by kernel_rfl) (fun _ _ _ h => h) (Or.inl ⟨by rfl, fun W hW => ?_⟩) hS3 ?_
    · (go_simp)
    simp only [Act.put, List.setIfInBounds_toArray, List.set_cons_zero, List.set_cons_succ]
    refine takeYH (i := 16) (d := 13) (v := .nilIface) rfl rfl (by kernel_rfl) (by kernel_rfl) (by kernel_rfl) (fun _ _ _ h => h) (Or.inl ⟨by rfl, fun W hW => ?_⟩) hS3 ?_
    · (go_simp)
    simp only [Act.put, List.setIfInBounds_toArray, List.set_cons_zero, List.set_cons_succ]

    refine wpAnyH_done (by kernel_rfl) ?_ _
    obtain ⟨hrow, hrd2, kk⟩ := HRW.out
    have e3 := hS3.cell e2 hne1
    have a3 := hS3.cell a2 hne2
    have hx1 := HX.out.move 0 (by decide) ((HKQ.out.mono (fun _ f => f.elim)).trans hS3 (fun _ e => .inl e)) (fun q f _ => .inl (by have f2 : q = bR 0 := f; rw [f2]; exact HX.out.or 0 (by decide))) hrd2 o (fun _ _ => rfl)
    have hpd : pz + d = (l 0).length := by rw [← HN.out]; have := HD.out; omega
    rw [hpd] at hrd2
    have etk : ((l 0).drop pz).take d = (l 0).drop pz := List.take_of_length_le (by rw [List.length_drop, ← HN.out]; have := HD.out; omega)
    rw [etk] at hrow
    have libR : Lib Wy (.slice (some ⟨g, 0, none⟩) d d) ((l 0).drop pz) := Lib.of_own hrow
    have libD := hx1.ld 0 (by decide)
    rw [eD, ← HN.out] at libD
    have hcapD := (HLIB.out.shape)
    have hbt : ∀ W, Kept (fun _ => False) Wy W → ∀ ad c', (0 < d → ad = some ⟨bD, pz, none⟩) → (convert 26 9 (.slice ad d c')).run Tryd.prog W = .ok (.string (strOfNums ((l 0).drop pz))) W := fun W kW ad c' hh => by
      have hle : ((l 0).drop pz).length = d := by rw [List.length_drop, ← HN.out]; exact HD.out.symm
      have q := conv_atK (W := W) (a := ad) (B := (l 0).drop pz) (c := c') (fun hne => by
        have h0 : 0 < d := by rw [← hle]; exact List.length_pos_iff.2 hne
        rw [hh h0]
        obtain ⟨a9, c9, e9, hb9⟩ := ((Lib.of_own libD).later kW).bytes
        rw [← HN.out] at e9
        simp only [Value.slice.injEq] at e9
        obtain ⟨rfl, -, rfl⟩ := e9
        obtain ⟨b8, o8, e8, hc8⟩ := hb9 (by intro e; rw [e] at hne; simp at hne)
        simp only [Option.some.injEq, Addr.mk.injEq, and_true] at e8
        obtain ⟨rfl, rfl⟩ := e8
        have q2 := BytesAt.cut (w := W) hc8 (show pz + d ≤ (l 0).length by omega)
        rw [etk, Nat.zero_add] at q2
        exact q2 hne)
      rw [hle] at q
      exact q
    have hcap : n ≤ cD := by obtain ⟨a7, c7, e7, -, h7⟩ := HLIB.out.shape; simp only [Value.slice.injEq] at e7; rw [← HN.out] at h7; omega
    have HX1 := hideH hx1
    have HR2 := hideH hrd2
    have HLR := hideH libR
    have HBT := hideH hbt
    clear hS hS0 hS3 e2 a2 HRW CR hrow kk hx1 hrd2 libR libD hcapD hbt hpd etk HKQ HX
    obtain ⟨adr, hadr⟩ : ∃ a : Addr, a = if cD = pz then ⟨bD, 0, none⟩ else ⟨bD, pz, none⟩ := ⟨_, rfl⟩
    have sl : ∀ W, (Instr.slice 26 (.slice (some ⟨bD, 0, none⟩) n cD) (some (.int .i64 (pz : Int))) none none).run Tryd.prog W = .ok (.slice (some adr) d (cD - pz)) W := fun W => by rw [hadr, HD.out]; exact slice_fromK W bD n cD pz hple hcap
    have HAD : Hid (0 < d → some adr = some ⟨bD, pz, none⟩) := hideH (fun h0 => by rw [hadr, if_neg (by have := HD.out; omega)])
    have HSL := hideH sl
    clear hadr sl
    go_wp2_with fail
    have hS : Kept (fun _ => False) Wy Wy.drew := Kept.drew Wy
    refine wp_region_held (S := fun W' => Kept (fun _ => False) Wy W') (by kernel_rfl) ?_
    change wpAnyH _ _ _ _ _ _ _ _ (World.drew _)
    refine takeYH (i := 0) (d := 66) (v := .nilIface) rfl rfl (by kernel_rfl) (by kernel_rfl) (by kernel_rfl) (fun _ _ _ h => h) (Or.inl ⟨by rfl, fun W hW => ?_⟩) hS ?_
    · (go_simp)
    simp only [Act.put, List.setIfInBounds_toArray, List.set_cons_zero, List.set_cons_succ]
    refine takeYH (i := 1) (d := 67) (v := .bool false) rfl rfl (by kernel_rfl) (by kernel_rfl) (by kernel_rfl) (fun _ _ _ h => h) (Or.inl ⟨by rfl, fun W hW => ?_⟩) hS ?_
    · (go_simp)
    simp only [Act.put, List.setIfInBounds_toArray, List.set_cons_zero, List.set_cons_succ]
    refine takeYH (i := 2) (d := 68) (v := .bool false) rfl rfl (by kernel_rfl) (by kernel_rfl) (by kernel_rfl) (fun _ _ _ h => h) (Or.inl ⟨by rfl, fun W hW => ?_⟩) hS ?_
    · (go_simp)
    simp only [Act.put, List.setIfInBounds_toArray, List.set_cons_zero, List.set_cons_succ]
    refine takeYH (i := 3) (d := 69) (v := .slice (some ⟨g, 0, none⟩) d d) rfl rfl (by kernel_rfl) (by kernel_rfl) (by kernel_rfl) (fun _ _ _ h => h) (Or.inl ⟨by rfl, fun W hW => ?_⟩) hS ?_
    · (go_simp)
    simp only [Act.put, List.setIfInBounds_toArray, List.set_cons_zero, List.set_cons_succ]
    refine takeYH (i := 4) (d := 70) (v := .string (strOfNums ((l 0).drop pz))) rfl rfl (by kernel_rfl) (by kernel_rfl) (by kernel_rfl) (fun _ _ _ h => h) (Or.inl ⟨by rfl, fun W hW => ?_⟩) hS ?_
    · have x0 := conv_atH (HLR.out.later hW)
      (go_simp)
    simp only [Act.put, List.setIfInBounds_toArray, List.set_cons_zero, List.set_cons_succ]
    refine takeYH (i := 5) (d := 71) (v := .slice (some ⟨gd, 0, none⟩) 2 2) rfl rfl (by kernel_rfl) (by kernel_rfl) (by kernel_rfl) (fun _ _ _ h => h) (Or.inl ⟨by rfl, fun W hW => ?_⟩) hS ?_
    · (go_simp)
    simp only [Act.put, List.setIfInBounds_toArray, List.set_cons_zero, List.set_cons_succ]
    refine takeYH (i := 6) (d := 72) (v := .int .i64 0) rfl rfl (by kernel_rfl) (by kernel_rfl) (by kernel_rfl) (fun _ _ _ h => h) (Or.inl ⟨by rfl, fun W hW => ?_⟩) hS ?_
    · (go_simp)
    simp only [Act.put, List.setIfInBounds_toArray, List.set_cons_zero, List.set_cons_succ]
    refine takeYH (i := 7) (d := 73) (v := .pointer (some ⟨gd, 0, none⟩)) rfl rfl (by kernel_rfl) (by kernel_rfl) (by kernel_rfl) (fun _ _ _ h => h) (Or.inl ⟨by rfl, fun W hW => ?_⟩) hS ?_
    · (go_simp)
    simp only [Act.put, List.setIfInBounds_toArray, List.set_cons_zero, List.set_cons_succ]
    refine takeYH (i := 8) (d := 74) (v := .slice (some ⟨bD, 0, none⟩) n cD) rfl rfl (by kernel_rfl) (by kernel_rfl) (by kernel_rfl) (fun _ _ _ h => h) (Or.inl ⟨by rfl, fun W hW => ?_⟩) hS ?_
    · have x0 := Kept.cell (F := fun _ => False) (w := Wy) (w' := W) hW e3 (fun f => f)
      (go_simp)
    simp only [Act.put, List.setIfInBounds_toArray, List.set_cons_zero, List.set_cons_succ]
    refine takeYH (i := 9) (d := 75) (v := .slice (some ⟨ga, 0, none⟩) 2 2) rfl rfl (by kernel_rfl) (by kernel_rfl) (by kernel_rfl) (fun _ _ _ h => h) (Or.inl ⟨by rfl, fun W hW => ?_⟩) hS ?_
    · (go_simp)
    simp only [Act.put, List.setIfInBounds_toArray, List.set_cons_zero, List.set_cons_succ]
    refine takeYH (i := 10) (d := 76) (v := .int .i64 0) rfl rfl (by kernel_rfl) (by kernel_rfl) (by kernel_rfl) (fun _ _ _ h => h) (Or.inl ⟨by rfl, fun W hW => ?_⟩) hS ?_
    · (go_simp)
    simp only [Act.put, List.setIfInBounds_toArray, List.set_cons_zero, List.set_cons_succ]
    refine takeYH (i := 11) (d := 77) (v := .pointer (some ⟨ga, 0, none⟩)) rfl rfl (by kernel_rfl) (by kernel_rfl) (by kernel_rfl) (fun _ _ _ h => h) (Or.inl ⟨by rfl, fun W hW => ?_⟩) hS ?_
    · (go_simp)
    simp only [Act.put, List.setIfInBounds_toArray, List.set_cons_zero, List.set_cons_succ]
    refine takeYH (i := 12) (d := 78) (v := .int .i64 (pz : Int)) rfl rfl (by kernel_rfl) (by kernel_rfl) (by kernel_rfl) (fun _ _ _ h => h) (Or.inl ⟨by rfl, fun W hW => ?_⟩) hS ?_
    · have x0 := Kept.cell (F := fun _ => False) (w := Wy) (w' := W) hW a3 (fun f => f)
      (go_simp)
    simp only [Act.put, List.setIfInBounds_toArray, List.set_cons_zero, List.set_cons_succ]
    refine takeYH (i := 13) (d := 79) (v := .slice (some adr) d (cD - pz)) rfl rfl (by kernel_rfl) (by kernel_rfl) (by kernel_rfl) (fun _ _ _ h => h) (Or.inl ⟨by rfl, fun W hW => ?_⟩) hS ?_
    · have x0 := HSL.out W
      (go_simp)
    simp only [Act.put, List.setIfInBounds_toArray, List.set_cons_zero, List.set_cons_succ]
    refine takeYH (i := 14) (d := 80) (v := .string (strOfNums ((l 0).drop pz))) rfl rfl (by kernel_rfl) (by kernel_rfl) (by kernel_rfl) (fun _ _ _ h => h) (Or.inl ⟨by rfl, fun W hW => ?_⟩) hS ?_
    · have x0 := HBT.out W hW (some adr) (cD - pz) HAD.out
      (go_simp)
    simp only [Act.put, List.setIfInBounds_toArray, List.set_cons_zero, List.set_cons_succ]
    refine takeYH (i := 15) (d := 81) (v := .bool false) rfl rfl (by kernel_rfl) (by kernel_rfl) (by kernel_rfl) (fun _ _ _ h => h) (Or.inl ⟨by rfl, fun W hW => ?_⟩) hS ?_
    · (go_simp)
    simp only [Act.put, List.setIfInBounds_toArray, List.set_cons_zero, List.set_cons_succ]
    refine takeYH (i := 16) (d := 82) (v := .bool false) rfl rfl (by kernel_rfl) (by kernel_rfl) (by kernel_rfl) (fun _ _ _ h => h) (Or.inl ⟨by rfl, fun W hW => ?_⟩) hS ?_
    · (go_simp)
    simp only [Act.put, List.setIfInBounds_toArray, List.set_cons_zero, List.set_cons_succ]

    refine wpAnyH_done (by kernel_rfl) ?_ _
    obtain ⟨Wz, hWz⟩ : ∃ W, W = Wy.drew := ⟨_, rfl⟩
    rw [← hWz] at hS ⊢
    have hrz := HR2.out.kept hS (fun f => f) (fun _ _ f => f)
    have HX2 := hideH (HX1.out.later hS)
    have CL : Hid (∀ W, Kept (fun _ => False) Wz W → Calls Tryd.prog 19 #[.pointer (some ⟨bR 0, 0, none⟩)] W fun e w' => e = .returned (.int .i64 0) ∧ ∃ n, w' = W.drewN n) := hideH (fun W k => by have q := left_any (bR 0) (rv 0) (l 0) (l 0).length W (hrz.kept k (fun f => f) (fun _ _ f => f)); rw [Nat.sub_self] at q; exact q)
    have CD : Hid (∀ W, Kept (fun _ => False) Wz W → Calls Tryd.prog 21 #[.pointer (some ⟨bR 0, 0, none⟩)] W fun e w' => e = .returned .nilIface ∧ ∃ n, w' = W.drewN n) := hideH (fun W k => done_anyK (bR 0) (rv 0) (l 0) W (hrz.kept k (fun f => f) (fun _ _ f => f)))
    clear hWz hS hrz HX1 HR2 HSL HAD HBT HLR e3 a3
    go_wp2_with (go_at_call 19; refine StpH.go ?_)
    refine ⟨?_⟩
    refine (CL.out _ (Kept.refl _ _)).mono ?_
    clear CL
    rintro e Wu ⟨rfl, n5, rfl⟩
    go_wp2_with (go_at_call 21; refine StpH.go ?_)
    refine ⟨?_⟩
    refine (CD.out _ (Kept.drewN _ _)).mono ?_
    clear CD
    rintro e Wv ⟨rfl, n6, rfl⟩
    have HF := hideH (HX2.out.later (Kept.drewN _ (n5 + n6)))
    clear HX2
    go_wp2_with fail
    go_roundw
    case rel => exact ⟨1, upK pC 0 (pz + d), by omega, by go_num, hideH (fun i h1 h2 => by rw [upK_ne _ _ (by omega)]; exact HPC.out i (by omega) h2), HF⟩
    case measure => simp [intOf]
  · have i2 : ((1 : Nat) : Int) < 2 := by omega

    have hc := HX.out.cells
    obtain ⟨⟨r0, r1⟩, ⟨e0, e1⟩, ⟨a0', a1'⟩, -, -⟩ := hc
    obtain ⟨bD, cD, eD, hDl⟩ := HVD.out 1 (by decide)
    obtain ⟨n, hn⟩ : ∃ n, n = (l 1).length := ⟨_, rfl⟩
    rw [← hn] at eD
    clear hDl
    have hnb : n ≤ 1048576 := by rw [hn]; exact HLS.out 1 (by decide)
    have hrd := HX.out.rd 1 (by decide)
    rw [HPC.out 1 (Nat.le_refl _) (by decide)] at hrd
    have hple : pR 1 ≤ n := by rw [hn]; exact hrd.le
    rw [eD] at e1
    have hrow := HX.out.ld 1 (by decide)
    rw [eD] at hrow
    have hlib : Lib Wp (.slice (some ⟨bD, 0, none⟩) n cD) (l 1) := Lib.of_own hrow
    obtain ⟨pz, hpz⟩ : ∃ p, p = pR 1 := ⟨_, rfl⟩
    rw [← hpz] at hple hrd
    rw [← hpz] at a1'
    obtain ⟨d, hd⟩ : ∃ d, d = n - pz := ⟨_, rfl⟩
    have hdi : (n : Int) - (pz : Int) = (d : Int) := by omega
    have hdw : IntKind.i64.wrap (d : Int) = (d : Int) := by rw [IntKind.wrap_i64]; omega
    have CA : Hid (∀ W, Kept (fun _ => False) Wp W → Calls Tryd.prog 20 #[.pointer (some ⟨bR 1, 0, none⟩)] W fun e w' => e = .returned (.int .i64 (pz : Int)) ∧ w' = W) := hideH (fun W k => at_any (bR 1) (rv 1) (l 1) pz W (hrd.kept k (fun f => f) (fun _ _ f => f)))
    have CL : Hid (∀ W, Kept (fun _ => False) Wp W → Calls Tryd.prog 19 #[.pointer (some ⟨bR 1, 0, none⟩)] W fun e w' => e = .returned (.int .i64 (d : Int)) ∧ ∃ n, w' = W.drewN n) := hideH (fun W k => by rw [hd, hn]; exact left_any (bR 1) (rv 1) (l 1) pz W (hrd.kept k (fun f => f) (fun _ _ f => f)))
    have HRD := hideH hrd
    have HLIB := hideH hlib
    have HN := hideH hn
    have HD := hideH hd
    have HPZ := hideH hpz
    clear hn hd hrow hrd hlib hpz
    go_wp2_with fail
    have hS : Kept (fun _ => False) Wp Wp.drew := Kept.drew Wp
    refine wp_region_held (S := fun W' => Kept (fun _ => False) Wp W') (by kernel_rfl) ?_
    change wpAnyH _ _ _ _ _ _ _ _ (World.drew _)
    refine takeYH (i := 0) (d := 25) (v := .pointer (some ⟨bR 1, 0, none⟩)) rfl rfl (by kernel_rfl) (by kernel_rfl) (by kernel_rfl) (fun _ _ _ h => h) (Or.inl ⟨by rfl, fun W hW => ?_⟩) hS ?_
    · (go_simp)
    simp only [Act.put, List.setIfInBounds_toArray, List.set_cons_zero, List.set_cons_succ]
    refine takeYH (i := 1) (d := 26) (v := .pointer (some ⟨bR 1, 0, none⟩)) rfl rfl (by kernel_rfl) (by kernel_rfl) (by kernel_rfl) (fun _ _ _ h => h) (Or.inl ⟨by rfl, fun W hW => ?_⟩) hS ?_
    · (go_simp)
    simp only [Act.put, List.setIfInBounds_toArray, List.set_cons_zero, List.set_cons_succ]
    refine takeYH (i := 2) (d := 27) (v := .pointer (some ⟨bR 1, 0, none⟩)) rfl rfl (by kernel_rfl) (by kernel_rfl) (by kernel_rfl) (fun _ _ _ h => h) (Or.inl ⟨by rfl, fun W hW => ?_⟩) hS ?_
    · (go_simp)
    simp only [Act.put, List.setIfInBounds_toArray, List.set_cons_zero, List.set_cons_succ]
    refine takeYH (i := 4) (d := 29) (v := .slice (some ⟨ga, 0, none⟩) 2 2) rfl rfl (by kernel_rfl) (by kernel_rfl) (by kernel_rfl) (fun _ _ _ h => h) (Or.inl ⟨by rfl, fun W hW => ?_⟩) hS ?_
    · (go_simp)
    simp only [Act.put, List.setIfInBounds_toArray, List.set_cons_zero, List.set_cons_succ]
    refine takeYH (i := 5) (d := 30) (v := .int .i64 1) rfl rfl (by kernel_rfl) (by kernel_rfl) (by kernel_rfl) (fun _ _ _ h => h) (Or.inl ⟨by rfl, fun W hW => ?_⟩) hS ?_
    · (go_simp)
    simp only [Act.put, List.setIfInBounds_toArray, List.set_cons_zero, List.set_cons_succ]
    refine takeYH (i := 6) (d := 31) (v := .pointer (some ⟨ga, 1, none⟩)) rfl rfl (by kernel_rfl) (by kernel_rfl) (by kernel_rfl) (fun _ _ _ h => h) (Or.inl ⟨by rfl, fun W hW => ?_⟩) hS ?_
    · (go_simp)
    simp only [Act.put, List.setIfInBounds_toArray, List.set_cons_zero, List.set_cons_succ]
    refine takeYH (i := 7) (d := 32) (v := .int .i64 (pz : Int)) rfl rfl (by kernel_rfl) (by kernel_rfl) (by kernel_rfl) (fun _ _ _ h => h) (Or.inl ⟨by rfl, fun W hW => ?_⟩) hS ?_
    · have x0 := Kept.cell (F := fun _ => False) (w := Wp) (w' := W) hW a1' (fun f => f)
      (go_simp)
    simp only [Act.put, List.setIfInBounds_toArray, List.set_cons_zero, List.set_cons_succ]

    refine wpAnyH_all (rs := [3]) (by kernel_rfl) (by simp) ?_
    intro i' hi'
    obtain rfl : i' = 3 := by simpa using hi'
    unfold wpOp
    go_simp
    first | refine (CA.out Wp.drew hS).mono ?_ | refine Or.inl ((CA.out Wp.drew hS).mono ?_)
    rintro e Wy ⟨rfl, rfl⟩
    first | refine ⟨hS, ?_⟩ | skip
    refine takeYH (i := 8) (d := 33) (v := .bool false) rfl rfl (by kernel_rfl) (by kernel_rfl) (by kernel_rfl) (fun _ _ _ h => h) (Or.inl ⟨by rfl, fun W hW => ?_⟩) hS ?_
    · (go_simp)
    simp only [Act.put, List.setIfInBounds_toArray, List.set_cons_zero, List.set_cons_succ]
    refine takeYH (i := 9) (d := 34) (v := .bool false) rfl rfl (by kernel_rfl) (by kernel_rfl) (by kernel_rfl) (fun _ _ _ h => h) (Or.inl ⟨by rfl, fun W hW => ?_⟩) hS ?_
    · (go_simp)
    simp only [Act.put, List.setIfInBounds_toArray, List.set_cons_zero, List.set_cons_succ]
    refine takeYH (i := 10) (d := 35) (v := .pointer (some ⟨bR 1, 0, none⟩)) rfl rfl (by kernel_rfl) (by kernel_rfl) (by kernel_rfl) (fun _ _ _ h => h) (Or.inl ⟨by rfl, fun W hW => ?_⟩) hS ?_
    · (go_simp)
    simp only [Act.put, List.setIfInBounds_toArray, List.set_cons_zero, List.set_cons_succ]
    refine takeYH (i := 11) (d := 36) (v := .pointer (some ⟨bR 1, 0, none⟩)) rfl rfl (by kernel_rfl) (by kernel_rfl) (by kernel_rfl) (fun _ _ _ h => h) (Or.inl ⟨by rfl, fun W hW => ?_⟩) hS ?_
    · (go_simp)
    simp only [Act.put, List.setIfInBounds_toArray, List.set_cons_zero, List.set_cons_succ]
    refine takeYH (i := 12) (d := 37) (v := .pointer (some ⟨bR 1, 0, none⟩)) rfl rfl (by kernel_rfl) (by kernel_rfl) (by kernel_rfl) (fun _ _ _ h => h) (Or.inl ⟨by rfl, fun W hW => ?_⟩) hS ?_
    · (go_simp)
    simp only [Act.put, List.setIfInBounds_toArray, List.set_cons_zero, List.set_cons_succ]
    refine takeYH (i := 14) (d := 39) (v := .slice (some ⟨gd, 0, none⟩) 2 2) rfl rfl (by kernel_rfl) (by kernel_rfl) (by kernel_rfl) (fun _ _ _ h => h) (Or.inl ⟨by rfl, fun W hW => ?_⟩) hS ?_
    · (go_simp)
    simp only [Act.put, List.setIfInBounds_toArray, List.set_cons_zero, List.set_cons_succ]
    refine takeYH (i := 15) (d := 40) (v := .int .i64 1) rfl rfl (by kernel_rfl) (by kernel_rfl) (by kernel_rfl) (fun _ _ _ h => h) (Or.inl ⟨by rfl, fun W hW => ?_⟩) hS ?_
    · (go_simp)
    simp only [Act.put, List.setIfInBounds_toArray, List.set_cons_zero, List.set_cons_succ]
    refine takeYH (i := 16) (d := 41) (v := .pointer (some ⟨gd, 1, none⟩)) rfl rfl (by kernel_rfl) (by kernel_rfl) (by kernel_rfl) (fun _ _ _ h => h) (Or.inl ⟨by rfl, fun W hW => ?_⟩) hS ?_
    · (go_simp)
    simp only [Act.put, List.setIfInBounds_toArray, List.set_cons_zero, List.set_cons_succ]
    refine takeYH (i := 17) (d := 42) (v := .slice (some ⟨bD, 0, none⟩) n cD) rfl rfl (by kernel_rfl) (by kernel_rfl) (by kernel_rfl) (fun _ _ _ h => h) (Or.inl ⟨by rfl, fun W hW => ?_⟩) hS ?_
    · have x0 := Kept.cell (F := fun _ => False) (w := Wp) (w' := W) hW e1 (fun f => f)
      (go_simp)
    simp only [Act.put, List.setIfInBounds_toArray, List.set_cons_zero, List.set_cons_succ]
    refine takeYH (i := 18) (d := 43) (v := .int .i64 (n : Int)) rfl rfl (by kernel_rfl) (by kernel_rfl) (by kernel_rfl) (fun _ _ _ h => h) (Or.inl ⟨by rfl, fun W hW => ?_⟩) hS ?_
    · (go_simp)
    simp only [Act.put, List.setIfInBounds_toArray, List.set_cons_zero, List.set_cons_succ]
    refine takeYH (i := 19) (d := 44) (v := .slice (some ⟨ga, 0, none⟩) 2 2) rfl rfl (by kernel_rfl) (by kernel_rfl) (by kernel_rfl) (fun _ _ _ h => h) (Or.inl ⟨by rfl, fun W hW => ?_⟩) hS ?_
    · (go_simp)
    simp only [Act.put, List.setIfInBounds_toArray, List.set_cons_zero, List.set_cons_succ]
    refine takeYH (i := 20) (d := 45) (v := .int .i64 1) rfl rfl (by kernel_rfl) (by kernel_rfl) (by kernel_rfl) (fun _ _ _ h => h) (Or.inl ⟨by rfl, fun W hW => ?_⟩) hS ?_
    · (go_simp)
    simp only [Act.put, List.setIfInBounds_toArray, List.set_cons_zero, List.set_cons_succ]
    refine takeYH (i := 21) (d := 46) (v := .pointer (some ⟨ga, 1, none⟩)) rfl rfl (by kernel_rfl) (by kernel_rfl) (by kernel_rfl) (fun _ _ _ h => h) (Or.inl ⟨by rfl, fun W hW => ?_⟩) hS ?_
    · (go_simp)
    simp only [Act.put, List.setIfInBounds_toArray, List.set_cons_zero, List.set_cons_succ]
    refine takeYH (i := 22) (d := 47) (v := .int .i64 (pz : Int)) rfl rfl (by kernel_rfl) (by kernel_rfl) (by kernel_rfl) (fun _ _ _ h => h) (Or.inl ⟨by rfl, fun W hW => ?_⟩) hS ?_
    · have x0 := Kept.cell (F := fun _ => False) (w := Wp) (w' := W) hW a1' (fun f => f)
      (go_simp)
    simp only [Act.put, List.setIfInBounds_toArray, List.set_cons_zero, List.set_cons_succ]
    refine takeYH (i := 23) (d := 48) (v := .int .i64 (d : Int)) rfl rfl (by kernel_rfl) (by kernel_rfl) (by kernel_rfl) (fun _ _ _ h => h) (Or.inl ⟨by rfl, fun W hW => ?_⟩) hS ?_
    · (go_simp)
    simp only [Act.put, List.setIfInBounds_toArray, List.set_cons_zero, List.set_cons_succ]

    refine wpAnyH_all (rs := [13]) (by kernel_rfl) (by simp) ?_
    intro i' hi'
    obtain rfl : i' = 13 := by simpa using hi'
    unfold wpOp
    go_simp
    first | refine (CL.out Wp.drew hS).mono ?_ | refine Or.inl ((CL.out Wp.drew hS).mono ?_)
    rintro e Wy ⟨rfl, n9, rfl⟩
    have hS2 : Kept (fun _ => False) Wp (Wp.drew.drewN n9) := hS.trans (Kept.drewN _ _) (fun _ f => f.elim)
    first | refine ⟨hS2, ?_⟩ | skip
    refine takeYH (i := 24) (d := 49) (v := .bool false) rfl rfl (by kernel_rfl) (by kernel_rfl) (by kernel_rfl) (fun _ _ _ h => h) (Or.inl ⟨by rfl, fun W hW => ?_⟩) hS2 ?_
    · (go_simp)
    simp only [Act.put, List.setIfInBounds_toArray, List.set_cons_zero, List.set_cons_succ]
    refine takeYH (i := 25) (d := 50) (v := .bool false) rfl rfl (by kernel_rfl) (by kernel_rfl) (by kernel_rfl) (fun _ _ _ h => h) (Or.inl ⟨by rfl, fun W hW => ?_⟩) hS2 ?_
    · (go_simp)
    simp only [Act.put, List.setIfInBounds_toArray, List.set_cons_zero, List.set_cons_succ]

    refine wpAnyH_done (by kernel_rfl) ?_ _
    obtain ⟨Wq, hWq⟩ : ∃ W, W = Wp.drew.drewN n9 := ⟨_, rfl⟩
    rw [← hWq] at hS2 ⊢
    have HKQ := hideH hS2
    have e2 := hS2.cell e1 (fun f => f)
    have a2 := hS2.cell a1' (fun f => f)
    have hrq := HRD.out.kept hS2 (fun f => f) (fun _ _ f => f)
    have CR : Hid (∀ W, Kept (fun _ => False) Wq W → Calls Tryd.prog 18 #[.pointer (some ⟨bR 1, 0, none⟩), .int .i64 (d : Int)] W fun e w' => ∃ g, e = .returned (.tuple #[.slice (some ⟨g, 0, none⟩) d d, .nilIface]) ∧ Hid (w'.ownsRow W.heap.size 5 1 (.slice (some ⟨g, 0, none⟩) d d) d (bs (((l 1).drop pz).take d)) ∧ Rd w' (bR 1) (rv 1) (l 1) (pz + d) ∧ Kept (fun i => i = bR 1) W w')) := hideH (fun W k => (rraw_ok (bR 1) (rv 1) (l 1) pz d W (hrq.kept k (fun f => f) (fun _ _ f => f)) (by rw [← HN.out]; have := HD.out; omega)).mono (by rintro e w' ⟨g, he, -, h1, h2, h3⟩; exact ⟨g, he, h1, h2, h3⟩))
    clear hWq hS hS2 CA CL r0 r1 e0 e1 a0' a1' hrq
    go_wp2_with fail
    have hS : Kept (fun i => i = bR 1) Wq Wq.drew := (Kept.drew Wq).mono (fun _ f => f.elim)
    have hS0 : Kept (fun _ => False) Wq Wq.drew := Kept.drew Wq
    have hne1 : gd ≠ bR 1 := HNE.out.1 1 (by decide)
    have hne2 : ga ≠ bR 1 := HNE.out.2 1 (by decide)
    refine wp_region_held (S := fun W' => Kept (fun i => i = bR 1) Wq W') (by kernel_rfl) ?_
    change wpAnyH _ _ _ _ _ _ _ _ (World.drew _)
    refine takeYH (i := 0) (d := 52) (v := .pointer (some ⟨bR 1, 0, none⟩)) rfl rfl (by kernel_rfl) (by kernel_rfl) (by kernel_rfl) (fun _ _ _ h => h) (Or.inl ⟨by rfl, fun W hW => ?_⟩) hS ?_
    · (go_simp)
    simp only [Act.put, List.setIfInBounds_toArray, List.set_cons_zero, List.set_cons_succ]
    refine takeYH (i := 1) (d := 53) (v := .slice (some ⟨gd, 0, none⟩) 2 2) rfl rfl (by kernel_rfl) (by kernel_rfl) (by kernel_rfl) (fun _ _ _ h => h) (Or.inl ⟨by rfl, fun W hW => ?_⟩) hS ?_
    · (go_simp)
    simp only [Act.put, List.setIfInBounds_toArray, List.set_cons_zero, List.set_cons_succ]
    refine takeYH (i := 2) (d := 54) (v := .int .i64 1) rfl rfl (by kernel_rfl) (by kernel_rfl) (by kernel_rfl) (fun _ _ _ h => h) (Or.inl ⟨by rfl, fun W hW => ?_⟩) hS ?_
    · (go_simp)
    simp only [Act.put, List.setIfInBounds_toArray, List.set_cons_zero, List.set_cons_succ]
    refine takeYH (i := 3) (d := 55) (v := .pointer (some ⟨gd, 1, none⟩)) rfl rfl (by kernel_rfl) (by kernel_rfl) (by kernel_rfl) (fun _ _ _ h => h) (Or.inl ⟨by rfl, fun W hW => ?_⟩) hS ?_
    · (go_simp)
    simp only [Act.put, List.setIfInBounds_toArray, List.set_cons_zero, List.set_cons_succ]
    refine takeYH (i := 4) (d := 56) (v := .slice (some ⟨bD, 0, none⟩) n cD) rfl rfl (by kernel_rfl) (by kernel_rfl) (by kernel_rfl) (fun _ _ _ h => h) (Or.inl ⟨by rfl, fun W hW => ?_⟩) hS ?_
    · have x0 := Kept.cell (F := fun i => i = bR 1) (w := Wq) (w' := W) hW e2 hne1
      (go_simp)
    simp only [Act.put, List.setIfInBounds_toArray, List.set_cons_zero, List.set_cons_succ]
    refine takeYH (i := 5) (d := 57) (v := .int .i64 (n : Int)) rfl rfl (by kernel_rfl) (by kernel_rfl) (by kernel_rfl) (fun _ _ _ h => h) (Or.inl ⟨by rfl, fun W hW => ?_⟩) hS ?_
    · (go_simp)
    simp only [Act.put, List.setIfInBounds_toArray, List.set_cons_zero, List.set_cons_succ]
    refine takeYH (i := 6) (d := 58) (v := .slice (some ⟨ga, 0, none⟩) 2 2) rfl rfl (by kernel_rfl) (by kernel_rfl) (by kernel_rfl) (fun _ _ _ h => h) (Or.inl ⟨by rfl, fun W hW => ?_⟩) hS ?_
    · (go_simp)
    simp only [Act.put, List.setIfInBounds_toArray, List.set_cons_zero, List.set_cons_succ]
    refine takeYH (i := 7) (d := 59) (v := .int .i64 1) rfl rfl (by kernel_rfl) (by kernel_rfl) (by kernel_rfl) (fun _ _ _ h => h) (Or.inl ⟨by rfl, fun W hW => ?_⟩) hS ?_
    · (go_simp)
    simp only [Act.put, List.setIfInBounds_toArray, List.set_cons_zero, List.set_cons_succ]
    refine takeYH (i := 8) (d := 60) (v := .pointer (some ⟨ga, 1, none⟩)) rfl rfl (by kernel_rfl) (by kernel_rfl) (by kernel_rfl) (fun _ _ _ h => h) (Or.inl ⟨by rfl, fun W hW => ?_⟩) hS ?_
    · (go_simp)
    simp only [Act.put, List.setIfInBounds_toArray, List.set_cons_zero, List.set_cons_succ]
    refine takeYH (i := 9) (d := 61) (v := .int .i64 (pz : Int)) rfl rfl (by kernel_rfl) (by kernel_rfl) (by kernel_rfl) (fun _ _ _ h => h) (Or.inl ⟨by rfl, fun W hW => ?_⟩) hS ?_
    · have x0 := Kept.cell (F := fun i => i = bR 1) (w := Wq) (w' := W) hW a2 hne2
      (go_simp)
    simp only [Act.put, List.setIfInBounds_toArray, List.set_cons_zero, List.set_cons_succ]
    refine takeYH (i := 10) (d := 62) (v := .int .i64 (d : Int)) rfl rfl (by kernel_rfl) (by kernel_rfl) (by kernel_rfl) (fun _ _ _ h => h) (Or.inl ⟨by rfl, fun W hW => ?_⟩) hS ?_
    · (go_simp)
    simp only [Act.put, List.setIfInBounds_toArray, List.set_cons_zero, List.set_cons_succ]

    refine wpAnyH_all (rs := [11]) (by kernel_rfl) (by simp) ?_
    intro i' hi'
    obtain rfl : i' = 11 := by simpa using hi'
    unfold wpOp
    go_simp
    first | refine (CR.out Wq.drew hS0).mono ?_ | refine Or.inl ((CR.out Wq.drew hS0).mono ?_)
    rintro e Wy ⟨g, rfl, HRW⟩
    have hS3 : Kept (fun i => i = bR 1) Wq Wy := hS.trans HRW.out.2.2 (fun _ e => .inl e)
    first | refine ⟨hS3, ?_⟩ | skip
    refine takeYH (i := 12) (d := 51) (v := .tuple #[.slice (some ⟨g, 0, none⟩) d d, .nilIface]) rfl rfl (by kernel_rfl) (by kernel_rfl) (by kernel_rfl) (fun _ _ _ h => h) (Or.inl ⟨by rfl, fun W hW => ?_⟩) hS3 ?_
    · (go_simp)
    simp only [Act.put, List.setIfInBounds_toArray, List.set_cons_zero, List.set_cons_succ]
    refine takeYH (i := 13) (d := 64) (v := .slice (some ⟨g, 0, none⟩) d d) rfl rfl (by kernel_rfl) (by kernel_rfl) (by kernel_rfl) (fun _ _ _ h => h) (Or.inl ⟨by rfl, fun W hW => ?_⟩) hS3 ?_
    · (go_simp)
    simp only [Act.put, List.setIfInBounds_toArray, List.set_cons_zero, List.set_cons_succ]
    refine takeYH (i := 14) (d := 65) (v := .nilIface) rfl rfl (by kernel_rfl) (by kernel_rfl) (by kernel_rfl) (fun _ _ _ h => h) (Or.inl ⟨by rfl, fun W hW => ?_⟩) hS3 ?_
    · (go_simp)
    simp only [Act.put, List.setIfInBounds_toArray, List.set_cons_zero, List.set_cons_succ]
    refine takeYH (i := 15) (d := 12) (v := .slice (some ⟨g, 0, none⟩) d d) rfl rfl (by kernel_rfl) (by kernel_rfl) (by kernel_rfl) (fun _ _ _ h => h) (Or.inl ⟨by rfl, fun W hW => ?_⟩) hS3 ?_
    · (go_simp)
    simp only [Act.put, List.setIfInBounds_toArray, List.set_cons_zero, List.set_cons_succ]
    refine takeYH (i := 16) (d := 13) (v := .nilIface) rfl rfl (by kernel_rfl) (by kernel_rfl) (by kernel_rfl) (fun _ _ _ h => h) (Or.inl ⟨by rfl, fun W hW => ?_⟩) hS3 ?_
    · (go_simp)
    simp only [Act.put, List.setIfInBounds_toArray, List.set_cons_zero, List.set_cons_succ]

    refine wpAnyH_done (by kernel_rfl) ?_ _
    obtain ⟨hrow, hrd2, kk⟩ := HRW.out
    have e3 := hS3.cell e2 hne1
    have a3 := hS3.cell a2 hne2
    have hx1 := HX.out.move 1 (by decide) ((HKQ.out.mono (fun _ f => f.elim)).trans hS3 (fun _ e => .inl e)) (fun q f _ => .inl (by have f2 : q = bR 1 := f; rw [f2]; exact HX.out.or 1 (by decide))) hrd2 o (fun _ _ => rfl)
    have hpd : pz + d = (l 1).length := by rw [← HN.out]; have := HD.out; omega
    rw [hpd] at hrd2
    have etk : ((l 1).drop pz).take d = (l 1).drop pz := List.take_of_length_le (by rw [List.length_drop, ← HN.out]; have := HD.out; omega)
    rw [etk] at hrow
    have libR : Lib Wy (.slice (some ⟨g, 0, none⟩) d d) ((l 1).drop pz) := Lib.of_own hrow
    have libD := hx1.ld 1 (by decide)
    rw [eD, ← HN.out] at libD
    have hcapD := (HLIB.out.shape)
    have hbt : ∀ W, Kept (fun _ => False) Wy W → ∀ ad c', (0 < d → ad = some ⟨bD, pz, none⟩) → (convert 26 9 (.slice ad d c')).run Tryd.prog W = .ok (.string (strOfNums ((l 1).drop pz))) W := fun W kW ad c' hh => by
      have hle : ((l 1).drop pz).length = d := by rw [List.length_drop, ← HN.out]; exact HD.out.symm
      have q := conv_atK (W := W) (a := ad) (B := (l 1).drop pz) (c := c') (fun hne => by
        have h0 : 0 < d := by rw [← hle]; exact List.length_pos_iff.2 hne
        rw [hh h0]
        obtain ⟨a9, c9, e9, hb9⟩ := ((Lib.of_own libD).later kW).bytes
        rw [← HN.out] at e9
        simp only [Value.slice.injEq] at e9
        obtain ⟨rfl, -, rfl⟩ := e9
        obtain ⟨b8, o8, e8, hc8⟩ := hb9 (by intro e; rw [e] at hne; simp at hne)
        simp only [Option.some.injEq, Addr.mk.injEq, and_true] at e8
        obtain ⟨rfl, rfl⟩ := e8
        have q2 := BytesAt.cut (w := W) hc8 (show pz + d ≤ (l 1).length by omega)
        rw [etk, Nat.zero_add] at q2
        exact q2 hne)
      rw [hle] at q
      exact q
    have hcap : n ≤ cD := by obtain ⟨a7, c7, e7, -, h7⟩ := HLIB.out.shape; simp only [Value.slice.injEq] at e7; rw [← HN.out] at h7; omega
    have HX1 := hideH hx1
    have HR2 := hideH hrd2
    have HLR := hideH libR
    have HBT := hideH hbt
    clear hS hS0 hS3 e2 a2 HRW CR hrow kk hx1 hrd2 libR libD hcapD hbt hpd etk HKQ HX
    obtain ⟨adr, hadr⟩ : ∃ a : Addr, a = if cD = pz then ⟨bD, 0, none⟩ else ⟨bD, pz, none⟩ := ⟨_, rfl⟩
    have sl : ∀ W, (Instr.slice 26 (.slice (some ⟨bD, 0, none⟩) n cD) (some (.int .i64 (pz : Int))) none none).run Tryd.prog W = .ok (.slice (some adr) d (cD - pz)) W := fun W => by rw [hadr, HD.out]; exact slice_fromK W bD n cD pz hple hcap
    have HAD : Hid (0 < d → some adr = some ⟨bD, pz, none⟩) := hideH (fun h0 => by rw [hadr, if_neg (by have := HD.out; omega)])
    have HSL := hideH sl
    clear hadr sl
    go_wp2_with fail
    have hS : Kept (fun _ => False) Wy Wy.drew := Kept.drew Wy
    refine wp_region_held (S := fun W' => Kept (fun _ => False) Wy W') (by kernel_rfl) ?_
    change wpAnyH _ _ _ _ _ _ _ _ (World.drew _)
    refine takeYH (i := 0) (d := 66) (v := .nilIface) rfl rfl (by kernel_rfl) (by kernel_rfl) (by kernel_rfl) (fun _ _ _ h => h) (Or.inl ⟨by rfl, fun W hW => ?_⟩) hS ?_
    · (go_simp)
    simp only [Act.put, List.setIfInBounds_toArray, List.set_cons_zero, List.set_cons_succ]
    refine takeYH (i := 1) (d := 67) (v := .bool false) rfl rfl (by kernel_rfl) (by kernel_rfl) (by kernel_rfl) (fun _ _ _ h => h) (Or.inl ⟨by rfl, fun W hW => ?_⟩) hS ?_
    · (go_simp)
    simp only [Act.put, List.setIfInBounds_toArray, List.set_cons_zero, List.set_cons_succ]
    refine takeYH (i := 2) (d := 68) (v := .bool false) rfl rfl (by kernel_rfl) (by kernel_rfl) (by kernel_rfl) (fun _ _ _ h => h) (Or.inl ⟨by rfl, fun W hW => ?_⟩) hS ?_
    · (go_simp)
    simp only [Act.put, List.setIfInBounds_toArray, List.set_cons_zero, List.set_cons_succ]
    refine takeYH (i := 3) (d := 69) (v := .slice (some ⟨g, 0, none⟩) d d) rfl rfl (by kernel_rfl) (by kernel_rfl) (by kernel_rfl) (fun _ _ _ h => h) (Or.inl ⟨by rfl, fun W hW => ?_⟩) hS ?_
    · (go_simp)
    simp only [Act.put, List.setIfInBounds_toArray, List.set_cons_zero, List.set_cons_succ]
    refine takeYH (i := 4) (d := 70) (v := .string (strOfNums ((l 1).drop pz))) rfl rfl (by kernel_rfl) (by kernel_rfl) (by kernel_rfl) (fun _ _ _ h => h) (Or.inl ⟨by rfl, fun W hW => ?_⟩) hS ?_
    · have x0 := conv_atH (HLR.out.later hW)
      (go_simp)
    simp only [Act.put, List.setIfInBounds_toArray, List.set_cons_zero, List.set_cons_succ]
    refine takeYH (i := 5) (d := 71) (v := .slice (some ⟨gd, 0, none⟩) 2 2) rfl rfl (by kernel_rfl) (by kernel_rfl) (by kernel_rfl) (fun _ _ _ h => h) (Or.inl ⟨by rfl, fun W hW => ?_⟩) hS ?_
    · (go_simp)
    simp only [Act.put, List.setIfInBounds_toArray, List.set_cons_zero, List.set_cons_succ]
    refine takeYH (i := 6) (d := 72) (v := .int .i64 1) rfl rfl (by kernel_rfl) (by kernel_rfl) (by kernel_rfl) (fun _ _ _ h => h) (Or.inl ⟨by rfl, fun W hW => ?_⟩) hS ?_
    · (go_simp)
    simp only [Act.put, List.setIfInBounds_toArray, List.set_cons_zero, List.set_cons_succ]
    refine takeYH (i := 7) (d := 73) (v := .pointer (some ⟨gd, 1, none⟩)) rfl rfl (by kernel_rfl) (by kernel_rfl) (by kernel_rfl) (fun _ _ _ h => h) (Or.inl ⟨by rfl, fun W hW => ?_⟩) hS ?_
    · (go_simp)
    simp only [Act.put, List.setIfInBounds_toArray, List.set_cons_zero, List.set_cons_succ]
    refine takeYH (i := 8) (d := 74) (v := .slice (some ⟨bD, 0, none⟩) n cD) rfl rfl (by kernel_rfl) (by kernel_rfl) (by kernel_rfl) (fun _ _ _ h => h) (Or.inl ⟨by rfl, fun W hW => ?_⟩) hS ?_
    · have x0 := Kept.cell (F := fun _ => False) (w := Wy) (w' := W) hW e3 (fun f => f)
      (go_simp)
    simp only [Act.put, List.setIfInBounds_toArray, List.set_cons_zero, List.set_cons_succ]
    refine takeYH (i := 9) (d := 75) (v := .slice (some ⟨ga, 0, none⟩) 2 2) rfl rfl (by kernel_rfl) (by kernel_rfl) (by kernel_rfl) (fun _ _ _ h => h) (Or.inl ⟨by rfl, fun W hW => ?_⟩) hS ?_
    · (go_simp)
    simp only [Act.put, List.setIfInBounds_toArray, List.set_cons_zero, List.set_cons_succ]
    refine takeYH (i := 10) (d := 76) (v := .int .i64 1) rfl rfl (by kernel_rfl) (by kernel_rfl) (by kernel_rfl) (fun _ _ _ h => h) (Or.inl ⟨by rfl, fun W hW => ?_⟩) hS ?_
    · (go_simp)
    simp only [Act.put, List.setIfInBounds_toArray, List.set_cons_zero, List.set_cons_succ]
    refine takeYH (i := 11) (d := 77) (v := .pointer (some ⟨ga, 1, none⟩)) rfl rfl (by kernel_rfl) (by kernel_rfl) (by kernel_rfl) (fun _ _ _ h => h) (Or.inl ⟨by rfl, fun W hW => ?_⟩) hS ?_
    · (go_simp)
    simp only [Act.put, List.setIfInBounds_toArray, List.set_cons_zero, List.set_cons_succ]
    refine takeYH (i := 12) (d := 78) (v := .int .i64 (pz : Int)) rfl rfl (by kernel_rfl) (by kernel_rfl) (by kernel_rfl) (fun _ _ _ h => h) (Or.inl ⟨by rfl, fun W hW => ?_⟩) hS ?_
    · have x0 := Kept.cell (F := fun _ => False) (w := Wy) (w' := W) hW a3 (fun f => f)
      (go_simp)
    simp only [Act.put, List.setIfInBounds_toArray, List.set_cons_zero, List.set_cons_succ]
    refine takeYH (i := 13) (d := 79) (v := .slice (some adr) d (cD - pz)) rfl rfl (by kernel_rfl) (by kernel_rfl) (by kernel_rfl) (fun _ _ _ h => h) (Or.inl ⟨by rfl, fun W hW => ?_⟩) hS ?_
    · have x0 := HSL.out W
      (go_simp)
    simp only [Act.put, List.setIfInBounds_toArray, List.set_cons_zero, List.set_cons_succ]
    refine takeYH (i := 14) (d := 80) (v := .string (strOfNums ((l 1).drop pz))) rfl rfl (by kernel_rfl) (by kernel_rfl) (by kernel_rfl) (fun _ _ _ h => h) (Or.inl ⟨by rfl, fun W hW => ?_⟩) hS ?_
    · have x0 := HBT.out W hW (some adr) (cD - pz) HAD.out
      (go_simp)
    simp only [Act.put, List.setIfInBounds_toArray, List.set_cons_zero, List.set_cons_succ]
    refine takeYH (i := 15) (d := 81) (v := .bool false) rfl rfl (by kernel_rfl) (by kernel_rfl) (by kernel_rfl) (fun _ _ _ h => h) (Or.inl ⟨by rfl, fun W hW => ?_⟩) hS ?_
    · (go_simp)
    simp only [Act.put, List.setIfInBounds_toArray, List.set_cons_zero, List.set_cons_succ]
    refine takeYH (i := 16) (d := 82) (v := .bool false) rfl rfl (by kernel_rfl) (by kernel_rfl) (by kernel_rfl) (fun _ _ _ h => h) (Or.inl ⟨by rfl, fun W hW => ?_⟩) hS ?_
    · (go_simp)
    simp only [Act.put, List.setIfInBounds_toArray, List.set_cons_zero, List.set_cons_succ]

    refine wpAnyH_done (by kernel_rfl) ?_ _
    obtain ⟨Wz, hWz⟩ : ∃ W, W = Wy.drew := ⟨_, rfl⟩
    rw [← hWz] at hS ⊢
    have hrz := HR2.out.kept hS (fun f => f) (fun _ _ f => f)
    have HX2 := hideH (HX1.out.later hS)
    have CL : Hid (∀ W, Kept (fun _ => False) Wz W → Calls Tryd.prog 19 #[.pointer (some ⟨bR 1, 0, none⟩)] W fun e w' => e = .returned (.int .i64 0) ∧ ∃ n, w' = W.drewN n) := hideH (fun W k => by have q := left_any (bR 1) (rv 1) (l 1) (l 1).length W (hrz.kept k (fun f => f) (fun _ _ f => f)); rw [Nat.sub_self] at q; exact q)
    have CD : Hid (∀ W, Kept (fun _ => False) Wz W → Calls Tryd.prog 21 #[.pointer (some ⟨bR 1, 0, none⟩)] W fun e w' => e = .returned .nilIface ∧ ∃ n, w' = W.drewN n) := hideH (fun W k => done_anyK (bR 1) (rv 1) (l 1) W (hrz.kept k (fun f => f) (fun _ _ f => f)))
    clear hWz hS hrz HX1 HR2 HSL HAD HBT HLR e3 a3
    go_wp2_with (go_at_call 19; refine StpH.go ?_)
    refine ⟨?_⟩
    refine (CL.out _ (Kept.refl _ _)).mono ?_
    clear CL
    rintro e Wu ⟨rfl, n5, rfl⟩
    go_wp2_with (go_at_call 21; refine StpH.go ?_)
    refine ⟨?_⟩
    refine (CD.out _ (Kept.drewN _ _)).mono ?_
    clear CD
    rintro e Wv ⟨rfl, n6, rfl⟩
    have HF := hideH (HX2.out.later (Kept.drewN _ (n5 + n6)))
    clear HX2
    go_wp2_with fail
    go_roundw
    case rel => exact ⟨2, upK pC 1 (pz + d), by omega, by go_num, hideH (fun i h1 h2 => by rw [upK_ne _ _ (by omega)]; exact HPC.out i (by omega) h2), HF⟩
    case measure => simp [intOf]
end Go.Proofs.YtjmmdklgkcbihaaDoor

namespace Go.Proofs.YtjmmdklgkcbihaaDoor
open Go.ChangeShapes Go.WideShapes Go.ChangeAt Go.RowKit

/-- 'append(s, x...)' to an owned row of bytes that isn't nil. -/
theorem wpList_catS {base : Nat} {W : World} {ops : Array Oper} {rest : List Oper} {o : Oper} {act : Act} {Q : Exit → Act → World → Prop} (hgd : o.guard = none) (s x : Operand)
    (ho : o.op = .call { callee := .builtin .append, args := #[s, x], argTypes := #[26, 26] }) (g0 c0 n : Nat) (xs ys : List Int) (hs : act.eval s = .slice (some ⟨g0, 0, none⟩) n c0) (hG : Hid (W.ownsRow base 5 1 (.slice (some ⟨g0, 0, none⟩) n c0) n (bs xs))) (ad : Option Addr) (m c : Nat) (hx : act.eval x = .slice ad m c)
    (hl : Hid (m = ys.length)) (hc : Hid (BytesAt W ad ys)) (h0 : Hid (ad = none → c = 0)) (hb : n + m ≤ 70368744177664) (hb0 : Hid (base ≤ W.heap.size))
    (h : ∀ g c' W', Hid (W'.ownsRow base 5 1 (.slice (some ⟨g, 0, none⟩) (n + m) c') (n + m) (bs (xs ++ ys))) → Hid (Kept (fun k => k = g0) W W') → wpList Tryd.prog ops Q rest (act.put o.dst (.slice (some ⟨g, 0, none⟩) (n + m) c')) W') : wpList Tryd.prog ops Q (o :: rest) act W := by
  obtain ⟨i0, hi, hz0, hz1, hz2⟩ := info_parts Tryd.infoB
  cases ad with
  | none =>
    have e0 : ys = [] := by
      cases ys with
      | nil => rfl
      | cons y r => obtain ⟨b, off, e, _⟩ := hc.out (by simp); cases e
    subst e0
    have hm : m = 0 := hl.out
    subst hm
    obtain rfl := h0.out rfl
    refine wpList_append_own_none hgd s x 26 ho base 5 i0 1 Tryd.underlying26 hi _ n (bs xs) hs hG.out hx ?_
    have := h g0 c0 W (hideH (by rw [List.append_nil]; exact hG.out)) (hideH (Kept.refl _ _))
    exact this
  | some p =>
    have hcl : ∀ j u, (bs ys)[j]? = some u → W.cell? (p.add j) = some u := by
      intro j u hu
      have hne : ys ≠ [] := by rintro rfl; simp [bs] at hu
      obtain ⟨b, off, e, hcc⟩ := hc.out hne
      cases e
      exact BytesAt.cells hcc j u hu
    refine wpList_append_own_at W hgd s x 26 ho base 5 i0 (.int .u8 0) 1 1 Tryd.underlying26 hi hz0 hz1 hz2 rfl (by decide) _ n (bs xs) hs hG.out p m c (bs ys) hx (by rw [bs_length, hl.out, Nat.mul_one]) hcl (bs_one ys) (by unfold maxLen; omega) (by omega) hb0.out ?_
    intro v' w1 ho1 hg1 _ hat
    rw [← bs_append] at ho1
    obtain ⟨g, c', rfl⟩ : ∃ g c', v' = .slice (some ⟨g, 0, none⟩) (n + m) c' := by
      rcases ho1.2 with ⟨e1, e2⟩ | ⟨g, cap, cur, e1, _⟩
      · rw [e1] at hat
        rcases hat with q | q <;> cases q
      · exact ⟨g, cap, e1⟩
    exact h g c' w1 (hideH ho1) (hideH ((Kept.grown hg1).mono (fun k e => .inl (by have e2 : g0 = k := Option.some.inj e; exact e2.symm))))
theorem row_base0K {W : World} {base n : Nat} {e : TypeId} {s : Nat} {v : Value} {xs : List Value} (h : W.ownsRow base e s v n xs) : W.ownsRow 0 e s v n xs := by
  refine ⟨h.1, ?_⟩
  rcases h.2 with q | ⟨g, cap, cur, e1, _, r⟩
  · exact .inl q
  · exact .inr ⟨g, cap, cur, e1, Nat.zero_le _, r⟩
theorem rlk_lenK (kd nn : Int) (l : List Int) (p : Nat) (hl : l.length ≤ 1048576) : (rlk kd nn l p).ls.length ≤ 33554432 := by
  have hN : ∀ R : Except Nat (Int × Nat), (lkN p R).ls.length ≤ 33554432 := fun R => by cases R <;> simp [lkN]
  have hT : ∀ R : Except Nat (List Int × Nat), (lkT p R).ls.length ≤ 33554432 := fun R => by cases R <;> simp [lkT]
  unfold rlk
  repeat' split
  all_goals first | exact hN _ | exact hT _ | skip
  · unfold rsk
    cases hu : upk nn l p with
    | error e => simp [lkL]
    | ok xq =>
      simp only
      cases hr : rdr xq.1 0 (l.drop xq.2) with
      | error e => simp [lkL]
      | ok xm =>
        have h := rdr_lenK _ _ _ xm.1 xm.2 hr
        rw [List.length_drop] at h
        simp only [lkL]
        omega
  · unfold pkk
    cases hu : upk nn l p with
    | error e => simp [lkL]
    | ok xq =>
      simp only
      cases hr : rdp xq.1 (l.drop xq.2) with
      | error e => simp [lkL]
      | ok xm =>
        have h := rdp_lenK (xs := xm.1) (m := xm.2) hr
        rw [List.length_drop] at h
        simp only [lkL]
        omega
  · simp
theorem keep5K {W : World} {g : Nat} {v0 v1 v2 v3 v4 : Value} : Kept (fun k => k = g) W (((((W.setCell ⟨g, 0, none⟩ v0).setCell ⟨g, 1, none⟩ v1).setCell ⟨g, 2, none⟩ v2).setCell ⟨g, 3, none⟩ v3).setCell ⟨g, 4, none⟩ v4) :=
  ((((Kept.setCell W ⟨g, 0, none⟩ v0).trans (Kept.setCell _ ⟨g, 1, none⟩ v1) (fun _ e => .inl e)).trans (Kept.setCell _ ⟨g, 2, none⟩ v2) (fun _ e => .inl e)).trans (Kept.setCell _ ⟨g, 3, none⟩ v3) (fun _ e => .inl e)).trans (Kept.setCell _ ⟨g, 4, none⟩ v4) (fun _ e => .inl e)
theorem ints_laterK {w w' : World} {a : Option Addr} {l : List Int} (h : IntsAt w a l) (k : Kept (fun _ => False) w w') : IntsAt w' a l := by
  intro hne
  obtain ⟨b, off, e, hc⟩ := h hne
  exact ⟨b, off, e, fun j hj => k.cell (hc j hj) (fun f => f)⟩
theorem ints_keepK {w w' : World} {a : Option Addr} {l : List Int} {g : Nat} (h : IntsAt w a l) (k : Kept (fun k => k = g) w w') (hn : l ≠ [] → ∀ b off, a = some ⟨b, off, none⟩ → b ≠ g) : IntsAt w' a l := by
  intro hne
  obtain ⟨b, off, e, hc⟩ := h hne
  exact ⟨b, off, e, fun j hj => k.cell (hc j hj) (fun f => hn hne b off e f)⟩
theorem ints_ltK {w : World} {a : Option Addr} {l : List Int} (h : IntsAt w a l) (hne : l ≠ []) {b off : Nat} (e : a = some ⟨b, off, none⟩) : b < w.heap.size := by
  obtain ⟨b', off', e', hc⟩ := h hne
  rw [e] at e'
  simp only [Option.some.injEq, Addr.mk.injEq, and_true] at e'
  have q := World.block_lt_of_cell? w _ (hc 0 (List.length_pos_iff.2 hne))
  simp only at q
  omega
theorem xor_byteK (x y : Int) : 0 ≤ bits .xor .u8 x y ∧ bits .xor .u8 x y ≤ 255 := by
  have h : bits .xor .u8 x y = IntKind.u8.wrap ((BitVec.ofInt 8 x ^^^ BitVec.ofInt 8 y).toNat : Int) := rfl
  rw [h, IntKind.wrap_u8]
  omega
theorem spl_bytesK : ∀ (i : Nat) (l : List Int), IsBytes l → IsBytes (spl i l)
  | 0, l, h => h
  | i + 1, l, h => by
    intro x hx
    rw [spl] at hx
    rcases List.mem_or_eq_of_mem_set hx with q | q
    · exact spl_bytesK i l h x q
    · rw [q, spx]; exact xor_byteK _ _
/-- What was handed in, as bytes. -/
theorem Hd.bytesK {W : World} {hb f cf q cq n : Nat} {l : List Int} (h : Hd W hb f cf q cq n l) : BytesAt W (some ⟨f, 0, none⟩) (l.take n) := by
  intro hne
  refine ⟨f, 0, rfl, fun k hk => ?_⟩
  have hl := h.len
  rw [List.length_take] at hk
  obtain ⟨b, c, e, hc, -⟩ := h.full.cells (j := k) (by omega)
  simp only [Value.slice.injEq, Option.some.injEq, Addr.mk.injEq, and_true] at e
  rw [Nat.zero_add, e.1, hc, List.getElem?_take, if_pos (by omega)]
theorem Hd.lts {W : World} {hb f cf q cq n : Nat} {l : List Int} (h : Hd W hb f cf q cq n l) : hb < W.heap.size ∧ f < W.heap.size ∧ q < W.heap.size := ⟨lt_of_block h.obj, h.full.lt rfl, h.want.lt rfl⟩
theorem num_tailK {w : World} {ad : Nat → Addr} (h : Es8K w ad) : Calls Tryd.prog 22 #[errV (ad 4)] w fun e w' => e = .returned (.int .i64 5) ∧ w' = w := by
  have v0 := h.s0.var
  have v1 := h.s1.var
  have v2 := h.s2.var
  have v3 := h.s3.var
  have v4 := h.s4.var
  have e0 := err_neqFK h.s4 h.s0 (by decide)
  have e1 := err_neqFK h.s4 h.s1 (by decide)
  have e2 := err_neqFK h.s4 h.s2 (by decide)
  have e3 := err_neqFK h.s4 h.s3 (by decide)
  have e4 := errEqK w (ad 4)
  clear h
  unfold errV
  go_enter Tryd.func22, Tryd.ntmps22
  go_wp2
  go_ret
  exact ⟨rfl, rfl⟩
/-- What the law holds ahead of its loop. -/
theorem rr_start {w W : World} {b1 b2 gr gd ga kb : Nat} {u1 u2 d1 d2 : Value} {B C : List Int} (z1 z2 z3 z4 z5 z6 : Nat) (kp : Kept (fun _ => False) w W) (h1 : Rd W b1 u1 B 0) (h2 : Rd W b2 u2 C 0) (hr : W.heap[gr]? = some (.cells #[.pointer (some ⟨b1, 0, none⟩), .pointer (some ⟨b2, 0, none⟩)] 46 (0, 0))) (hd : W.heap[gd]? = some (.cells #[d1, d2] 26 (0, 0))) (r1 : W.ownsRow 0 5 1 d1 B.length (bs B)) (r2 : W.ownsRow 0 5 1 d2 C.length (bs C)) (ha : W.heap[ga]? = some (.cells #[.int .i64 0, .int .i64 0] 3 (0, 0))) (hk : W.heap[kb]? = some (.cells #[.slice none 0 0, .slice none 0 0, .slice none 0 0] 32 (0, 0)))
    (q0 : w.heap.size ≤ z1) (q1 : z1 ≤ b1 ∧ b1 < z2) (q2 : ∀ k, u1.ownBlock = some k → z1 ≤ k ∧ k < z2) (q3 : z2 ≤ b2 ∧ b2 < z3) (q4 : ∀ k, u2.ownBlock = some k → z2 ≤ k ∧ k < z3) (q5 : z3 ≤ gr ∧ gr < z4) (q6 : ∀ k, d1.ownBlock = some k → z4 ≤ k ∧ k < z5) (q7 : ∀ k, d2.ownBlock = some k → z5 ≤ k ∧ k < z6) (q8 : z6 ≤ gd ∧ gd < ga) (q9 : ga < kb) (q10 : z4 ≤ z5 ∧ z5 ≤ z6) :
    ∃ o, R0 w W o (fun j => if j = 0 then b1 else b2) (fun j => if j = 0 then u1 else u2) (fun j => if j = 0 then B else C) (fun _ => 0) gr gd (fun j => if j = 0 then d1 else d2) ga (fun _ => 0) ∧ Bq W o kb (.slice none 0 0) (.slice none 0 0) [] [] [] [] := by
  have n1 := h1.ne
  have n2 := h2.ne
  obtain ⟨o, ho⟩ : ∃ o : Nat → Nat, o = fun q => if q < w.heap.size then 9 else if q = b1 then 0 else if q = b2 then 1 else if q < z3 then 2 else if q < z4 then 3 else if q < z6 then 5 else if q = gd then 4 else if q = ga then 6 else if q = kb then 7 else 8 := ⟨_, rfl⟩
  have o9 : ∀ k, k < w.heap.size → o k = 9 := fun k hk => by rw [ho]; exact if_pos hk
  have o0 : o b1 = 0 := by rw [ho]; exact (if_neg (by omega)).trans (if_pos rfl)
  have o1 : o b2 = 1 := by rw [ho]; exact (if_neg (by omega)).trans ((if_neg (by omega)).trans (if_pos rfl))
  have o2 : ∀ k, z1 ≤ k → k < z3 → k ≠ b1 → k ≠ b2 → o k = 2 := fun k h1 h2 h3 h4 => by rw [ho]; exact (if_neg (by omega)).trans ((if_neg h3).trans ((if_neg h4).trans (if_pos h2)))
  have o3 : o gr = 3 := by rw [ho]; exact (if_neg (by omega)).trans ((if_neg (by omega)).trans ((if_neg (by omega)).trans ((if_neg (by omega)).trans (if_pos (by omega)))))
  have hz45 : ∀ k, z4 ≤ k → k < z6 → o k = 5 := fun k h1 h2 => by rw [ho]; exact (if_neg (by omega)).trans ((if_neg (by omega)).trans ((if_neg (by omega)).trans ((if_neg (by omega)).trans ((if_neg (by omega)).trans (if_pos h2)))))
  have o4 : o gd = 4 := by rw [ho]; exact (if_neg (by omega)).trans ((if_neg (by omega)).trans ((if_neg (by omega)).trans ((if_neg (by omega)).trans ((if_neg (by omega)).trans ((if_neg (by omega)).trans (if_pos rfl))))))
  have o6 : o ga = 6 := by rw [ho]; exact (if_neg (by omega)).trans ((if_neg (by omega)).trans ((if_neg (by omega)).trans ((if_neg (by omega)).trans ((if_neg (by omega)).trans ((if_neg (by omega)).trans ((if_neg (by omega)).trans (if_pos rfl)))))))
  have o7 : o kb = 7 := by rw [ho]; exact (if_neg (by omega)).trans ((if_neg (by omega)).trans ((if_neg (by omega)).trans ((if_neg (by omega)).trans ((if_neg (by omega)).trans ((if_neg (by omega)).trans ((if_neg (by omega)).trans ((if_neg (by omega)).trans (if_pos rfl))))))))
  clear ho
  have two : ∀ i, i < 2 → i = 0 ∨ i = 1 := fun i hi => by omega
  refine ⟨o, { rd := fun i hi => ?_, or := fun i hi => ?_, ov := fun i hi k e => ?_, hr := hr, og := o3, hd := hd, oh := o4, ld := fun i hi => ?_, od := fun i hi k e => ?_, ha := ha, oa := o6, lo := o9, kp := kp }, { bk := ⟨hk, ⟨rfl, .inl ⟨rfl, rfl⟩⟩, ⟨rfl, .inl ⟨rfl, rfl⟩⟩, fun e => (by cases e), fun e => (by cases e), fun k e => (by cases e)⟩, ok := o7, oB := fun k e => (by cases e), oI := fun k e => (by cases e), nB := rfl, nI := rfl, lb := fun t ht => absurd ht (Nat.not_lt_zero _), ob := fun t ht => absurd ht (Nat.not_lt_zero _), li := fun t ht => absurd ht (Nat.not_lt_zero _), oi := fun t ht => absurd ht (Nat.not_lt_zero _), mB := fun x hx => (by cases hx), mI := fun x hx => (by cases hx) }⟩
  · rcases two i hi with rfl | rfl
    · exact h1
    · exact h2
  · rcases two i hi with rfl | rfl
    · exact o0
    · exact o1
  · rcases two i hi with rfl | rfl
    · have e : u1.ownBlock = some k := e
      have h5 := q2 k e
      exact o2 k h5.1 (by omega) (fun f => n1 (by rw [← f]; exact e)) (by omega)
    · have e : u2.ownBlock = some k := e
      have h5 := q4 k e
      exact o2 k (by omega) h5.2 (by omega) (fun f => n2 (by rw [← f]; exact e))
  · rcases two i hi with rfl | rfl
    · exact r1
    · exact r2
  · rcases two i hi with rfl | rfl
    · have e : d1.ownBlock = some k := e
      have h5 := q6 k e
      exact hz45 k h5.1 (by omega)
    · have e : d2.ownBlock = some k := e
      have h5 := q7 k e
      exact hz45 k (by omega) h5.2
end Go.Proofs.YtjmmdklgkcbihaaDoor
