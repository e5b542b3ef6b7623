import Derived.Test.YtiemiphlfbaojaaDoorMrg3
namespace Go.Proofs.YtiemiphlfbaojaaDoor
open Go.ChangeShapes Go.WideShapes Go.ChangeAt Go.RowKit
variable {w : World}
set_option maxRecDepth 20000 in
set_option maxHeartbeats 4000000 in
theorem step_6 (sg : Bool) (op : List Bool) (y : Tn) (oa : Option Addr) (on oc : Nat) (w : World) (hO : OpV w (.slice oa on oc) op) (hb : on ≤ 1000000000000) : Calls Tryd.prog 21 #[.agg #[.int .i64 6, .bool sg, .slice oa on oc], .agg (lxC y)] w (rwPost w (.slice oa on oc) op y (stepF ⟨6, sg, op⟩ y)) := by
  cases q : isK 14 y
  · rcases tok_class y with ⟨b20, hEd, hSl⟩ | ⟨b20, m1, ge, hEd, hSl⟩ | ⟨b20, m1, n1, ge, hEd, hSl⟩ | ⟨b20, m1, n1, n2, ge, hEd, hSl⟩ | ⟨b20, m1, n1, n2, ge, hEd, hSl⟩ | ⟨b20, m1, n1, n2, ge, hEd, hSl⟩
    all_goals
      rw [show stepF ⟨6, sg, op⟩ y = behindF ⟨6, sg, op⟩ y by (unfold stepF; dsimp only; rw [q]; rfl)]
      have CB : Hid (∀ W, OpV W (.slice oa on oc) op → Calls Tryd.prog 42 #[.agg #[.int .i64 6, .bool sg, .slice oa on oc], .agg (lxC y)] W (rwPost W (.slice oa on oc) op y (behindF ⟨6, sg, op⟩ y))) := hideL (fun W hW => behind_any ⟨6, sg, op⟩ y oa on oc W hW hb)
      have HF := hideL (fun (WB W1 : World) (e : Ending) (b2 : Nat) (h : rwPost WB (.slice oa on oc) op y (behindF ⟨6, sg, op⟩ y) e W1) (K : Kept (fun _ => False) w WB) h1 h2 => rw_form (w := w) b2 h K h1 h2)
      generalize rwPost w (.slice oa on oc) op y (behindF ⟨6, sg, op⟩ y) = QQ at *
      have HO := hideL hO
      have bq1 : (y.k == 14) = false := kq (k := 14) _ q
      obtain ⟨k, t, n, ya, e⟩ := y
      unfold lxC at *
      dsimp only at *
      obtain ⟨KB, -, -, h2, hz⟩ := boxes3 w #[.int .i64 6, .bool sg, .slice oa on oc] #[.int .i64 k, .string t, .int .i64 n, .int .i64 ya, .int .i64 e] #[.int .i64 0, .bool false, .slice none 0 0] 57 59 57
      have HKB := hideL KB
      have H2 := hideL h2
      have HZ := hideL hz
      clear hEd hSl KB h2 hz hO hb q
      go_enter Tryd.func21, Tryd.ntmps21
      go_wp2_with (go_at_call 42; refine Stp13.go ?_)
      generalize ((w.alloc (.cells #[.int .i64 6, .bool sg, .slice oa on oc] 57)).alloc (.cells #[.int .i64 k, .string t, .int .i64 n, .int .i64 ya, .int .i64 e] 59)).alloc (.cells #[.int .i64 0, .bool false, .slice none 0 0] 57) = WB at *
      refine ⟨?_⟩
      refine (CB.out WB (HO.out.later HKB.out)).mono ?_
      intro x W1 h
      obtain ⟨a9, sg9, va, vn, vc, B, rfl, k1, hQ⟩ := HF.out _ _ _ (w.heap.size + 2) h HKB.out (by omega) (by have := HZ.out; omega)
      have HQ := hideL hQ
      have G2 := hideL (k1.heap H2.out (fun f => f))
      clear h hQ k1 CB HF H2 HZ HKB HO
      generalize w.heap.size + 1 + 1 = g7 at *
      obtain ⟨d0, d1, d2, df⟩ := row3_cells G2.out
      have e0 := df 0
      have e1 := df 1
      have e2 := df 2
      clear df
      go_wp2_with fail
      refine bodyPost_ret (results_cellW rfl _ _ _ g7 _ rfl (load_row3 (by exact row3_put G2.out))) rfl ?_
      exact HQ.out _ row3_keptG
  · rcases tok_class y with ⟨b20, hEd, hSl⟩ | ⟨b20, m1, ge, hEd, hSl⟩ | ⟨b20, m1, n1, ge, hEd, hSl⟩ | ⟨b20, m1, n1, n2, ge, hEd, hSl⟩ | ⟨b20, m1, n1, n2, ge, hEd, hSl⟩ | ⟨b20, m1, n1, n2, ge, hEd, hSl⟩
    all_goals
      rw [show stepF _ y = some ⟨3, sg, op⟩ by (unfold stepF; dsimp only; rw [q]; rfl)]
      have HP : Hid (∀ w', Kept (fun _ => False) w w' → rwPost w (.slice oa on oc) op y (some ⟨3, sg, op⟩) (.returned (.tuple #[.agg #[.int .i64 3, .bool sg, .slice oa on oc], .bool true])) w') := hideL (fun w' k => rw_same k rfl)
      generalize rwPost w (.slice oa on oc) op y (some ⟨3, sg, op⟩) = QQ at *
      have bq1 : (y.k == 14) = true := kq (k := 14) _ q
      obtain ⟨k, t, n, ya, e⟩ := y
      unfold lxC at *
      dsimp only at *
      clear hEd hSl q
      go_enter Tryd.func21, Tryd.ntmps21
      go_wp2_with fail
      refine bodyPost_ret (results_cellW rfl _ _ _ (w.heap.size + 1 + 1) _ rfl (load_row3 (by exact (boxes3 w _ _ _ _ _ _).2.2.2.1))) rfl ?_
      exact HP.out _ (boxes3 w _ _ _ _ _ _).1
set_option maxRecDepth 20000 in
set_option maxHeartbeats 4000000 in
theorem step_8 (sg : Bool) (op : List Bool) (y : Tn) (oa : Option Addr) (on oc : Nat) (w : World) (hO : OpV w (.slice oa on oc) op) (hb : on ≤ 1000000000000) : Calls Tryd.prog 21 #[.agg #[.int .i64 8, .bool sg, .slice oa on oc], .agg (lxC y)] w (rwPost w (.slice oa on oc) op y (stepF ⟨8, sg, op⟩ y)) := by
  cases q : isK 21 y
  · rcases tok_class y with ⟨b20, hEd, hSl⟩ | ⟨b20, m1, ge, hEd, hSl⟩ | ⟨b20, m1, n1, ge, hEd, hSl⟩ | ⟨b20, m1, n1, n2, ge, hEd, hSl⟩ | ⟨b20, m1, n1, n2, ge, hEd, hSl⟩ | ⟨b20, m1, n1, n2, ge, hEd, hSl⟩
    all_goals
      rw [show stepF ⟨8, sg, op⟩ y = behindF ⟨8, sg, op⟩ y by (unfold stepF; dsimp only; rw [q]; rfl)]
      have CB : Hid (∀ W, OpV W (.slice oa on oc) op → Calls Tryd.prog 42 #[.agg #[.int .i64 8, .bool sg, .slice oa on oc], .agg (lxC y)] W (rwPost W (.slice oa on oc) op y (behindF ⟨8, sg, op⟩ y))) := hideL (fun W hW => behind_any ⟨8, sg, op⟩ y oa on oc W hW hb)
      have HF := hideL (fun (WB W1 : World) (e : Ending) (b2 : Nat) (h : rwPost WB (.slice oa on oc) op y (behindF ⟨8, sg, op⟩ y) e W1) (K : Kept (fun _ => False) w WB) h1 h2 => rw_form (w := w) b2 h K h1 h2)
      generalize rwPost w (.slice oa on oc) op y (behindF ⟨8, sg, op⟩ y) = QQ at *
      have HO := hideL hO
      have bq1 : (y.k == 21) = false := kq (k := 21) _ q
      obtain ⟨k, t, n, ya, e⟩ := y
      unfold lxC at *
      dsimp only at *
      obtain ⟨KB, -, -, h2, hz⟩ := boxes3 w #[.int .i64 8, .bool sg, .slice oa on oc] #[.int .i64 k, .string t, .int .i64 n, .int .i64 ya, .int .i64 e] #[.int .i64 0, .bool false, .slice none 0 0] 57 59 57
      have HKB := hideL KB
      have H2 := hideL h2
      have HZ := hideL hz
      clear hEd hSl KB h2 hz hO hb q
      go_enter Tryd.func21, Tryd.ntmps21
      go_wp2_with (go_at_call 42; refine Stp13.go ?_)
      generalize ((w.alloc (.cells #[.int .i64 8, .bool sg, .slice oa on oc] 57)).alloc (.cells #[.int .i64 k, .string t, .int .i64 n, .int .i64 ya, .int .i64 e] 59)).alloc (.cells #[.int .i64 0, .bool false, .slice none 0 0] 57) = WB at *
      refine ⟨?_⟩
      refine (CB.out WB (HO.out.later HKB.out)).mono ?_
      intro x W1 h
      obtain ⟨a9, sg9, va, vn, vc, B, rfl, k1, hQ⟩ := HF.out _ _ _ (w.heap.size + 2) h HKB.out (by omega) (by have := HZ.out; omega)
      have HQ := hideL hQ
      have G2 := hideL (k1.heap H2.out (fun f => f))
      clear h hQ k1 CB HF H2 HZ HKB HO
      generalize w.heap.size + 1 + 1 = g7 at *
      obtain ⟨d0, d1, d2, df⟩ := row3_cells G2.out
      have e0 := df 0
      have e1 := df 1
      have e2 := df 2
      clear df
      go_wp2_with fail
      refine bodyPost_ret (results_cellW rfl _ _ _ g7 _ rfl (load_row3 (by exact row3_put G2.out))) rfl ?_
      exact HQ.out _ row3_keptG
  · rcases tok_class y with ⟨b20, hEd, hSl⟩ | ⟨b20, m1, ge, hEd, hSl⟩ | ⟨b20, m1, n1, ge, hEd, hSl⟩ | ⟨b20, m1, n1, n2, ge, hEd, hSl⟩ | ⟨b20, m1, n1, n2, ge, hEd, hSl⟩ | ⟨b20, m1, n1, n2, ge, hEd, hSl⟩
    all_goals
      rw [show stepF _ y = some ⟨9, sg, op⟩ by (unfold stepF; dsimp only; rw [q]; rfl)]
      have HP : Hid (∀ w', Kept (fun _ => False) w w' → rwPost w (.slice oa on oc) op y (some ⟨9, sg, op⟩) (.returned (.tuple #[.agg #[.int .i64 9, .bool sg, .slice oa on oc], .bool true])) w') := hideL (fun w' k => rw_same k rfl)
      generalize rwPost w (.slice oa on oc) op y (some ⟨9, sg, op⟩) = QQ at *
      have bq1 : (y.k == 21) = true := kq (k := 21) _ q
      obtain ⟨k, t, n, ya, e⟩ := y
      unfold lxC at *
      dsimp only at *
      clear hEd hSl q
      go_enter Tryd.func21, Tryd.ntmps21
      go_wp2_with fail
      refine bodyPost_ret (results_cellW rfl _ _ _ (w.heap.size + 1 + 1) _ rfl (load_row3 (by exact (boxes3 w _ _ _ _ _ _).2.2.2.1))) rfl ?_
      exact HP.out _ (boxes3 w _ _ _ _ _ _).1
set_option maxRecDepth 20000 in
set_option maxHeartbeats 4000000 in
theorem step_9 (sg : Bool) (op : List Bool) (y : Tn) (oa : Option Addr) (on oc : Nat) (w : World) (hO : OpV w (.slice oa on oc) op) (hb : on ≤ 1000000000000) : Calls Tryd.prog 21 #[.agg #[.int .i64 9, .bool sg, .slice oa on oc], .agg (lxC y)] w (rwPost w (.slice oa on oc) op y (stepF ⟨9, sg, op⟩ y)) := by
  rcases tok_class y with ⟨b20, hEd, hSl⟩ | ⟨b20, m1, ge, hEd, hSl⟩ | ⟨b20, m1, n1, ge, hEd, hSl⟩ | ⟨b20, m1, n1, n2, ge, hEd, hSl⟩ | ⟨b20, m1, n1, n2, ge, hEd, hSl⟩ | ⟨b20, m1, n1, n2, ge, hEd, hSl⟩
  all_goals
    rw [show stepF ⟨9, sg, op⟩ y = behindF ⟨9, sg, op⟩ y by rfl]
    have CB : Hid (∀ W, OpV W (.slice oa on oc) op → Calls Tryd.prog 42 #[.agg #[.int .i64 9, .bool sg, .slice oa on oc], .agg (lxC y)] W (rwPost W (.slice oa on oc) op y (behindF ⟨9, sg, op⟩ y))) := hideL (fun W hW => behind_any ⟨9, sg, op⟩ y oa on oc W hW hb)
    have HF := hideL (fun (WB W1 : World) (e : Ending) (b2 : Nat) (h : rwPost WB (.slice oa on oc) op y (behindF ⟨9, sg, op⟩ y) e W1) (K : Kept (fun _ => False) w WB) h1 h2 => rw_form (w := w) b2 h K h1 h2)
    generalize rwPost w (.slice oa on oc) op y (behindF ⟨9, sg, op⟩ y) = QQ at *
    have HO := hideL hO
    obtain ⟨k, t, n, ya, e⟩ := y
    unfold lxC at *
    dsimp only at *
    obtain ⟨KB, -, -, h2, hz⟩ := boxes3 w #[.int .i64 9, .bool sg, .slice oa on oc] #[.int .i64 k, .string t, .int .i64 n, .int .i64 ya, .int .i64 e] #[.int .i64 0, .bool false, .slice none 0 0] 57 59 57
    have HKB := hideL KB
    have H2 := hideL h2
    have HZ := hideL hz
    clear hEd hSl KB h2 hz hO hb 
    go_enter Tryd.func21, Tryd.ntmps21
    go_wp2_with (go_at_call 42; refine Stp13.go ?_)
    generalize ((w.alloc (.cells #[.int .i64 9, .bool sg, .slice oa on oc] 57)).alloc (.cells #[.int .i64 k, .string t, .int .i64 n, .int .i64 ya, .int .i64 e] 59)).alloc (.cells #[.int .i64 0, .bool false, .slice none 0 0] 57) = WB at *
    refine ⟨?_⟩
    refine (CB.out WB (HO.out.later HKB.out)).mono ?_
    intro x W1 h
    obtain ⟨a9, sg9, va, vn, vc, B, rfl, k1, hQ⟩ := HF.out _ _ _ (w.heap.size + 2) h HKB.out (by omega) (by have := HZ.out; omega)
    have HQ := hideL hQ
    have G2 := hideL (k1.heap H2.out (fun f => f))
    clear h hQ k1 CB HF H2 HZ HKB HO
    generalize w.heap.size + 1 + 1 = g7 at *
    obtain ⟨d0, d1, d2, df⟩ := row3_cells G2.out
    have e0 := df 0
    have e1 := df 1
    have e2 := df 2
    clear df
    go_wp2_with fail
    refine bodyPost_ret (results_cellW rfl _ _ _ g7 _ rfl (load_row3 (by exact row3_put G2.out))) rfl ?_
    exact HQ.out _ row3_keptG
end Go.Proofs.YtiemiphlfbaojaaDoor
