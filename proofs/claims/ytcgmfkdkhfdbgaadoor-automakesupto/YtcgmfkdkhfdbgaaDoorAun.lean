import Derived.Test.YtcgmfkdkhfdbgaaDoorAum
namespace Go.Proofs.YtcgmfkdkhfdbgaaDoor
open Go.ChangeShapes Go.WideShapes Go.ChangeAt Go.RowKit

set_option maxRecDepth 20000 in
set_option maxHeartbeats 4000000 in
theorem makes_walk (k : Int) (l : List UInt8) (n : Int) (a1 a2 : Bool) (t1 : ByteArray) (b1 b2 : Bool) (t2 : ByteArray) (ad : Nat → Addr) (w : World) (hE : Errs14 w ad) (hl : l.length ≤ 137438953000) (h1 : t1.size ≤ 1099511627776) (h2 : t2.size ≤ 1099511627776) : Calls Tryd.prog 3 #[.agg #[.int .i64 k, .string (bq l), .int .i64 n, .bool a1, .bool a2, .string t1, .bool b1, .bool b2, .string t2]] w fun e w' => e = .returned (.bool true) ∧ Kept (fun _ => False) w w' := by
  have KB := Kept.alloc w (.cells #[.int .i64 k, .string (bq l), .int .i64 n, .bool a1, .bool a2, .string t1, .bool b1, .bool b2, .string t2] 25)
  have hbx := heap_alloc_new w (.cells #[.int .i64 k, .string (bq l), .int .i64 n, .bool a1, .bool a2, .string t1, .bool b1, .bool b2, .string t2] 25)
  have HKB := hideG KB
  have HE := hideG (hE.kept KB)
  have HX := hideG hbx
  have CL := hideG (lives_any (ad 13) _ (hE.kept KB).s13.var)
  have CM : Hid (∀ W, Errs14 W ad → Calls Tryd.prog 8 #[.agg #[.int .i64 k, .string (bq l), .int .i64 n, .bool a1, .bool a2, .string t1, .bool b1, .bool b2, .string t2]] W fun e w' => (∃ p, e = .returned (.tuple #[.pointer p, .bool true]) ∧ (p = none ↔ bad k l n ≠ 0)) ∧ Kept (fun _ => False) W w') := hideG (fun W h => made_any k l n a1 a2 t1 b1 b2 t2 ad W h hl h1 h2)
  have G1 : ∀ W, Hid (Calls Tryd.prog 9 #[.string (bq l)] W fun e w' => e = .returned (.bool (gd l)) ∧ Kept (fun _ => False) W w') := fun W => hideG (good_any l W (by omega))
  have G2 := fun W => hideG (rgood_any l W (by omega))
  have G3 := fun W => hideG (literal_any l W (by omega))
  have G4 := fun W => hideG (rliteral_any l W (by omega))
  clear KB hbx hE
  generalize bad k l n = z at *
  generalize hs : bq l = s at *
  generalize bq (lit l) = y at *
  generalize gd l = g at *
  have CELLS : Hid (∀ W : World, W.heap[w.heap.size]? = some (.cells #[.int .i64 k, .string s, .int .i64 n, .bool a1, .bool a2, .string t1, .bool b1, .bool b2, .string t2] 25 (0, 0)) → W.cell? ⟨w.heap.size, 0, none⟩ = some (.int .i64 k) ∧ W.cell? ⟨w.heap.size, 1, none⟩ = some (.string s) ∧ W.cell? ⟨w.heap.size, 2, none⟩ = some (.int .i64 n) ∧ W.cell? ⟨w.heap.size, 3, none⟩ = some (.bool a1) ∧ W.cell? ⟨w.heap.size, 4, none⟩ = some (.bool a2) ∧ W.cell? ⟨w.heap.size, 5, none⟩ = some (.string t1) ∧ W.cell? ⟨w.heap.size, 6, none⟩ = some (.bool b1) ∧ W.cell? ⟨w.heap.size, 7, none⟩ = some (.bool b2) ∧ W.cell? ⟨w.heap.size, 8, none⟩ = some (.string t2)) := hideG (fun W h => by refine ⟨?_, ?_, ?_, ?_, ?_, ?_, ?_, ?_, ?_⟩ <;> simp [World.cell?, h])
  go_enter Tryd.func3, Tryd.ntmps3
  go_wp2_with (first
    | (go_at_call 7; refine CL.out.mono ?_; clear CL; rintro e W1 ⟨rfl, K1⟩; have HX1 := hideG (K1.heap HX.out (fun f => f)); have HE1 := hideG (HE.out.kept K1); have HK1 := hideG (HKB.out.trans K1 (fun _ f => f.elim)); obtain ⟨x0, x1, x2, x3, x4, x5, x6, x7, x8⟩ := CELLS.out W1 HX1.out; clear K1)
    | (go_at_call 8; refine Stp2.go ?_))
  refine ⟨?_⟩
  refine (CM.out W1 HE1.out).mono ?_
  rintro e V ⟨⟨p, rfl, hp⟩, K2⟩
  have HXv := hideG (K2.heap HX1.out (fun f => f))
  have HKv := hideG (HK1.out.trans K2 (fun _ f => f.elim))
  have HC : Hid (∀ W' : World, Kept (fun _ => False) V W' → W'.cell? ⟨w.heap.size, 1, none⟩ = some (.string s)) := hideG (fun W' k' => (CELLS.out W' (k'.heap HXv.out (fun f => f))).2.1)
  clear x0 x1 x2 x3 x4 x5 x6 x7 x8 CM HX HX1 HE HE1 K2 CELLS HK1 HKB hp
  go_wp2
  have hS6 : Kept (fun _ => False) V V.drew := Kept.drewA V 1
  refine wp_region_held (S := fun W' => Kept (fun _ => False) V W') (by kernel_rfl) ?_
  change wpAnyH _ _ _ _ _ _ _ _ (World.drew _)
  refine takeHA (i := 0) (d := 12) (v := .bool true) rfl rfl (by kernel_rfl) (by kernel_rfl) (by kernel_rfl) (fun _ _ _ h => h) (Or.inl ⟨by rfl, fun W hW => ?_⟩) hS6 ?_
  · go_simp
  simp only [Act.put, List.setIfInBounds_toArray, List.set_cons_zero, List.set_cons_succ]
  refine takeHA (i := 1) (d := 13) (v := .bool true) rfl rfl (by kernel_rfl) (by kernel_rfl) (by kernel_rfl) (fun _ _ _ h => h) (Or.inl ⟨by rfl, fun W hW => ?_⟩) hS6 ?_
  · go_simp
  simp only [Act.put, List.setIfInBounds_toArray, List.set_cons_zero, List.set_cons_succ]
  refine takeHA (i := 2) (d := 14) (v := .pointer (some ⟨w.heap.size, 1, none⟩)) rfl rfl (by kernel_rfl) (by kernel_rfl) (by kernel_rfl) (fun _ _ _ h => h) (Or.inl ⟨by rfl, fun W hW => ?_⟩) hS6 ?_
  · go_simp
  simp only [Act.put, List.setIfInBounds_toArray, List.set_cons_zero, List.set_cons_succ]
  refine takeHA (i := 3) (d := 15) (v := .string s) rfl rfl (by kernel_rfl) (by kernel_rfl) (by kernel_rfl) (fun _ _ _ h => h) (Or.inl ⟨by rfl, fun W hW => ?_⟩) hS6 ?_
  · (have q1 := HC.out _ hW; go_simp)
  simp only [Act.put, List.setIfInBounds_toArray, List.set_cons_zero, List.set_cons_succ]
  refine takeHA (i := 5) (d := 17) (v := .pointer (some ⟨w.heap.size, 1, none⟩)) rfl rfl (by kernel_rfl) (by kernel_rfl) (by kernel_rfl) (fun _ _ _ h => h) (Or.inl ⟨by rfl, fun W hW => ?_⟩) hS6 ?_
  · go_simp
  simp only [Act.put, List.setIfInBounds_toArray, List.set_cons_zero, List.set_cons_succ]
  refine takeHA (i := 6) (d := 18) (v := .string s) rfl rfl (by kernel_rfl) (by kernel_rfl) (by kernel_rfl) (fun _ _ _ h => h) (Or.inl ⟨by rfl, fun W hW => ?_⟩) hS6 ?_
  · (have q1 := HC.out _ hW; go_simp)
  simp only [Act.put, List.setIfInBounds_toArray, List.set_cons_zero, List.set_cons_succ]
  refine wpAnyH_all (rs := [4]) (by kernel_rfl) (by simp) ?_
  intro i hi
  obtain rfl : i = 4 := by simpa using hi
  unfold wpOp
  go_simp
  first | refine (G1 _).out.mono ?_ | refine Or.inl ((G1 _).out.mono ?_)
  rintro e W2 ⟨rfl, k2⟩
  have hk2 := hS6.trans k2 (fun _ f => f.elim)
  refine ⟨hk2, ?_⟩
  refine wpAnyH_all (rs := [7]) (by kernel_rfl) (by simp) ?_
  intro i hi
  obtain rfl : i = 7 := by simpa using hi
  unfold wpOp
  go_simp
  first | refine (G2 _).out.mono ?_ | refine Or.inl ((G2 _).out.mono ?_)
  rintro e W3 ⟨rfl, k3⟩
  have hk3 := hk2.trans k3 (fun _ f => f.elim)
  refine ⟨hk3, ?_⟩
  refine takeHA (i := 8) (d := 20) (v := .bool true) rfl rfl (by kernel_rfl) (by kernel_rfl) (by kernel_rfl) (fun _ _ _ h => h) (Or.inl ⟨by rfl, fun W hW => ?_⟩) hk3 ?_
  · (cases g <;> go_simp)
  simp only [Act.put, List.setIfInBounds_toArray, List.set_cons_zero, List.set_cons_succ]
  refine takeHA (i := 9) (d := 21) (v := .bool true) rfl rfl (by kernel_rfl) (by kernel_rfl) (by kernel_rfl) (fun _ _ _ h => h) (Or.inl ⟨by rfl, fun W hW => ?_⟩) hk3 ?_
  · go_simp
  simp only [Act.put, List.setIfInBounds_toArray, List.set_cons_zero, List.set_cons_succ]
  refine takeHA (i := 10) (d := 22) (v := .bool true) rfl rfl (by kernel_rfl) (by kernel_rfl) (by kernel_rfl) (fun _ _ _ h => h) (Or.inl ⟨by rfl, fun W hW => ?_⟩) hk3 ?_
  · go_simp
  simp only [Act.put, List.setIfInBounds_toArray, List.set_cons_zero, List.set_cons_succ]
  refine takeHA (i := 11) (d := 23) (v := .pointer (some ⟨w.heap.size, 1, none⟩)) rfl rfl (by kernel_rfl) (by kernel_rfl) (by kernel_rfl) (fun _ _ _ h => h) (Or.inl ⟨by rfl, fun W hW => ?_⟩) hk3 ?_
  · go_simp
  simp only [Act.put, List.setIfInBounds_toArray, List.set_cons_zero, List.set_cons_succ]
  refine takeHA (i := 12) (d := 24) (v := .string s) rfl rfl (by kernel_rfl) (by kernel_rfl) (by kernel_rfl) (fun _ _ _ h => h) (Or.inl ⟨by rfl, fun W hW => ?_⟩) hk3 ?_
  · (have q1 := HC.out _ hW; go_simp)
  simp only [Act.put, List.setIfInBounds_toArray, List.set_cons_zero, List.set_cons_succ]
  refine takeHA (i := 14) (d := 26) (v := .pointer (some ⟨w.heap.size, 1, none⟩)) rfl rfl (by kernel_rfl) (by kernel_rfl) (by kernel_rfl) (fun _ _ _ h => h) (Or.inl ⟨by rfl, fun W hW => ?_⟩) hk3 ?_
  · go_simp
  simp only [Act.put, List.setIfInBounds_toArray, List.set_cons_zero, List.set_cons_succ]
  refine takeHA (i := 15) (d := 27) (v := .string s) rfl rfl (by kernel_rfl) (by kernel_rfl) (by kernel_rfl) (fun _ _ _ h => h) (Or.inl ⟨by rfl, fun W hW => ?_⟩) hk3 ?_
  · (have q1 := HC.out _ hW; go_simp)
  simp only [Act.put, List.setIfInBounds_toArray, List.set_cons_zero, List.set_cons_succ]
  refine wpAnyH_all (rs := [13]) (by kernel_rfl) (by simp) ?_
  intro i hi
  obtain rfl : i = 13 := by simpa using hi
  unfold wpOp
  go_simp
  first | refine (G3 _).out.mono ?_ | refine Or.inl ((G3 _).out.mono ?_)
  rintro e W4 ⟨rfl, k4⟩
  have hk4 := hk3.trans k4 (fun _ f => f.elim)
  refine ⟨hk4, ?_⟩
  refine wpAnyH_all (rs := [16]) (by kernel_rfl) (by simp) ?_
  intro i hi
  obtain rfl : i = 16 := by simpa using hi
  unfold wpOp
  go_simp
  first | refine (G4 _).out.mono ?_ | refine Or.inl ((G4 _).out.mono ?_)
  rintro e W5 ⟨rfl, k5⟩
  have hk5 := hk4.trans k5 (fun _ f => f.elim)
  refine ⟨hk5, ?_⟩
  refine takeHA (i := 17) (d := 29) (v := .bool true) rfl rfl (by kernel_rfl) (by kernel_rfl) (by kernel_rfl) (fun _ _ _ h => h) (Or.inl ⟨by rfl, fun W hW => ?_⟩) hk5 ?_
  · go_simp
  simp only [Act.put, List.setIfInBounds_toArray, List.set_cons_zero, List.set_cons_succ]
  refine takeHA (i := 18) (d := 30) (v := .bool true) rfl rfl (by kernel_rfl) (by kernel_rfl) (by kernel_rfl) (fun _ _ _ h => h) (Or.inl ⟨by rfl, fun W hW => ?_⟩) hk5 ?_
  · go_simp
  simp only [Act.put, List.setIfInBounds_toArray, List.set_cons_zero, List.set_cons_succ]
  refine takeHA (i := 19) (d := 2) (v := .bool true) rfl rfl (by kernel_rfl) (by kernel_rfl) (by kernel_rfl) (fun _ _ _ h => h) (Or.inl ⟨by rfl, fun W hW => ?_⟩) hk5 ?_
  · go_simp
  simp only [Act.put, List.setIfInBounds_toArray, List.set_cons_zero, List.set_cons_succ]
  refine wpAnyH_done (by kernel_rfl) ?_ _
  go_wp2
  go_ret
  exact ⟨rfl, HKv.out.trans hk5 (fun _ f => f.elim)⟩
end Go.Proofs.YtcgmfkdkhfdbgaaDoor
