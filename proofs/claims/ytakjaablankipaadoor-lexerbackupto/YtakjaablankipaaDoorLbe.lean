import Derived.Test.YtakjaablankipaaDoorLbd
namespace Go.Proofs.YtakjaablankipaaDoor
open Go.ChangeShapes Go.WideShapes Go.ChangeAt Go.RowKit

set_option maxRecDepth 20000 in
set_option maxHeartbeats 4000000 in
theorem wrapped_lolo (q : List UInt8) (w : World) (ad : Addr) (hC : ClsAt w) (hS : SynAt w ad) (hq : q.length ≤ 100000000000) (hZ : (scanF q).2 = none) (ma : Nat) (hma45 : ma ≤ 45) (mb : Nat) (hmb45 : mb ≤ 45) :
    Calls Tryd.prog 14 #[.string (bq q), .int .i64 ((ma : Nat) : Int), .int .i64 ((mb : Nat) : Int)] w fun e w' => e = .returned (.bool true) ∧ Kept (fun _ => False) w w' := by
  have x0 : ¬ (ma : Int) < 0 := by omega
  have x5 : ¬ (50 : Int) < (ma : Int) := by omega
  have x4 : ¬ (45 : Int) < (ma : Int) := by omega
  have y0 : ¬ (mb : Int) < 0 := by omega
  have y5 : ¬ (50 : Int) < (mb : Int) := by omega
  have y4 : ¬ (45 : Int) < (mb : Int) := by omega
  obtain ⟨A, nn, hA, hM⟩ := scan_wrap (smB.take ma) q (smB.take mb) (smB_blk ma) (smB_head mb) hZ
  have la : (smB.take ma).length = ma := by rw [List.length_take]; show min ma 45 = ma; omega
  have lb : (smB.take mb).length = mb := by rw [List.length_take]; show min mb 45 = mb; omega
  rw [la] at hM
  obtain ⟨_, a1, a2⟩ := scan_pos q hZ
  rw [hA, List.length_append] at a1
  rw [hA] at a2
  have a3 : A.length ≤ q.length := by have : A.length + 1 ≤ q.length + 1 := a1; omega
  obtain ⟨na, hna⟩ : ∃ na, na = A.length + 1 := ⟨_, rfl⟩
  have hp1 : scanF q = (A ++ [endT q.length], none) := by rw [← hA, ← hZ]
  have C1 := hideL (scan_list q _ na w ad hC hS (by omega) hp1 (by rw [hna, List.length_append]; rfl) (by omega))
  have C2 := hideL (fun W (k : Kept (fun _ => False) w W) => scan_list (smB.take ma ++ q ++ smB.take mb) _ na W ad (hC.later k) (hS.later k) (by rw [List.length_append, List.length_append, la, lb]; omega) hM (by rw [hna, List.length_append, List.length_map]; rfl) (by omega))
  have S1 := smB_slice ma hma45
  have S2 := smB_slice mb hmb45
  have z0 : (bq q).size = q.length := bq_size q
  have z1 : (bq (smB.take ma)).size = ma := by rw [bq_size, la]
  have z2 : (bq (smB.take mb)).size = mb := by rw [bq_size, lb]
  have e1 : bq (smB.take ma) ++ bq q = bq (smB.take ma ++ q) := bq_append _ _
  have e2 : bq (smB.take ma ++ q) ++ bq (smB.take mb) = bq (smB.take ma ++ q ++ smB.take mb) := bq_append _ _
  have z3 : (bq (smB.take ma ++ q)).size = ma + q.length := by rw [bq_size, List.length_append, la]
  have HA2 : Hid (∀ (k : Nat) (y : Lx), A[k]? = some y → y.a ≤ q.length ∧ y.e ≤ q.length) := hideL (fun k y h => by
    have := a2 y (List.mem_append_left _ (List.mem_of_getElem? h))
    exact ⟨this.2, this.1⟩)
  have HAk : Hid (∀ k, k < na - 1 → ∃ y, A[k]? = some y) := hideL (fun k h => ⟨A[k]'(by omega), List.getElem?_eq_getElem (by omega)⟩)
  have HL1 : Hid (∀ (W : World) g, (∀ k y, (A ++ [endT q.length])[k]? = some y → LxAt W g k y) → ∀ k y, A[k]? = some y → LxAt W g k y) := hideL (fun W g h k y e => h k y (by rw [List.getElem?_append_left (List.getElem?_eq_some_iff.1 e).1]; exact e))
  have HL2 : Hid (∀ (W : World) g, (∀ k y, (A.map (shL ma) ++ [endT nn])[k]? = some y → LxAt W g k y) → ∀ k y, A[k]? = some y → LxAt W g k (shL ma y)) := hideL (fun W g h k y e => h k _ (by rw [List.getElem?_append_left (by rw [List.length_map]; exact (List.getElem?_eq_some_iff.1 e).1), List.getElem?_map, e]; rfl))
  have hnab : na ≤ 100000000001 := by omega
  have hna1 : 1 ≤ na := by omega
  generalize bq (smB.take ma ++ q ++ smB.take mb) = s5 at *
  generalize bq (smB.take ma ++ q) = s4 at *
  generalize bq (smB.take ma) = s2 at *
  generalize bq (smB.take mb) = s3 at *
  generalize bq q = s1 at *
  obtain ⟨ql, hql⟩ : ∃ ql, ql = q.length := ⟨_, rfl⟩
  rw [← hql] at z0 z3 hq HA2
  have w1 : s1.size ≤ 100000000000 := by omega
  have w2 : s2.size ≤ 45 := by omega
  have w3 : s3.size ≤ 45 := by omega
  have w4 : s4.size ≤ 100000000045 := by omega
  have HZ1 := hideL z1
  clear hC hS hZ hA hM hp1 la lb a1 a2 a3 hna hql z0 z1 z2 z3
  go_enter Tryd.func14, Tryd.ntmps14
  go_wp2_with (first
    | (go_at_call 6; refine C1.out.mono ?_; clear C1; rintro e W1 ⟨⟨g1, c1, rfl, l1⟩, k1⟩; have K1 := hideL k1; have L1 := hideL (HL1.out W1 g1 l1); clear l1 k1 HL1)
    | (go_at_call 6; refine (C2.out _ K1.out).mono ?_; clear C2; rintro e W2 ⟨⟨g2, c2, rfl, l2⟩, k2⟩; have HW : Hid (Wra w g1 g2 A ma W2) := hideL ⟨K1.out.trans k2 (fun _ f => f.elim), fun k y e => (L1.out k y e).later k2, HL2.out W2 g2 l2⟩; clear l2 k2 K1 L1 HL2))
  clear e1 e2 S1 S2
  go_loopw [13] (fun iv wr => ∃ (k : Nat), k ≤ na - 1 ∧ iv = .int .i64 k ∧ Hid (Wra w g1 g2 A ma wr)) (fun iv _ => na - (intOf iv).toNat)
  case atStart => exact ⟨0, by omega, rfl, HW⟩
  case round =>
    obtain ⟨k, hk, rfl, HR⟩ := hrel
    clear HW
    by_cases hlt : k < na - 1
    · obtain ⟨⟨xk, xt, xn, xa, xe⟩, hy⟩ := HAk.out k hlt
      obtain ⟨ya, ye⟩ := HA2.out k _ hy
      have la := HR.out.a k _ hy
      have lc := HR.out.c k _ hy
      have u1 : (k : Int) < (na : Int) - 1 := by omega
      have u2 : (k : Int) < (na : Int) := by omega
      clear x0 x4
      obtain ⟨x0, x1, x2, x3, x4⟩ := la
      obtain ⟨g0, g1', g2', g3, g4⟩ := lc
      dsimp only [shL] at x0 x1 x2 x3 x4 g0 g1' g2' g3 g4 ya ye
      rw [show ((xa + ma : Nat) : Int) = (xa : Int) + (s2.size : Int) by have := HZ1.out; omega] at g3
      rw [show ((xe + ma : Nat) : Int) = (xe : Int) + (s2.size : Int) by have := HZ1.out; omega] at g4
      have HGC := hideL (show wr.cell? ⟨g2, k * 5, none⟩ = some (.int .i64 (xk : Int)) ∧ wr.cell? ⟨g2, k * 5 + 1, none⟩ = some (.string (bq xt)) ∧ wr.cell? ⟨g2, k * 5 + 2, none⟩ = some (.int .i64 xn) ∧ wr.cell? ⟨g2, k * 5 + 3, none⟩ = some (.int .i64 ((xa : Int) + (s2.size : Int))) ∧ wr.cell? ⟨g2, k * 5 + 4, none⟩ = some (.int .i64 ((xe : Int) + (s2.size : Int))) from ⟨g0, g1', g2', g3, g4⟩)
      clear g0 g1' g2' g3 g4 hy
      go_wp2_with fail
      have HV := hideL (HR.out.later (Kept.alloc wr (.cells #[.int .i64 (xk : Int), .string (bq xt), .int .i64 xn, .int .i64 ((xa : Int) + (s2.size : Int)), .int .i64 ((xe : Int) + (s2.size : Int))] 41)))
      obtain ⟨d0, d1, d2, d3, d4⟩ := lx_new wr (.int .i64 (xk : Int)) (.string (bq xt)) (.int .i64 xn) (.int .i64 ((xa : Int) + (s2.size : Int))) (.int .i64 ((xe : Int) + (s2.size : Int)))
      have KA := Kept.alloc wr (.cells #[.int .i64 (xk : Int), .string (bq xt), .int .i64 xn, .int .i64 ((xa : Int) + (s2.size : Int)), .int .i64 ((xe : Int) + (s2.size : Int))] 41)
      obtain ⟨h0, h1, h2, h3, h4⟩ := HGC.out
      have g0 := KA.cell h0 (fun f => f)
      have g1' := KA.cell h1 (fun f => f)
      have g2' := KA.cell h2 (fun f => f)
      have g3 := KA.cell h3 (fun f => f)
      have g4 := KA.cell h4 (fun f => f)
      clear HGC h0 h1 h2 h3 h4
      clear KA x0 x1 x2 x3 x4 HR
      generalize wr.alloc (.cells #[.int .i64 (xk : Int), .string (bq xt), .int .i64 xn, .int .i64 ((xa : Int) + (s2.size : Int)), .int .i64 ((xe : Int) + (s2.size : Int))] 41) = V at *
      generalize wr.heap.size = b9 at *
      go_quiet (fail)
      have HX := hideL (HV.out.later (Kept.drewL V nq))
      generalize V.drewN nq = V9 at *
      clear HV d0 d1 d2 d3 d4 g0 g1' g2' g3 g4
      go_wp2_with fail
      go_roundw
      case rel => exact ⟨k + 1, by omega, by go_num, HX⟩
      case measure => simp [intOf] <;> omega
    · have u1 : ¬ (k : Int) < (na : Int) - 1 := by omega
      have HF := hideL HR.out.kept
      clear HR
      go_wp2
      go_ret
      exact ⟨rfl, HF.out⟩
set_option maxRecDepth 20000 in
set_option maxHeartbeats 4000000 in
theorem wrapped_lohi (q : List UInt8) (w : World) (ad : Addr) (hC : ClsAt w) (hS : SynAt w ad) (hq : q.length ≤ 100000000000) (hZ : (scanF q).2 = none) (ma : Nat) (hma45 : ma ≤ 45) (y : Int) (y5 : ¬ 50 < y) (y4 : 45 < y) :
    Calls Tryd.prog 14 #[.string (bq q), .int .i64 ((ma : Nat) : Int), .int .i64 y] w fun e w' => e = .returned (.bool true) ∧ Kept (fun _ => False) w w' := by
  have x0 : ¬ (ma : Int) < 0 := by omega
  have x5 : ¬ (50 : Int) < (ma : Int) := by omega
  have x4 : ¬ (45 : Int) < (ma : Int) := by omega
  obtain ⟨mb, hmb⟩ : ∃ mb, mb = 45 := ⟨_, rfl⟩
  have hmb45 : mb ≤ 45 := by omega
  have y0 : ¬ y < 0 := by omega
  obtain ⟨A, nn, hA, hM⟩ := scan_wrap (smB.take ma) q (smB.take mb) (smB_blk ma) (smB_head mb) hZ
  have la : (smB.take ma).length = ma := by rw [List.length_take]; show min ma 45 = ma; omega
  have lb : (smB.take mb).length = mb := by rw [List.length_take]; show min mb 45 = mb; omega
  rw [la] at hM
  obtain ⟨_, a1, a2⟩ := scan_pos q hZ
  rw [hA, List.length_append] at a1
  rw [hA] at a2
  have a3 : A.length ≤ q.length := by have : A.length + 1 ≤ q.length + 1 := a1; omega
  obtain ⟨na, hna⟩ : ∃ na, na = A.length + 1 := ⟨_, rfl⟩
  have hp1 : scanF q = (A ++ [endT q.length], none) := by rw [← hA, ← hZ]
  have C1 := hideL (scan_list q _ na w ad hC hS (by omega) hp1 (by rw [hna, List.length_append]; rfl) (by omega))
  have C2 := hideL (fun W (k : Kept (fun _ => False) w W) => scan_list (smB.take ma ++ q ++ smB.take mb) _ na W ad (hC.later k) (hS.later k) (by rw [List.length_append, List.length_append, la, lb]; omega) hM (by rw [hna, List.length_append, List.length_map]; rfl) (by omega))
  have S1 := smB_slice ma hma45
  have S2 : ∀ W, (Instr.slice 9 (.string ⟨#[32, 9, 10, 13, 32, 9, 10, 13, 32, 32, 9, 10, 13, 32, 9, 10, 13, 32, 32, 9, 10, 13, 32, 9, 10, 13, 32, 32, 9, 10, 13, 32, 9, 10, 13, 32, 32, 9, 10, 13, 32, 9, 10, 13, 32]⟩) none (some (.int .i64 45)) none).run Tryd.prog W = .ok (.string (bq (smB.take mb))) W := by rw [hmb]; exact fun W => smB_slice 45 (by decide) W
  have z0 : (bq q).size = q.length := bq_size q
  have z1 : (bq (smB.take ma)).size = ma := by rw [bq_size, la]
  have z2 : (bq (smB.take mb)).size = mb := by rw [bq_size, lb]
  have e1 : bq (smB.take ma) ++ bq q = bq (smB.take ma ++ q) := bq_append _ _
  have e2 : bq (smB.take ma ++ q) ++ bq (smB.take mb) = bq (smB.take ma ++ q ++ smB.take mb) := bq_append _ _
  have z3 : (bq (smB.take ma ++ q)).size = ma + q.length := by rw [bq_size, List.length_append, la]
  have HA2 : Hid (∀ (k : Nat) (y : Lx), A[k]? = some y → y.a ≤ q.length ∧ y.e ≤ q.length) := hideL (fun k y h => by
    have := a2 y (List.mem_append_left _ (List.mem_of_getElem? h))
    exact ⟨this.2, this.1⟩)
  have HAk : Hid (∀ k, k < na - 1 → ∃ y, A[k]? = some y) := hideL (fun k h => ⟨A[k]'(by omega), List.getElem?_eq_getElem (by omega)⟩)
  have HL1 : Hid (∀ (W : World) g, (∀ k y, (A ++ [endT q.length])[k]? = some y → LxAt W g k y) → ∀ k y, A[k]? = some y → LxAt W g k y) := hideL (fun W g h k y e => h k y (by rw [List.getElem?_append_left (List.getElem?_eq_some_iff.1 e).1]; exact e))
  have HL2 : Hid (∀ (W : World) g, (∀ k y, (A.map (shL ma) ++ [endT nn])[k]? = some y → LxAt W g k y) → ∀ k y, A[k]? = some y → LxAt W g k (shL ma y)) := hideL (fun W g h k y e => h k _ (by rw [List.getElem?_append_left (by rw [List.length_map]; exact (List.getElem?_eq_some_iff.1 e).1), List.getElem?_map, e]; rfl))
  have hnab : na ≤ 100000000001 := by omega
  have hna1 : 1 ≤ na := by omega
  generalize bq (smB.take ma ++ q ++ smB.take mb) = s5 at *
  generalize bq (smB.take ma ++ q) = s4 at *
  generalize bq (smB.take ma) = s2 at *
  generalize bq (smB.take mb) = s3 at *
  generalize bq q = s1 at *
  obtain ⟨ql, hql⟩ : ∃ ql, ql = q.length := ⟨_, rfl⟩
  rw [← hql] at z0 z3 hq HA2
  have w1 : s1.size ≤ 100000000000 := by omega
  have w2 : s2.size ≤ 45 := by omega
  have w3 : s3.size ≤ 45 := by omega
  have w4 : s4.size ≤ 100000000045 := by omega
  have HZ1 := hideL z1
  clear hC hS hZ hA hM hp1 la lb a1 a2 a3 hna hql z0 hmb z1 z2 z3
  go_enter Tryd.func14, Tryd.ntmps14
  go_wp2_with (first
    | (go_at_call 6; refine C1.out.mono ?_; clear C1; rintro e W1 ⟨⟨g1, c1, rfl, l1⟩, k1⟩; have K1 := hideL k1; have L1 := hideL (HL1.out W1 g1 l1); clear l1 k1 HL1)
    | (go_at_call 6; refine (C2.out _ K1.out).mono ?_; clear C2; rintro e W2 ⟨⟨g2, c2, rfl, l2⟩, k2⟩; have HW : Hid (Wra w g1 g2 A ma W2) := hideL ⟨K1.out.trans k2 (fun _ f => f.elim), fun k y e => (L1.out k y e).later k2, HL2.out W2 g2 l2⟩; clear l2 k2 K1 L1 HL2))
  clear e1 e2 S1 S2
  go_loopw [13] (fun iv wr => ∃ (k : Nat), k ≤ na - 1 ∧ iv = .int .i64 k ∧ Hid (Wra w g1 g2 A ma wr)) (fun iv _ => na - (intOf iv).toNat)
  case atStart => exact ⟨0, by omega, rfl, HW⟩
  case round =>
    obtain ⟨k, hk, rfl, HR⟩ := hrel
    clear HW
    by_cases hlt : k < na - 1
    · obtain ⟨⟨xk, xt, xn, xa, xe⟩, hy⟩ := HAk.out k hlt
      obtain ⟨ya, ye⟩ := HA2.out k _ hy
      have la := HR.out.a k _ hy
      have lc := HR.out.c k _ hy
      have u1 : (k : Int) < (na : Int) - 1 := by omega
      have u2 : (k : Int) < (na : Int) := by omega
      clear x0 x4
      obtain ⟨x0, x1, x2, x3, x4⟩ := la
      obtain ⟨g0, g1', g2', g3, g4⟩ := lc
      dsimp only [shL] at x0 x1 x2 x3 x4 g0 g1' g2' g3 g4 ya ye
      rw [show ((xa + ma : Nat) : Int) = (xa : Int) + (s2.size : Int) by have := HZ1.out; omega] at g3
      rw [show ((xe + ma : Nat) : Int) = (xe : Int) + (s2.size : Int) by have := HZ1.out; omega] at g4
      have HGC := hideL (show wr.cell? ⟨g2, k * 5, none⟩ = some (.int .i64 (xk : Int)) ∧ wr.cell? ⟨g2, k * 5 + 1, none⟩ = some (.string (bq xt)) ∧ wr.cell? ⟨g2, k * 5 + 2, none⟩ = some (.int .i64 xn) ∧ wr.cell? ⟨g2, k * 5 + 3, none⟩ = some (.int .i64 ((xa : Int) + (s2.size : Int))) ∧ wr.cell? ⟨g2, k * 5 + 4, none⟩ = some (.int .i64 ((xe : Int) + (s2.size : Int))) from ⟨g0, g1', g2', g3, g4⟩)
      clear g0 g1' g2' g3 g4 hy
      go_wp2_with fail
      have HV := hideL (HR.out.later (Kept.alloc wr (.cells #[.int .i64 (xk : Int), .string (bq xt), .int .i64 xn, .int .i64 ((xa : Int) + (s2.size : Int)), .int .i64 ((xe : Int) + (s2.size : Int))] 41)))
      obtain ⟨d0, d1, d2, d3, d4⟩ := lx_new wr (.int .i64 (xk : Int)) (.string (bq xt)) (.int .i64 xn) (.int .i64 ((xa : Int) + (s2.size : Int))) (.int .i64 ((xe : Int) + (s2.size : Int)))
      have KA := Kept.alloc wr (.cells #[.int .i64 (xk : Int), .string (bq xt), .int .i64 xn, .int .i64 ((xa : Int) + (s2.size : Int)), .int .i64 ((xe : Int) + (s2.size : Int))] 41)
      obtain ⟨h0, h1, h2, h3, h4⟩ := HGC.out
      have g0 := KA.cell h0 (fun f => f)
      have g1' := KA.cell h1 (fun f => f)
      have g2' := KA.cell h2 (fun f => f)
      have g3 := KA.cell h3 (fun f => f)
      have g4 := KA.cell h4 (fun f => f)
      clear HGC h0 h1 h2 h3 h4
      clear KA x0 x1 x2 x3 x4 HR
      generalize wr.alloc (.cells #[.int .i64 (xk : Int), .string (bq xt), .int .i64 xn, .int .i64 ((xa : Int) + (s2.size : Int)), .int .i64 ((xe : Int) + (s2.size : Int))] 41) = V at *
      generalize wr.heap.size = b9 at *
      go_quiet (fail)
      have HX := hideL (HV.out.later (Kept.drewL V nq))
      generalize V.drewN nq = V9 at *
      clear HV d0 d1 d2 d3 d4 g0 g1' g2' g3 g4
      go_wp2_with fail
      go_roundw
      case rel => exact ⟨k + 1, by omega, by go_num, HX⟩
      case measure => simp [intOf] <;> omega
    · have u1 : ¬ (k : Int) < (na : Int) - 1 := by omega
      have HF := hideL HR.out.kept
      clear HR
      go_wp2
      go_ret
      exact ⟨rfl, HF.out⟩
set_option maxRecDepth 20000 in
set_option maxHeartbeats 4000000 in
theorem wrapped_hilo (q : List UInt8) (w : World) (ad : Addr) (hC : ClsAt w) (hS : SynAt w ad) (hq : q.length ≤ 100000000000) (hZ : (scanF q).2 = none) (x : Int) (x5 : ¬ 50 < x) (x4 : 45 < x) (mb : Nat) (hmb45 : mb ≤ 45) :
    Calls Tryd.prog 14 #[.string (bq q), .int .i64 x, .int .i64 ((mb : Nat) : Int)] w fun e w' => e = .returned (.bool true) ∧ Kept (fun _ => False) w w' := by
  obtain ⟨ma, hma⟩ : ∃ ma, ma = 45 := ⟨_, rfl⟩
  have hma45 : ma ≤ 45 := by omega
  have x0 : ¬ x < 0 := by omega
  have y0 : ¬ (mb : Int) < 0 := by omega
  have y5 : ¬ (50 : Int) < (mb : Int) := by omega
  have y4 : ¬ (45 : Int) < (mb : Int) := by omega
  obtain ⟨A, nn, hA, hM⟩ := scan_wrap (smB.take ma) q (smB.take mb) (smB_blk ma) (smB_head mb) hZ
  have la : (smB.take ma).length = ma := by rw [List.length_take]; show min ma 45 = ma; omega
  have lb : (smB.take mb).length = mb := by rw [List.length_take]; show min mb 45 = mb; omega
  rw [la] at hM
  obtain ⟨_, a1, a2⟩ := scan_pos q hZ
  rw [hA, List.length_append] at a1
  rw [hA] at a2
  have a3 : A.length ≤ q.length := by have : A.length + 1 ≤ q.length + 1 := a1; omega
  obtain ⟨na, hna⟩ : ∃ na, na = A.length + 1 := ⟨_, rfl⟩
  have hp1 : scanF q = (A ++ [endT q.length], none) := by rw [← hA, ← hZ]
  have C1 := hideL (scan_list q _ na w ad hC hS (by omega) hp1 (by rw [hna, List.length_append]; rfl) (by omega))
  have C2 := hideL (fun W (k : Kept (fun _ => False) w W) => scan_list (smB.take ma ++ q ++ smB.take mb) _ na W ad (hC.later k) (hS.later k) (by rw [List.length_append, List.length_append, la, lb]; omega) hM (by rw [hna, List.length_append, List.length_map]; rfl) (by omega))
  have S1 : ∀ W, (Instr.slice 9 (.string ⟨#[32, 9, 10, 13, 32, 9, 10, 13, 32, 32, 9, 10, 13, 32, 9, 10, 13, 32, 32, 9, 10, 13, 32, 9, 10, 13, 32, 32, 9, 10, 13, 32, 9, 10, 13, 32, 32, 9, 10, 13, 32, 9, 10, 13, 32]⟩) none (some (.int .i64 45)) none).run Tryd.prog W = .ok (.string (bq (smB.take ma))) W := by rw [hma]; exact fun W => smB_slice 45 (by decide) W
  have S2 := smB_slice mb hmb45
  have z0 : (bq q).size = q.length := bq_size q
  have z1 : (bq (smB.take ma)).size = ma := by rw [bq_size, la]
  have z2 : (bq (smB.take mb)).size = mb := by rw [bq_size, lb]
  have e1 : bq (smB.take ma) ++ bq q = bq (smB.take ma ++ q) := bq_append _ _
  have e2 : bq (smB.take ma ++ q) ++ bq (smB.take mb) = bq (smB.take ma ++ q ++ smB.take mb) := bq_append _ _
  have z3 : (bq (smB.take ma ++ q)).size = ma + q.length := by rw [bq_size, List.length_append, la]
  have HA2 : Hid (∀ (k : Nat) (y : Lx), A[k]? = some y → y.a ≤ q.length ∧ y.e ≤ q.length) := hideL (fun k y h => by
    have := a2 y (List.mem_append_left _ (List.mem_of_getElem? h))
    exact ⟨this.2, this.1⟩)
  have HAk : Hid (∀ k, k < na - 1 → ∃ y, A[k]? = some y) := hideL (fun k h => ⟨A[k]'(by omega), List.getElem?_eq_getElem (by omega)⟩)
  have HL1 : Hid (∀ (W : World) g, (∀ k y, (A ++ [endT q.length])[k]? = some y → LxAt W g k y) → ∀ k y, A[k]? = some y → LxAt W g k y) := hideL (fun W g h k y e => h k y (by rw [List.getElem?_append_left (List.getElem?_eq_some_iff.1 e).1]; exact e))
  have HL2 : Hid (∀ (W : World) g, (∀ k y, (A.map (shL ma) ++ [endT nn])[k]? = some y → LxAt W g k y) → ∀ k y, A[k]? = some y → LxAt W g k (shL ma y)) := hideL (fun W g h k y e => h k _ (by rw [List.getElem?_append_left (by rw [List.length_map]; exact (List.getElem?_eq_some_iff.1 e).1), List.getElem?_map, e]; rfl))
  have hnab : na ≤ 100000000001 := by omega
  have hna1 : 1 ≤ na := by omega
  generalize bq (smB.take ma ++ q ++ smB.take mb) = s5 at *
  generalize bq (smB.take ma ++ q) = s4 at *
  generalize bq (smB.take ma) = s2 at *
  generalize bq (smB.take mb) = s3 at *
  generalize bq q = s1 at *
  obtain ⟨ql, hql⟩ : ∃ ql, ql = q.length := ⟨_, rfl⟩
  rw [← hql] at z0 z3 hq HA2
  have w1 : s1.size ≤ 100000000000 := by omega
  have w2 : s2.size ≤ 45 := by omega
  have w3 : s3.size ≤ 45 := by omega
  have w4 : s4.size ≤ 100000000045 := by omega
  have HZ1 := hideL z1
  clear hC hS hZ hA hM hp1 la lb a1 a2 a3 hna hql z0 hma z1 z2 z3
  go_enter Tryd.func14, Tryd.ntmps14
  go_wp2_with (first
    | (go_at_call 6; refine C1.out.mono ?_; clear C1; rintro e W1 ⟨⟨g1, c1, rfl, l1⟩, k1⟩; have K1 := hideL k1; have L1 := hideL (HL1.out W1 g1 l1); clear l1 k1 HL1)
    | (go_at_call 6; refine (C2.out _ K1.out).mono ?_; clear C2; rintro e W2 ⟨⟨g2, c2, rfl, l2⟩, k2⟩; have HW : Hid (Wra w g1 g2 A ma W2) := hideL ⟨K1.out.trans k2 (fun _ f => f.elim), fun k y e => (L1.out k y e).later k2, HL2.out W2 g2 l2⟩; clear l2 k2 K1 L1 HL2))
  clear e1 e2 S1 S2
  go_loopw [13] (fun iv wr => ∃ (k : Nat), k ≤ na - 1 ∧ iv = .int .i64 k ∧ Hid (Wra w g1 g2 A ma wr)) (fun iv _ => na - (intOf iv).toNat)
  case atStart => exact ⟨0, by omega, rfl, HW⟩
  case round =>
    obtain ⟨k, hk, rfl, HR⟩ := hrel
    clear HW
    by_cases hlt : k < na - 1
    · obtain ⟨⟨xk, xt, xn, xa, xe⟩, hy⟩ := HAk.out k hlt
      obtain ⟨ya, ye⟩ := HA2.out k _ hy
      have la := HR.out.a k _ hy
      have lc := HR.out.c k _ hy
      have u1 : (k : Int) < (na : Int) - 1 := by omega
      have u2 : (k : Int) < (na : Int) := by omega
      clear x0 x4
      obtain ⟨x0, x1, x2, x3, x4⟩ := la
      obtain ⟨g0, g1', g2', g3, g4⟩ := lc
      dsimp only [shL] at x0 x1 x2 x3 x4 g0 g1' g2' g3 g4 ya ye
      rw [show ((xa + ma : Nat) : Int) = (xa : Int) + (s2.size : Int) by have := HZ1.out; omega] at g3
      rw [show ((xe + ma : Nat) : Int) = (xe : Int) + (s2.size : Int) by have := HZ1.out; omega] at g4
      have HGC := hideL (show wr.cell? ⟨g2, k * 5, none⟩ = some (.int .i64 (xk : Int)) ∧ wr.cell? ⟨g2, k * 5 + 1, none⟩ = some (.string (bq xt)) ∧ wr.cell? ⟨g2, k * 5 + 2, none⟩ = some (.int .i64 xn) ∧ wr.cell? ⟨g2, k * 5 + 3, none⟩ = some (.int .i64 ((xa : Int) + (s2.size : Int))) ∧ wr.cell? ⟨g2, k * 5 + 4, none⟩ = some (.int .i64 ((xe : Int) + (s2.size : Int))) from ⟨g0, g1', g2', g3, g4⟩)
      clear g0 g1' g2' g3 g4 hy
      go_wp2_with fail
      have HV := hideL (HR.out.later (Kept.alloc wr (.cells #[.int .i64 (xk : Int), .string (bq xt), .int .i64 xn, .int .i64 ((xa : Int) + (s2.size : Int)), .int .i64 ((xe : Int) + (s2.size : Int))] 41)))
      obtain ⟨d0, d1, d2, d3, d4⟩ := lx_new wr (.int .i64 (xk : Int)) (.string (bq xt)) (.int .i64 xn) (.int .i64 ((xa : Int) + (s2.size : Int))) (.int .i64 ((xe : Int) + (s2.size : Int)))
      have KA := Kept.alloc wr (.cells #[.int .i64 (xk : Int), .string (bq xt), .int .i64 xn, .int .i64 ((xa : Int) + (s2.size : Int)), .int .i64 ((xe : Int) + (s2.size : Int))] 41)
      obtain ⟨h0, h1, h2, h3, h4⟩ := HGC.out
      have g0 := KA.cell h0 (fun f => f)
      have g1' := KA.cell h1 (fun f => f)
      have g2' := KA.cell h2 (fun f => f)
      have g3 := KA.cell h3 (fun f => f)
      have g4 := KA.cell h4 (fun f => f)
      clear HGC h0 h1 h2 h3 h4
      clear KA x0 x1 x2 x3 x4 HR
      generalize wr.alloc (.cells #[.int .i64 (xk : Int), .string (bq xt), .int .i64 xn, .int .i64 ((xa : Int) + (s2.size : Int)), .int .i64 ((xe : Int) + (s2.size : Int))] 41) = V at *
      generalize wr.heap.size = b9 at *
      go_quiet (fail)
      have HX := hideL (HV.out.later (Kept.drewL V nq))
      generalize V.drewN nq = V9 at *
      clear HV d0 d1 d2 d3 d4 g0 g1' g2' g3 g4
      go_wp2_with fail
      go_roundw
      case rel => exact ⟨k + 1, by omega, by go_num, HX⟩
      case measure => simp [intOf] <;> omega
    · have u1 : ¬ (k : Int) < (na : Int) - 1 := by omega
      have HF := hideL HR.out.kept
      clear HR
      go_wp2
      go_ret
      exact ⟨rfl, HF.out⟩
set_option maxRecDepth 20000 in
set_option maxHeartbeats 4000000 in
theorem wrapped_hihi (q : List UInt8) (w : World) (ad : Addr) (hC : ClsAt w) (hS : SynAt w ad) (hq : q.length ≤ 100000000000) (hZ : (scanF q).2 = none) (x : Int) (x5 : ¬ 50 < x) (x4 : 45 < x) (y : Int) (y5 : ¬ 50 < y) (y4 : 45 < y) :
    Calls Tryd.prog 14 #[.string (bq q), .int .i64 x, .int .i64 y] w fun e w' => e = .returned (.bool true) ∧ Kept (fun _ => False) w w' := by
  obtain ⟨ma, hma⟩ : ∃ ma, ma = 45 := ⟨_, rfl⟩
  have hma45 : ma ≤ 45 := by omega
  have x0 : ¬ x < 0 := by omega
  have y0 : ¬ y < 0 := by omega
  obtain ⟨A, nn, hA, hM⟩ := scan_wrap (smB.take ma) q (smB.take ma) (smB_blk ma) (smB_head ma) hZ
  have la : (smB.take ma).length = ma := by rw [List.length_take]; show min ma 45 = ma; omega
  rw [la] at hM
  obtain ⟨_, a1, a2⟩ := scan_pos q hZ
  rw [hA, List.length_append] at a1
  rw [hA] at a2
  have a3 : A.length ≤ q.length := by have : A.length + 1 ≤ q.length + 1 := a1; omega
  obtain ⟨na, hna⟩ : ∃ na, na = A.length + 1 := ⟨_, rfl⟩
  have hp1 : scanF q = (A ++ [endT q.length], none) := by rw [← hA, ← hZ]
  have C1 := hideL (scan_list q _ na w ad hC hS (by omega) hp1 (by rw [hna, List.length_append]; rfl) (by omega))
  have C2 := hideL (fun W (k : Kept (fun _ => False) w W) => scan_list (smB.take ma ++ q ++ smB.take ma) _ na W ad (hC.later k) (hS.later k) (by rw [List.length_append, List.length_append, la]; omega) hM (by rw [hna, List.length_append, List.length_map]; rfl) (by omega))
  have S1 : ∀ W, (Instr.slice 9 (.string ⟨#[32, 9, 10, 13, 32, 9, 10, 13, 32, 32, 9, 10, 13, 32, 9, 10, 13, 32, 32, 9, 10, 13, 32, 9, 10, 13, 32, 32, 9, 10, 13, 32, 9, 10, 13, 32, 32, 9, 10, 13, 32, 9, 10, 13, 32]⟩) none (some (.int .i64 45)) none).run Tryd.prog W = .ok (.string (bq (smB.take ma))) W := by rw [hma]; exact fun W => smB_slice 45 (by decide) W
  have z0 : (bq q).size = q.length := bq_size q
  have z1 : (bq (smB.take ma)).size = ma := by rw [bq_size, la]
  have e1 : bq (smB.take ma) ++ bq q = bq (smB.take ma ++ q) := bq_append _ _
  have e2 : bq (smB.take ma ++ q) ++ bq (smB.take ma) = bq (smB.take ma ++ q ++ smB.take ma) := bq_append _ _
  have z3 : (bq (smB.take ma ++ q)).size = ma + q.length := by rw [bq_size, List.length_append, la]
  have HA2 : Hid (∀ (k : Nat) (y : Lx), A[k]? = some y → y.a ≤ q.length ∧ y.e ≤ q.length) := hideL (fun k y h => by
    have := a2 y (List.mem_append_left _ (List.mem_of_getElem? h))
    exact ⟨this.2, this.1⟩)
  have HAk : Hid (∀ k, k < na - 1 → ∃ y, A[k]? = some y) := hideL (fun k h => ⟨A[k]'(by omega), List.getElem?_eq_getElem (by omega)⟩)
  have HL1 : Hid (∀ (W : World) g, (∀ k y, (A ++ [endT q.length])[k]? = some y → LxAt W g k y) → ∀ k y, A[k]? = some y → LxAt W g k y) := hideL (fun W g h k y e => h k y (by rw [List.getElem?_append_left (List.getElem?_eq_some_iff.1 e).1]; exact e))
  have HL2 : Hid (∀ (W : World) g, (∀ k y, (A.map (shL ma) ++ [endT nn])[k]? = some y → LxAt W g k y) → ∀ k y, A[k]? = some y → LxAt W g k (shL ma y)) := hideL (fun W g h k y e => h k _ (by rw [List.getElem?_append_left (by rw [List.length_map]; exact (List.getElem?_eq_some_iff.1 e).1), List.getElem?_map, e]; rfl))
  have hnab : na ≤ 100000000001 := by omega
  have hna1 : 1 ≤ na := by omega
  generalize bq (smB.take ma ++ q ++ smB.take ma) = s5 at *
  generalize bq (smB.take ma ++ q) = s4 at *
  generalize bq (smB.take ma) = s2 at *
  generalize bq q = s1 at *
  obtain ⟨ql, hql⟩ : ∃ ql, ql = q.length := ⟨_, rfl⟩
  rw [← hql] at z0 z3 hq HA2
  have w1 : s1.size ≤ 100000000000 := by omega
  have w2 : s2.size ≤ 45 := by omega
  have w4 : s4.size ≤ 100000000045 := by omega
  have HZ1 := hideL z1
  clear hC hS hZ hA hM hp1 la a1 a2 a3 hna hql z0 hma  z1 z3
  go_enter Tryd.func14, Tryd.ntmps14
  go_wp2_with (first
    | (go_at_call 6; refine C1.out.mono ?_; clear C1; rintro e W1 ⟨⟨g1, c1, rfl, l1⟩, k1⟩; have K1 := hideL k1; have L1 := hideL (HL1.out W1 g1 l1); clear l1 k1 HL1)
    | (go_at_call 6; refine (C2.out _ K1.out).mono ?_; clear C2; rintro e W2 ⟨⟨g2, c2, rfl, l2⟩, k2⟩; have HW : Hid (Wra w g1 g2 A ma W2) := hideL ⟨K1.out.trans k2 (fun _ f => f.elim), fun k y e => (L1.out k y e).later k2, HL2.out W2 g2 l2⟩; clear l2 k2 K1 L1 HL2))
  clear e1 e2 S1
  go_loopw [13] (fun iv wr => ∃ (k : Nat), k ≤ na - 1 ∧ iv = .int .i64 k ∧ Hid (Wra w g1 g2 A ma wr)) (fun iv _ => na - (intOf iv).toNat)
  case atStart => exact ⟨0, by omega, rfl, HW⟩
  case round =>
    obtain ⟨k, hk, rfl, HR⟩ := hrel
    clear HW
    by_cases hlt : k < na - 1
    · obtain ⟨⟨xk, xt, xn, xa, xe⟩, hy⟩ := HAk.out k hlt
      obtain ⟨ya, ye⟩ := HA2.out k _ hy
      have la := HR.out.a k _ hy
      have lc := HR.out.c k _ hy
      have u1 : (k : Int) < (na : Int) - 1 := by omega
      have u2 : (k : Int) < (na : Int) := by omega
      clear x0 x4
      obtain ⟨x0, x1, x2, x3, x4⟩ := la
      obtain ⟨g0, g1', g2', g3, g4⟩ := lc
      dsimp only [shL] at x0 x1 x2 x3 x4 g0 g1' g2' g3 g4 ya ye
      rw [show ((xa + ma : Nat) : Int) = (xa : Int) + (s2.size : Int) by have := HZ1.out; omega] at g3
      rw [show ((xe + ma : Nat) : Int) = (xe : Int) + (s2.size : Int) by have := HZ1.out; omega] at g4
      have HGC := hideL (show wr.cell? ⟨g2, k * 5, none⟩ = some (.int .i64 (xk : Int)) ∧ wr.cell? ⟨g2, k * 5 + 1, none⟩ = some (.string (bq xt)) ∧ wr.cell? ⟨g2, k * 5 + 2, none⟩ = some (.int .i64 xn) ∧ wr.cell? ⟨g2, k * 5 + 3, none⟩ = some (.int .i64 ((xa : Int) + (s2.size : Int))) ∧ wr.cell? ⟨g2, k * 5 + 4, none⟩ = some (.int .i64 ((xe : Int) + (s2.size : Int))) from ⟨g0, g1', g2', g3, g4⟩)
      clear g0 g1' g2' g3 g4 hy
      go_wp2_with fail
      have HV := hideL (HR.out.later (Kept.alloc wr (.cells #[.int .i64 (xk : Int), .string (bq xt), .int .i64 xn, .int .i64 ((xa : Int) + (s2.size : Int)), .int .i64 ((xe : Int) + (s2.size : Int))] 41)))
      obtain ⟨d0, d1, d2, d3, d4⟩ := lx_new wr (.int .i64 (xk : Int)) (.string (bq xt)) (.int .i64 xn) (.int .i64 ((xa : Int) + (s2.size : Int))) (.int .i64 ((xe : Int) + (s2.size : Int)))
      have KA := Kept.alloc wr (.cells #[.int .i64 (xk : Int), .string (bq xt), .int .i64 xn, .int .i64 ((xa : Int) + (s2.size : Int)), .int .i64 ((xe : Int) + (s2.size : Int))] 41)
      obtain ⟨h0, h1, h2, h3, h4⟩ := HGC.out
      have g0 := KA.cell h0 (fun f => f)
      have g1' := KA.cell h1 (fun f => f)
      have g2' := KA.cell h2 (fun f => f)
      have g3 := KA.cell h3 (fun f => f)
      have g4 := KA.cell h4 (fun f => f)
      clear HGC h0 h1 h2 h3 h4
      clear KA x0 x1 x2 x3 x4 HR
      generalize wr.alloc (.cells #[.int .i64 (xk : Int), .string (bq xt), .int .i64 xn, .int .i64 ((xa : Int) + (s2.size : Int)), .int .i64 ((xe : Int) + (s2.size : Int))] 41) = V at *
      generalize wr.heap.size = b9 at *
      go_quiet (fail)
      have HX := hideL (HV.out.later (Kept.drewL V nq))
      generalize V.drewN nq = V9 at *
      clear HV d0 d1 d2 d3 d4 g0 g1' g2' g3 g4
      go_wp2_with fail
      go_roundw
      case rel => exact ⟨k + 1, by omega, by go_num, HX⟩
      case measure => simp [intOf] <;> omega
    · have u1 : ¬ (k : Int) < (na : Int) - 1 := by omega
      have HF := hideL HR.out.kept
      clear HR
      go_wp2
      go_ret
      exact ⟨rfl, HF.out⟩
theorem wrapped_any (q : List UInt8) (w : World) (ad : Addr) (hC : ClsAt w) (hS : SynAt w ad) (hq : q.length ≤ 100000000000) (hZ : (scanF q).2 = none) (x y : Int) :
    Calls Tryd.prog 14 #[.string (bq q), .int .i64 x, .int .i64 y] w fun e w' => e = .returned (.bool true) ∧ Kept (fun _ => False) w w' := by
  by_cases h : x < 0 ∨ y < 0 ∨ 50 < x ∨ 50 < y
  · exact wrapped_out q w ad hC hS (by omega) hZ x y h
  · by_cases hx : 45 < x
    · by_cases hy : 45 < y
      · exact wrapped_hihi q w ad hC hS hq hZ x (by omega) hx y (by omega) hy
      · obtain ⟨j, rfl⟩ : ∃ j : Nat, y = (j : Int) := ⟨y.toNat, by omega⟩
        exact wrapped_hilo q w ad hC hS hq hZ x (by omega) hx j (by omega)
    · obtain ⟨i, rfl⟩ : ∃ i : Nat, x = (i : Int) := ⟨x.toNat, by omega⟩
      by_cases hy : 45 < y
      · exact wrapped_lohi q w ad hC hS hq hZ i (by omega) y (by omega) hy
      · obtain ⟨j, rfl⟩ : ∃ j : Nat, y = (j : Int) := ⟨y.toNat, by omega⟩
        exact wrapped_lolo q w ad hC hS hq hZ i (by omega) j (by omega)
end Go.Proofs.YtakjaablankipaaDoor
