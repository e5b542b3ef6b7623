import Derived.Test.YtofompjnjbpkbaaDoorLyo
namespace Go.Proofs.YtofompjnjbpkbaaDoor
open Go.ChangeShapes Go.WideShapes Go.ChangeAt Go.RowKit

theorem scan_list (l : List UInt8) (L : List Lx) (n : Nat) (w : World) (ad : Addr) (hC : ClsAt w) (hS : SynAt w ad) (hl : l.length ≤ 400000000000) (h : scanF l = (L, none)) (hn : n = L.length) (h0 : 0 < n) :
    Calls Tryd.prog 9 #[.string (bq l)] w fun x w' => (∃ g c, x = .returned (.tuple #[.slice (some ⟨g, 0, none⟩) n c, .int .i64 0, .nilIface]) ∧ ∀ k y, L[k]? = some y → LxAt w' g k y) ∧ Kept (fun _ => False) w w' := by
  refine (scan_none l w ad hC hS hl (by rw [h])).mono ?_
  rintro x w' ⟨⟨a, c, m, rfl, hT⟩, hk⟩
  rw [h] at hT
  have hm : m = n := by rw [hn]; exact hT.len
  subst hm
  obtain ⟨g, rfl, hc⟩ := hT.ats h0
  refine ⟨⟨g, c, rfl, fun k y hy => ?_⟩, hk⟩
  obtain ⟨hk2, e⟩ := List.getElem?_eq_some_iff.1 hy
  rw [← e]
  exact hc k hk2
/-- The lists in the loop. -/
structure Bes (w4 : World) (ga gb gc : Nat) (A B : List Lx) (d : Nat) (W : World) : Prop where
  kept : Kept (fun _ => False) w4 W
  a : ∀ k y, A[k]? = some y → LxAt W ga k y
  b : ∀ k y, B[k]? = some y → LxAt W gb k y
  c : ∀ k y, (A ++ B.map (shL d))[k]? = some y → LxAt W gc k y
theorem Bes.later {w4 : World} {ga gb gc : Nat} {A B : List Lx} {d : Nat} {W W' : World} (h : Bes w4 ga gb gc A B d W) (k : Kept (fun _ => False) W W') : Bes w4 ga gb gc A B d W' :=
  ⟨h.kept.trans k (fun _ f => f.elim), fun i y e => (h.a i y e).later k, fun i y e => (h.b i y e).later k, fun i y e => (h.c i y e).later k⟩
theorem Bes.one {w4 : World} {ga gb gc : Nat} {A B : List Lx} {d : Nat} {W : World} (h : Bes w4 ga gb gc A B d W) (i : Nat) (hi : i < A.length) : ∃ x, LxAt W ga i x ∧ LxAt W gc i x ∧ x ∈ A :=
  ⟨A[i], h.a i _ (List.getElem?_eq_getElem hi), h.c i _ (by rw [List.getElem?_append_left hi, List.getElem?_eq_getElem hi]), List.getElem_mem hi⟩
theorem Bes.two {w4 : World} {ga gb gc : Nat} {A B : List Lx} {d : Nat} {W : World} (h : Bes w4 ga gb gc A B d W) (j : Nat) (hj : j < B.length) : ∃ x, LxAt W gb j x ∧ LxAt W gc (j + A.length) (shL d x) ∧ x ∈ B :=
  ⟨B[j], h.b j _ (List.getElem?_eq_getElem hj), h.c _ _ (by rw [List.getElem?_append_right (by omega), Nat.add_sub_cancel, List.getElem?_map, List.getElem?_eq_getElem hj]; rfl), List.getElem_mem hj⟩
theorem lx_new (w : World) (v0 v1 v2 v3 v4 : Value) : (w.alloc (.cells #[v0, v1, v2, v3, v4] 34)).cell? ⟨w.heap.size, 0, none⟩ = some v0 ∧ (w.alloc (.cells #[v0, v1, v2, v3, v4] 34)).cell? ⟨w.heap.size, 1, none⟩ = some v1 ∧ (w.alloc (.cells #[v0, v1, v2, v3, v4] 34)).cell? ⟨w.heap.size, 2, none⟩ = some v2 ∧ (w.alloc (.cells #[v0, v1, v2, v3, v4] 34)).cell? ⟨w.heap.size, 3, none⟩ = some v3 ∧ (w.alloc (.cells #[v0, v1, v2, v3, v4] 34)).cell? ⟨w.heap.size, 4, none⟩ = some v4 := by
  refine ⟨?_, ?_, ?_, ?_, ?_⟩ <;> (rw [World.cell?_alloc_new]; rfl)
set_option maxRecDepth 20000 in
set_option maxHeartbeats 4000000 in
theorem beside_good (p q : List UInt8) (w : World) (ad : Addr) (hC : ClsAt w) (hS : SynAt w ad) (hp : p.length ≤ 100000000000) (hq : q.length ≤ 100000000000) (hZ : (scanF p).2 = none) (hQ : (scanF q).2 = none) :
    Calls Tryd.prog 6 #[.string (bq p), .string (bq q)] w fun e w' => e = .returned (.bool true) ∧ Kept (fun _ => False) w w' := by
  have CV := hideL (lives13_any w ad hC hS)
  obtain ⟨A, hA, hAB⟩ := scan_beside p q hZ
  obtain ⟨B, hB⟩ : ∃ B, B = (scanF q).1 := ⟨_, rfl⟩
  have hp1 : scanF p = (A ++ [endT p.length], none) := by rw [← hA, ← hZ]
  have hq1 : scanF q = (B, none) := by rw [hB, ← hQ]
  rw [hQ, ← hB] at hAB
  have hAC : scanF (p ++ 32 :: q) = (A ++ B.map (shL (p.length + 1)), none) := hAB
  clear hAB
  obtain ⟨b0, b1, b2⟩ := scan_pos q hQ
  obtain ⟨a0, a1, a2⟩ := scan_pos p hZ
  rw [← hB] at b0 b1 b2
  rw [hA, List.length_append] at a1
  have a3 : A.length + 1 ≤ p.length + 1 := a1
  clear a1
  obtain ⟨na, hna⟩ : ∃ na, na = A.length + 1 := ⟨_, rfl⟩
  obtain ⟨nb, hnb⟩ : ∃ nb, nb = B.length := ⟨_, rfl⟩
  obtain ⟨nc, hnc⟩ : ∃ nc, nc = A.length + nb := ⟨_, rfl⟩
  have C1 := hideL (fun W (k : Kept (fun _ => False) w W) => scan_list p _ na W ad (hC.later k) (hS.later k) (by omega) hp1 (by rw [hna, List.length_append]; rfl) (by omega))
  have C2 := hideL (fun W (k : Kept (fun _ => False) w W) => scan_list q B nb W ad (hC.later k) (hS.later k) (by omega) hq1 hnb (by omega))
  have C3 := hideL (fun W (k : Kept (fun _ => False) w W) => scan_list (p ++ 32 :: q) _ nc W ad (hC.later k) (hS.later k) (by rw [List.length_append, List.length_cons]; omega) hAC (by rw [hnc, hnb, List.length_append, List.length_map]) (by omega))
  have HB2 := hideL b2
  have e1 := bq_space p
  have e2 := bq_spaceq p q
  have z1 : (bq p).size = p.length := bq_size p
  have z2 : (bq q).size = q.length := bq_size q
  have z3 : (bq (p ++ [32])).size = p.length + 1 := by rw [bq_size, List.length_append]; rfl
  have y1 : (bq p).size ≤ 100000000000 := by omega
  have y2 : (bq q).size ≤ 100000000000 := by omega
  have y3 : (bq (p ++ [32])).size ≤ 100000000001 := by omega
  have HN1 := hideL (show na = A.length + 1 ∧ nb = B.length ∧ nc = A.length + nb from ⟨hna, hnb, hnc⟩)
  have HZ1 := hideL z1
  have nab : na ≤ 100000000001 := by omega
  have nbb : nb ≤ 100000000001 := by omega
  have nab0 : 0 < na := by omega
  have nbb0 : 0 < nb := by omega
  have t1 : ((na : Int) == 0) = false := by rw [beq_eq_false_iff_ne]; omega
  have t2 : ((nb : Int) == 0) = false := by rw [beq_eq_false_iff_ne]; omega
  have t3 : (na : Int) + (nb : Int) - 1 = (nc : Int) := by omega
  have HT3 := hideL t3
  have t4 : ((nc : Int) != (na : Int) + (nb : Int) - 1) = false := by rw [t3]; simp
  have HQL : Hid (q.length ≤ 100000000000) := hideL hq
  generalize bq (p ++ 32 :: q) = v2 at *
  generalize bq (p ++ [32]) = v1 at *
  generalize bq p = s at *
  generalize bq q = t at *
  clear hC hS hZ z1 z2 z3 hQ hA hAC hp1 hq1 hB b0 b1 b2 a0 a2 a3 hna hnb hnc t3
  go_enter Tryd.func6, Tryd.ntmps6
  go_wp2_with (first
    | (go_at_call 8; refine CV.out.mono ?_; clear CV; rintro x W1 ⟨rfl, k1⟩; have K1 := hideL k1; clear k1)
    | (go_at_call 9; refine (C1.out _ K1.out).mono ?_; clear C1; rintro x W2 ⟨⟨ga, c2, rfl, l2⟩, k2⟩; have K2 := hideL (K1.out.trans k2 (fun _ f => f.elim)); have L2 := hideL l2; clear K1 k2 l2)
    | (go_at_call 9; refine (C2.out _ K2.out).mono ?_; clear C2; rintro x W3 ⟨⟨gb, c3, rfl, l3⟩, k3⟩; have K3 := hideL (K2.out.trans k3 (fun _ f => f.elim)); have L3 := hideL l3; have K23 := hideL k3; clear K2 k3 l3)
    | (go_at_call 9; refine (C3.out _ K3.out).mono ?_; clear C3; rintro x W4 ⟨⟨gc, c4, rfl, l4⟩, k4⟩; have K4 := hideL (K3.out.trans k4 (fun _ f => f.elim)); have HBE : Hid (Bes W4 ga gb gc A B (p.length + 1) W4) := hideL ⟨Kept.refl _ _, fun k y e => ((L2.out k y (by rw [List.getElem?_append_left (List.getElem?_eq_some_iff.1 e).1]; exact e)).later K23.out).later k4, fun k y e => (L3.out k y e).later k4, l4⟩; clear K3 k4 l4 L2 L3 K23))
  clear e1 e2 t1 t2 t4
  have HK4 := hideL K4.out
  clear K4
  go_loopw [80] (fun i wr => ∃ (k : Nat), k ≤ nc ∧ i = .int .i64 k ∧ Hid (Bes W4 ga gb gc A B (p.length + 1) wr)) (fun i _ => nc - (intOf i).toNat)
  case atStart => exact ⟨0, by omega, rfl, HBE⟩
  case round =>
    obtain ⟨k, hk, rfl, HR⟩ := hrel
    clear HBE
    by_cases hlt : k < nc
    · have hkz : (k : Int) < (nc : Int) := by omega
      by_cases hka : k + 1 < na
      · have hkA : k < A.length := by have := HN1.out; omega
        obtain ⟨x, la, lc, -⟩ := HR.out.one k hkA
        have u1 : (k : Int) < (na : Int) - 1 := by omega
        have u2 : (k : Int) < (na : Int) := by omega
        obtain ⟨x0, x1, x2, x3, x4⟩ := la.later (Kept.alloc wr (.cells #[.int .i64 0, .string ⟨#[]⟩, .int .i64 0, .int .i64 0, .int .i64 0] 34))
        have HLC := hideL lc
        obtain ⟨xk, xt, xn, xa, xe⟩ := x
        dsimp only at x0 x1 x2 x3 x4
        clear lc
        go_wp2_with fail
        have HV := hideL (HR.out.later (Kept.alloc wr (.cells #[.int .i64 (xk : Int), .string (bq xt), .int .i64 xn, .int .i64 (xa : Int), .int .i64 (xe : Int)] 34)))
        obtain ⟨d0, d1, d2, d3, d4⟩ := lx_new wr (.int .i64 (xk : Int)) (.string (bq xt)) (.int .i64 xn) (.int .i64 (xa : Int)) (.int .i64 (xe : Int))
        have KA := Kept.alloc wr (.cells #[.int .i64 (xk : Int), .string (bq xt), .int .i64 xn, .int .i64 (xa : Int), .int .i64 (xe : Int)] 34)
        obtain ⟨g0, g1, g2, g3, g4⟩ := HLC.out.later KA
        dsimp only at g0 g1 g2 g3 g4
        clear HLC
        clear KA x0 x1 x2 x3 x4 HR
        generalize wr.alloc (.cells #[.int .i64 (xk : Int), .string (bq xt), .int .i64 xn, .int .i64 (xa : Int), .int .i64 (xe : Int)] 34) = V at *
        generalize wr.heap.size = b9 at *
        go_quiet (fail)
        have HW := hideL (HV.out.later (Kept.drewL V nq))
        generalize V.drewN nq = V9 at *
        clear HV d0 d1 d2 d3 d4 g0 g1 g2 g3 g4
        go_wp2_with fail
        go_roundw
        case rel => exact ⟨k + 1, by omega, by go_num, HW⟩
        case measure => simp [intOf] <;> omega
      · have hkA : A.length ≤ k := by have := HN1.out; omega
        obtain ⟨j, hj⟩ : ∃ j, k = j + A.length := ⟨k - A.length, by omega⟩
        have hjB : j < B.length := by have := HN1.out; omega
        have hjb : j < nb := by have := HN1.out; omega
        obtain ⟨x, lb, lc, hx⟩ := HR.out.two j hjB
        rw [← hj] at lc
        obtain ⟨xe9, xa9⟩ := HB2.out x hx
        have hqq := HQL.out
        have u1 : ¬ (k : Int) < (na : Int) - 1 := by omega
        have u2 : (k : Int) - (na : Int) + 1 = (j : Int) := by have := HN1.out; omega
        have u3 : (j : Int) < (nb : Int) := by omega
        have hkb : k ≤ 300000000000 := by have := HN1.out; omega
        obtain ⟨x0, x1, x2, x3, x4⟩ := lb.later (Kept.alloc wr (.cells #[.int .i64 0, .string ⟨#[]⟩, .int .i64 0, .int .i64 0, .int .i64 0] 34))
        obtain ⟨g0, g1, g2, g3, g4⟩ := lc
        have HZ2 := HZ1.out
        obtain ⟨xk, xt, xn, xa, xe⟩ := x
        dsimp only [shL] at x0 x1 x2 x3 x4 g0 g1 g2 g3 g4 xe9 xa9
        rw [show ((xa + (p.length + 1) : Nat) : Int) = (xa : Int) + ((s.size : Int) + 1) by omega] at g3
        rw [show ((xe + (p.length + 1) : Nat) : Int) = (xe : Int) + ((s.size : Int) + 1) by omega] at g4
        have HGC := hideL (show wr.cell? ⟨gc, k * 5, none⟩ = some (.int .i64 (xk : Int)) ∧ wr.cell? ⟨gc, k * 5 + 1, none⟩ = some (.string (bq xt)) ∧ wr.cell? ⟨gc, k * 5 + 2, none⟩ = some (.int .i64 xn) ∧ wr.cell? ⟨gc, k * 5 + 3, none⟩ = some (.int .i64 ((xa : Int) + ((s.size : Int) + 1))) ∧ wr.cell? ⟨gc, k * 5 + 4, none⟩ = some (.int .i64 ((xe : Int) + ((s.size : Int) + 1))) from ⟨g0, g1, g2, g3, g4⟩)
        have hxa : xa ≤ 100000000000 := by omega
        have hxe : xe ≤ 100000000000 := by omega
        clear g0 g1 g2 g3 g4 hkA hjB hx xe9 xa9 hqq HZ2 hka hjb hj
        go_wp2_with fail
        have HV := hideL (HR.out.later (Kept.alloc wr (.cells #[.int .i64 (xk : Int), .string (bq xt), .int .i64 xn, .int .i64 ((xa : Int) + ((s.size : Int) + 1)), .int .i64 ((xe : Int) + ((s.size : Int) + 1))] 34)))
        obtain ⟨d0, d1, d2, d3, d4⟩ := lx_new wr (.int .i64 (xk : Int)) (.string (bq xt)) (.int .i64 xn) (.int .i64 ((xa : Int) + ((s.size : Int) + 1))) (.int .i64 ((xe : Int) + ((s.size : Int) + 1)))
        have KA := Kept.alloc wr (.cells #[.int .i64 (xk : Int), .string (bq xt), .int .i64 xn, .int .i64 ((xa : Int) + ((s.size : Int) + 1)), .int .i64 ((xe : Int) + ((s.size : Int) + 1))] 34)
        obtain ⟨h0, h1, h2, h3, h4⟩ := HGC.out
        have g0 := KA.cell h0 (fun f => f)
        have g1 := KA.cell h1 (fun f => f)
        have g2 := KA.cell h2 (fun f => f)
        have g3 := KA.cell h3 (fun f => f)
        have g4 := KA.cell h4 (fun f => f)
        clear HGC h0 h1 h2 h3 h4
        clear KA x0 x1 x2 x3 x4 HR
        generalize wr.alloc (.cells #[.int .i64 (xk : Int), .string (bq xt), .int .i64 xn, .int .i64 ((xa : Int) + ((s.size : Int) + 1)), .int .i64 ((xe : Int) + ((s.size : Int) + 1))] 34) = V at *
        generalize wr.heap.size = b9 at *
        go_quiet (fail)
        have HW := hideL (HV.out.later (Kept.drewL V nq))
        generalize V.drewN nq = V9 at *
        clear HV d0 d1 d2 d3 d4 g0 g1 g2 g3 g4
        go_wp2_with fail
        go_roundw
        case rel => exact ⟨k + 1, by omega, by go_num, HW⟩
        case measure => simp [intOf] <;> omega
    · obtain rfl : k = nc := by omega
      have HF := hideL (HK4.out.trans HR.out.kept (fun _ f => f.elim))
      clear HR HK4
      go_wp2
      go_ret
      exact ⟨rfl, HF.out⟩
theorem beside_all (p q : List UInt8) (w : World) (hC : ClsAt w) (hS : ∃ ad, SynAt w ad) (hp : p.length ≤ 100000000000) (hq : q.length ≤ 100000000000) :
    Calls Tryd.prog 6 #[.string (bq p), .string (bq q)] w fun e w' => e = .returned (.bool true) ∧ Kept (fun _ => False) w w' := by
  obtain ⟨ad, hS⟩ := hS
  cases hZ : (scanF p).2 with
  | some f => exact beside_bad p q w ad hC hS hp hq f hZ
  | none =>
    cases hQ : (scanF q).2 with
    | some f => exact beside_far p q w ad hC hS hp hq hZ f hQ
    | none => exact beside_good p q w ad hC hS hp hq hZ hQ
end Go.Proofs.YtofompjnjbpkbaaDoor
