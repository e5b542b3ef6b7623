import Derived.Test.YtjmmdklgkcbihaaDoorMrg6
import Derived.Test.YtjmmdklgkcbihaaDoorKwj
import Derived.Test.YtjmmdklgkcbihaaDoorLive
import Derived.Deep.DeepCutAuto
namespace Go.Proofs.YtjmmdklgkcbihaaDoor
open Go.ChangeShapes Go.WideShapes Go.ChangeAt Go.RowKit

/-- What is known at the head of the law's loop. -/
structure Rl (w W : World) (k : Nat) (o : Nat → Nat) (bR : Nat → Nat) (rv : Nat → Value) (l : Nat → List Int) (pR : Nat → Nat) (gr gd : Nat) (vd : Nat → Value) (ga kb : Nat) (vB vI : Value) (V I : List Value) (LB LI : List (List Int)) : Prop where
  r0 : R0 w W o bR rv l pR gr gd vd ga pR
  bq : Bq W o kb vB vI V I LB LI
  nV : V.length ≤ k
  nI : I.length ≤ k
theorem Rl.later {w W W' : World} {k : Nat} {o : Nat → Nat} {bR : Nat → Nat} {rv : Nat → Value} {l : Nat → List Int} {pR : Nat → Nat} {gr gd : Nat} {vd : Nat → Value} {ga kb : Nat} {vB vI : Value} {V I : List Value} {LB LI : List (List Int)} (h : Rl w W k o bR rv l pR gr gd vd ga kb vB vI V I LB LI) (q : Kept (fun _ => False) W W') : Rl w W' k o bR rv l pR gr gd vd ga kb vB vI V I LB LI := ⟨h.r0.later q, h.bq.later q, h.nV, h.nI⟩
theorem Rl.fresh {w W W' : World} {k : Nat} {o : Nat → Nat} {bR : Nat → Nat} {rv : Nat → Value} {l : Nat → List Int} {pR : Nat → Nat} {gr gd : Nat} {vd : Nat → Value} {ga kb : Nat} {vB vI : Value} {V I : List Value} {LB LI : List (List Int)} (h : Rl w W k o bR rv l pR gr gd vd ga kb vB vI V I LB LI) (q : Kept (fun _ => False) W W') (c : Nat) : Rl w W' k (newK W.heap.size c o) bR rv l pR gr gd vd ga kb vB vI V I LB LI := ⟨h.r0.keep q (fun _ f => f.elim) _ (fun _ hq => newK_old hq), h.bq.keep q (fun _ f => f.elim) _ (fun _ hq => newK_old hq), h.nV, h.nI⟩
theorem Rl.next {w W : World} {k : Nat} {o : Nat → Nat} {bR : Nat → Nat} {rv : Nat → Value} {l : Nat → List Int} {pR : Nat → Nat} {gr gd : Nat} {vd : Nat → Value} {ga kb : Nat} {vB vI : Value} {V I : List Value} {LB LI : List (List Int)} (h : Rl w W k o bR rv l pR gr gd vd ga kb vB vI V I LB LI) : Rl w W (k + 1) o bR rv l pR gr gd vd ga kb vB vI V I LB LI := ⟨h.r0, h.bq, Nat.le_trans h.nV (Nat.le_succ _), Nat.le_trans h.nI (Nat.le_succ _)⟩
/-- What asked and told leave, in their two blocks. -/
def AskD (w W : World) (k : Nat) (bR : Nat → Nat) (rv : Nat → Value) (l : Nat → List Int) (pR pA : Nat → Nat) (gr gd : Nat) (vd : Nat → Value) (ga kb : Nat) (Rk : Lk) (nl g22 g23 : Nat) : Prop := ∃ (aY : Option Addr) (cY : Nat) (aT : Option Addr) (cT : Nat) (o : Nat → Nat) (vB vI : Value) (V I : List Value) (LB LI : List (List Int)), W.heap[g22]? = some (.cells #[.int .u64 Rk.u, .string (strOfNums Rk.t), .slice aY nl cY, .int .i64 (Rk.nx : Int), .int .i64 (Rk.e : Int)] 60 (0, 0)) ∧ W.heap[g23]? = some (.cells #[.int .u64 Rk.u, .string (strOfNums Rk.t), .slice aT nl cT, .int .i64 (Rk.nx : Int), .int .i64 (Rk.e : Int)] 60 (0, 0)) ∧ IntsAt W aY Rk.ls ∧ IntsAt W aT Rk.ls ∧ R0 w W o bR rv l pR gr gd vd ga pA ∧ Bq W o kb vB vI V I LB LI ∧ V.length ≤ k + 1 ∧ I.length ≤ k + 1
set_option maxRecDepth 20000 in
set_option maxHeartbeats 32000000 in
/-- The law CodecReads. -/
theorem reads_walk (bm im : Nat → Nat → Int) (hbm : BmI bm) (him : BmII im) (B C : List Int) (ba ca : Option Addr) (bc cc : Nat) (S : List OpD) (sa : Option Addr) (sc : Nat) (ad : Nat → Addr) (w : World) (hB : BytesAt w ba B) (hBI : IsBytes B) (hBl : B.length ≤ 1048576) (hBz : ba = none → bc = 0) (hC : BytesAt w ca C) (hCI : IsBytes C) (hCl : C.length ≤ 1048576) (hCz : ca = none → cc = 0) (hS : OpsAt w sa S) (hO : ∀ o ∈ S, o.AtK w) (htot : S.length ≤ 1048575) (hE : Es8K w ad) :
    Calls Tryd.prog 4 #[.slice ba B.length bc, .slice ca C.length cc, .slice sa S.length sc] w fun e w' => e = .returned (.bool true) ∧ Kept (fun _ => False) w w' := by
  have LV := hideH (lives_any (ad 0) (ad 1) w hE.s0.var hE.s1.var)
  have BM := hideH hbm
  have IM := hideH him
  have HS := hideH hS
  have HO := hideH hO
  have HE := hideH hE
  have HB := hideH hB
  have HC := hideH hC
  have HBI := hideH hBI
  have HCI := hideH hCI
  have HBZ := hideH hBz
  have HCZ := hideH hCz
  obtain ⟨N, hN⟩ : ∃ N, N = S.length := ⟨_, rfl⟩
  obtain ⟨nB, hnB⟩ : ∃ n, n = B.length := ⟨_, rfl⟩
  obtain ⟨nC, hnC⟩ : ∃ n, n = C.length := ⟨_, rfl⟩
  rw [← hN] at htot ⊢
  rw [← hnB] at hBl ⊢
  rw [← hnC] at hCl ⊢
  have HN := hideH hN
  have HNB := hideH hnB
  have HNC := hideH hnC
  clear hbm him hS hO hE hB hC hBI hCI hBz hCz hN hnB hnC
  go_enter Tryd.func4, Tryd.ntmps4
  go_wp2_with (go_at_call 5; refine StpH.go ?_)
  refine ⟨?_⟩
  refine LV.out.mono ?_
  clear LV
  rintro e W1 ⟨rfl, k1⟩
  have CH := hideH (handB_any B ba nB bc W1 HNB.out (HB.out.laterK k1) HBZ.out (by omega))
  have HK1 := hideH k1
  clear k1
  go_wp2_with (go_at_call 13; refine StpH.go ?_)
  refine ⟨?_⟩
  refine CH.out.mono ?_
  clear CH
  rintro e W2 ⟨h1, f1, cf1, q1, cq1, rfl, hd1, l1, l2, l3, k2⟩
  have kw2 := HK1.out.trans k2 (fun _ f => f.elim)
  have CH := hideH (handB_any C ca nC cc W2 HNC.out (HC.out.laterK kw2) HCZ.out (by omega))
  obtain ⟨m1, m2, m3⟩ := hd1.lts
  have HD1 := hideH hd1
  have HK2 := hideH kw2
  have s12 := HK1.out.size
  clear k2 kw2 hd1 HK1
  go_wp2_with (go_at_call 13; refine StpH.go ?_)
  refine ⟨?_⟩
  refine CH.out.mono ?_
  clear CH
  rintro e W3 ⟨h2, f2, cf2, q2, cq2, rfl, hd2, l4, l5, l6, k3⟩
  have hd1 := HD1.out.later k3
  obtain ⟨m4, m5, m6⟩ := hd2.lts
  have CG := hideH (give_any h1 f1 cf1 q1 cq1 nB (B ++ hrm 80) W3 hd1)
  have HK3 := hideH (HK2.out.trans k3 (fun _ f => f.elim))
  have HD1' := hideH hd1
  have HD2 := hideH hd2
  clear k3 hd1 hd2 HD1 HK2
  go_wp2_with (go_at_call 15; refine StpH.go ?_)
  refine ⟨?_⟩
  refine CG.out.mono ?_
  clear CG
  rintro e W4 ⟨rfl, k4⟩
  have hd1 := HD1'.out.later k4
  have hd2 := HD2.out.later k4
  have eB : (B ++ hrm 80).take nB = B := by rw [HNB.out]; exact List.take_left' rfl
  have eC : (C ++ hrm 80).take nC = C := by rw [HNC.out]; exact List.take_left' rfl
  have CR : Hid (Calls Tryd.prog 14 #[.slice (some ⟨f1, 0, none⟩) nB cf1] W4 fun e w' => ∃ br v, e = .returned (.pointer (some ⟨br, 0, none⟩)) ∧ Rd w' br v B 0 ∧ W4.heap.size ≤ br ∧ (∀ k, v.ownBlock = some k → W4.heap.size ≤ k) ∧ Kept (fun _ => False) W4 w') := hideH (by rw [HNB.out]; exact newr_any B _ cf1 W4 (by have q := hd1.bytesK; rw [eB] at q; exact q) HBI.out (by rw [← HNB.out]; omega))
  have HK4 := hideH (HK3.out.trans k4 (fun _ f => f.elim))
  have HD1 := hideH hd1
  have HD2' := hideH hd2
  have HEB := hideH eB
  have HEC := hideH eC
  have s34 := k4.size
  clear k4 hd1 hd2 HK3 HD1' HD2 eB eC
  go_wp2_with (go_at_call 14; refine StpH.go ?_)
  refine ⟨?_⟩
  refine CR.out.mono ?_
  clear CR
  rintro e W5 ⟨b1, u1, rfl, hr1, lb1, lu1, k5⟩
  have hd1 := HD1.out.later k5
  have hd2 := HD2'.out.later k5
  have CG := hideH (give_any h2 f2 cf2 q2 cq2 nC (C ++ hrm 80) W5 hd2)
  have HK5 := hideH (HK4.out.trans k5 (fun _ f => f.elim))
  have HD1' := hideH hd1
  have HD2 := hideH hd2
  have HR1 := hideH hr1
  have ub1 : b1 < W5.heap.size := lt_of_block hr1.blk
  have HU1 : Hid (∀ k, u1.ownBlock = some k → W4.heap.size ≤ k ∧ k < W5.heap.size) := hideH (fun k e => ⟨lu1 k e, (hr1.own.lt k e).2⟩)
  have s45 := k5.size
  clear k5 hd1 hd2 hr1 lu1 HK4 HD1 HD2'
  go_wp2_with (go_at_call 15; refine StpH.go ?_)
  refine ⟨?_⟩
  refine CG.out.mono ?_
  clear CG
  rintro e W6 ⟨rfl, k6⟩
  have hd1 := HD1'.out.later k6
  have hd2 := HD2.out.later k6
  have CR : Hid (Calls Tryd.prog 14 #[.slice (some ⟨f2, 0, none⟩) nC cf2] W6 fun e w' => ∃ br v, e = .returned (.pointer (some ⟨br, 0, none⟩)) ∧ Rd w' br v C 0 ∧ W6.heap.size ≤ br ∧ (∀ k, v.ownBlock = some k → W6.heap.size ≤ k) ∧ Kept (fun _ => False) W6 w') := hideH (by rw [HNC.out]; exact newr_any C _ cf2 W6 (by have q := hd2.bytesK; rw [HEC.out] at q; exact q) HCI.out (by rw [← HNC.out]; omega))
  have HK6 := hideH (HK5.out.trans k6 (fun _ f => f.elim))
  have HR1' := hideH (HR1.out.kept k6 (fun f => f) (fun _ _ f => f))
  have HD1 := hideH hd1
  have HD2' := hideH hd2
  have s56 := k6.size
  clear k6 hd1 hd2 HK5 HD1' HD2 HR1
  go_wp2_with (go_at_call 14; refine StpH.go ?_)
  refine ⟨?_⟩
  refine CR.out.mono ?_
  clear CR
  rintro e W7 ⟨b2, u2, rfl, hr2, lb2, lu2, k7⟩
  have ka := Kept.alloc W7 (.cells #[.pointer (some ⟨b1, 0, none⟩), .pointer (some ⟨b2, 0, none⟩)] 46)
  obtain ⟨W8, hW8⟩ : ∃ W, W = W7.alloc (.cells #[.pointer (some ⟨b1, 0, none⟩), .pointer (some ⟨b2, 0, none⟩)] 46) := ⟨_, rfl⟩
  have hgr : W8.heap[W7.heap.size]? = some (.cells #[.pointer (some ⟨b1, 0, none⟩), .pointer (some ⟨b2, 0, none⟩)] 46 (0, 0)) := by rw [hW8]; exact heap_alloc_new W7 _
  rw [← hW8] at ka
  have z8 : W8.heap.size = W7.heap.size + 1 := by rw [hW8]; exact size_allocK _ _
  have k78 := k7.trans ka (fun _ f => f.elim)
  have hd1 := HD1.out.later k78
  have hd2 := HD2'.out.later k78
  have CS1 := hideH (sameH_any h1 f1 cf1 q1 cq1 nB (B ++ hrm 80) W8 hd1)
  have CS2 : Hid (∀ W, Kept (fun _ => False) W8 W → Calls Tryd.prog 16 #[.pointer (some ⟨h2, 0, none⟩)] W fun e w' => e = .returned (.bool true) ∧ Kept (fun _ => False) W w') := hideH (fun W k => sameH_any h2 f2 cf2 q2 cq2 nC (C ++ hrm 80) W (hd2.later k))
  have HK8 := hideH (HK6.out.trans k78 (fun _ f => f.elim))
  have HR1 := hideH (HR1'.out.kept k78 (fun f => f) (fun _ _ f => f))
  have HR2 := hideH (hr2.kept ka (fun f => f) (fun _ _ f => f))
  have ub2 : b2 < W7.heap.size := lt_of_block hr2.blk
  have HU2 : Hid (∀ k, u2.ownBlock = some k → W6.heap.size ≤ k ∧ k < W7.heap.size) := hideH (fun k e => ⟨lu2 k e, (hr2.own.lt k e).2⟩)
  have HGR := hideH hgr
  have HD1' := hideH hd1
  have HD2 := hideH hd2
  have gc0 : W8.cell? ⟨W7.heap.size, 0, none⟩ = some (.pointer (some ⟨b1, 0, none⟩)) := by rw [cell_of_row _ _ 0 _ _ _ hgr]; rfl
  have gc1 : W8.cell? ⟨W7.heap.size, 1, none⟩ = some (.pointer (some ⟨b2, 0, none⟩)) := by rw [cell_of_row _ _ 1 _ _ _ hgr]; rfl
  have s67 := k7.size
  clear k7 ka k78 hd1 hd2 hr2 lu2 hgr HK6 HR1' HD1 HD2'
  rw [hW8] at gc0 gc1
  go_wp2_with (go_at_call 16; refine StpH.go ?_)
  rw [← hW8]
  refine ⟨?_⟩
  refine CS1.out.mono ?_
  clear CS1 gc0 gc1 hW8
  rintro e W9 ⟨rfl, k9⟩
  have C := hideH (CS2.out W9 k9)
  have HK89 := hideH k9
  clear k9 CS2
  go_wp2_with (go_at_call 16; refine StpH.go ?_)
  refine ⟨?_⟩
  refine C.out.mono ?_
  clear C
  rintro e W10 ⟨rfl, k10⟩
  have k810 := HK89.out.trans k10 (fun _ f => f.elim)
  have hd1 := HD1'.out.later k810
  have hd2 := HD2.out.later k810
  have C := hideH (spoil_any h1 f1 cf1 q1 cq1 nB (B ++ hrm 80) W10 hd1 (by omega))
  have HD2' := hideH hd2
  have HK810 := hideH k810
  clear k10 k810 hd1 hd2 HK89 HD1' HD2
  go_wp2_with (go_at_call 17; refine StpH.go ?_)
  refine ⟨?_⟩
  refine C.out.mono ?_
  clear C
  rintro e W11 ⟨rfl, hd1, k11⟩
  have hd2 := HD2'.out.kept k11 (fun f => by have f9 : h2 = f1 ∨ h2 = q1 := f; omega) (fun f => by have f9 : f2 = f1 ∨ f2 = q1 := f; omega) (fun f => by have f9 : q2 = f1 ∨ q2 = q1 := f; omega)
  have C := hideH (spoil_any h2 f2 cf2 q2 cq2 nC (C ++ hrm 80) W11 hd2 (by omega))
  have HD1 := hideH hd1
  have HK811 : Hid (Kept (fun k => k = f1 ∨ k = q1) W8 W11) := hideH ((HK810.out.mono (fun _ f => f.elim)).trans k11 (fun _ e => .inl e))
  clear k11 hd1 hd2 HK810 HD2'
  go_wp2_with (go_at_call 17; refine StpH.go ?_)
  refine ⟨?_⟩
  refine C.out.mono ?_
  clear C
  rintro e W12 ⟨rfl, -, k12⟩
  have hd1 := HD1.out.kept k12 (fun f => by have f9 : h1 = f2 ∨ h1 = q2 := f; omega) (fun f => by have f9 : f1 = f2 ∨ f1 = q2 := f; omega) (fun f => by have f9 : q1 = f2 ∨ q1 = q2 := f; omega)
  have k812 : Kept (fun k => k < W4.heap.size ∧ w.heap.size ≤ k) W8 W12 := (HK811.out.mono (fun k e => .inl (e.elim (fun e => by omega) (fun e => by omega)))).trans k12 (fun k e => .inl (e.elim (fun e => by omega) (fun e => by omega)))
  have kw12 : Kept (fun _ => False) w W12 := HK8.out.trans k812 (fun k e => .inr e.2)
  have C := hideH (give_any h1 f1 cf1 q1 cq1 nB (spl nB (B ++ hrm 80)) W12 hd1)
  have hr1 := HR1.out.kept k812 (fun f => by have := f.1; omega) (fun k e f => by have := (HU1.out k e).1; have := f.1; omega)
  have hr2 := HR2.out.kept k812 (fun f => by have := f.1; omega) (fun k e f => by have := (HU2.out k e).1; have := f.1; omega)
  have hgr := k812.heap HGR.out (fun f => by have := f.1; omega)
  have s812 := k812.size
  have HD1' := hideH hd1
  have HK12 := hideH kw12
  have HR1' := hideH hr1
  have HR2' := hideH hr2
  have HGR' := hideH hgr
  clear k12 hd1 k812 kw12 hr1 hr2 hgr HK811 HD1 HK8 HR1 HR2 HGR
  go_wp2_with (go_at_call 15; refine StpH.go ?_)
  refine ⟨?_⟩
  refine C.out.mono ?_
  clear C
  rintro e W13 ⟨rfl, k13⟩
  have hd1 := HD1'.out.later k13
  obtain ⟨X, hX⟩ : ∃ X, X = spl nB B := ⟨_, rfl⟩
  have eX : (spl nB (B ++ hrm 80)).take nB = X := by rw [hX]; exact spl_take nB nB B (hrm 80) HNB.out (Nat.le_refl _)
  have hXl : X.length = nB := by rw [hX, spl_length, HNB.out]
  have hXI : IsBytes X := by rw [hX]; exact spl_bytesK nB B HBI.out
  have C : Hid (Calls Tryd.prog 14 #[.slice (some ⟨f1, 0, none⟩) nB cf1] W13 fun e w' => ∃ br v, e = .returned (.pointer (some ⟨br, 0, none⟩)) ∧ Rd w' br v X 0 ∧ W13.heap.size ≤ br ∧ (∀ k, v.ownBlock = some k → W13.heap.size ≤ k) ∧ Kept (fun _ => False) W13 w') := hideH (by rw [← hXl]; exact newr_any X _ cf1 W13 (by have q := hd1.bytesK; rw [eX] at q; exact q) hXI (by omega))
  have HK13 := hideH (HK12.out.trans k13 (fun _ f => f.elim))
  have HR1 := hideH (HR1'.out.kept k13 (fun f => f) (fun _ _ f => f))
  have HR2 := hideH (HR2'.out.kept k13 (fun f => f) (fun _ _ f => f))
  have HGR := hideH (k13.heap HGR'.out (fun f => f))
  have HD1 := hideH hd1
  have HEX := hideH eX
  have HXL := hideH hXl
  have s1213 := k13.size
  clear k13 hd1 eX hXl hXI hX HK12 HR1' HR2' HGR' HD1'
  go_wp2_with (go_at_call 14; refine StpH.go ?_)
  refine ⟨?_⟩
  refine C.out.mono ?_
  clear C
  rintro e W14 ⟨b3, u3, rfl, hr3, lb3, lu3, k14⟩
  have C := hideH (rraw_ok b3 u3 X 0 nB W14 hr3 (by rw [HXL.out]; omega))
  have HK14 := hideH (HK13.out.trans k14 (fun _ f => f.elim))
  have HR1' := hideH (HR1.out.kept k14 (fun f => f) (fun _ _ f => f))
  have HR2' := hideH (HR2.out.kept k14 (fun f => f) (fun _ _ f => f))
  have HGR' := hideH (k14.heap HGR.out (fun f => f))
  have HD1' := hideH (HD1.out.later k14)
  have ub3 : b3 < W14.heap.size := lt_of_block hr3.blk
  have s1314 := k14.size
  clear k14 hr3 lu3 HK13 HR1 HR2 HGR HD1
  go_wp2_with (go_at_call 18; refine StpH.go ?_)
  refine ⟨?_⟩
  refine C.out.mono ?_
  clear C
  rintro e W15 ⟨g, rfl, -, hrow, hr3, k15⟩
  have eT : (X.drop 0).take nB = X := by rw [List.drop_zero, ← HXL.out, List.take_length]
  rw [eT] at hrow
  have e0n : 0 + nB = X.length := by rw [HXL.out]; omega
  rw [e0n] at hr3
  have far3 : ∀ k, k < W13.heap.size → ¬ k = b3 := fun k h f => by omega
  have hd1 := HD1'.out.kept k15 (far3 h1 (by omega)) (far3 f1 (by omega)) (far3 q1 (by omega))
  have libG : Lib W15 (.slice (some ⟨g, 0, none⟩) nB nB) X := Lib.of_own hrow
  have hr1 := HR1'.out.kept k15 (far3 b1 (by omega)) (fun k e => far3 k (by have := (HU1.out k e).2; omega))
  have hr2 := HR2'.out.kept k15 (far3 b2 (by omega)) (fun k e => far3 k (by have := (HU2.out k e).2; omega))
  have hgr := k15.heap HGR'.out (far3 _ (by omega))
  have kw15 : Kept (fun _ => False) w W15 := HK14.out.trans k15 (fun k e => .inr (by have e9 : k = b3 := e; omega))
  have CG : Hid (∀ W, Kept (fun _ => False) W15 W → Calls Tryd.prog 15 #[.pointer (some ⟨h1, 0, none⟩)] W fun e w' => e = .returned (.slice (some ⟨f1, 0, none⟩) nB cf1) ∧ Kept (fun _ => False) W w') := hideH (fun W k => give_any h1 f1 cf1 q1 cq1 nB _ W (hd1.later k))
  have HCV : Hid (∀ W, Kept (fun _ => False) W15 W → (convert 26 9 (.slice (some ⟨f1, 0, none⟩) nB cf1)).run Tryd.prog W = .ok (.string (strOfNums X)) W) := hideH (fun W k => by have q := conv_atK (c := cf1) ((hd1.later k).bytesK); rw [HEX.out, HXL.out] at q; exact q)
  have CL : Hid (∀ W, Kept (fun _ => False) W15 W → Calls Tryd.prog 19 #[.pointer (some ⟨b3, 0, none⟩)] W fun e w' => e = .returned (.int .i64 0) ∧ ∃ n, w' = W.drewN n) := hideH (fun W k => by have q := left_any b3 u3 X X.length W (hr3.kept k (fun f => f) (fun _ _ f => f)); rw [Nat.sub_self] at q; exact q)
  have s1415 := k15.size
  have HLG := hideH libG
  have HR1 := hideH hr1
  have HR2 := hideH hr2
  have HGR := hideH hgr
  have HK15 := hideH kw15
  clear hrow hr3 k15 eT e0n far3 hd1 libG hr1 hr2 hgr kw15 HK14 HR1' HR2' HGR' HD1'
  go_wp2_with fail
  have hS : Kept (fun _ => False) W15 W15.drew := Kept.drew W15
  refine wp_region_held (S := fun W' => Kept (fun _ => False) W15 W') (by kernel_rfl) ?_
  change wpAnyH _ _ _ _ _ _ _ _ (World.drew _)
  refine takeYH (i := 0) (d := 70) (v := .nilIface) rfl rfl (by kernel_rfl) (by kernel_rfl) (by kernel_rfl) (fun _ _ _ h => h) (Or.inl ⟨by rfl, fun W hW => ?_⟩) hS ?_
  · (go_simp)
  simp only [Act.put, List.setIfInBounds_toArray, List.set_cons_zero, List.set_cons_succ]
  refine takeYH (i := 1) (d := 71) (v := .bool false) rfl rfl (by kernel_rfl) (by kernel_rfl) (by kernel_rfl) (fun _ _ _ h => h) (Or.inl ⟨by rfl, fun W hW => ?_⟩) hS ?_
  · (go_simp)
  simp only [Act.put, List.setIfInBounds_toArray, List.set_cons_zero, List.set_cons_succ]
  refine takeYH (i := 2) (d := 72) (v := .bool false) rfl rfl (by kernel_rfl) (by kernel_rfl) (by kernel_rfl) (fun _ _ _ h => h) (Or.inl ⟨by rfl, fun W hW => ?_⟩) hS ?_
  · (go_simp)
  simp only [Act.put, List.setIfInBounds_toArray, List.set_cons_zero, List.set_cons_succ]
  refine takeYH (i := 3) (d := 73) (v := .slice (some ⟨g, 0, none⟩) nB nB) rfl rfl (by kernel_rfl) (by kernel_rfl) (by kernel_rfl) (fun _ _ _ h => h) (Or.inl ⟨by rfl, fun W hW => ?_⟩) hS ?_
  · (go_simp)
  simp only [Act.put, List.setIfInBounds_toArray, List.set_cons_zero, List.set_cons_succ]
  refine takeYH (i := 4) (d := 74) (v := .string (strOfNums X)) rfl rfl (by kernel_rfl) (by kernel_rfl) (by kernel_rfl) (fun _ _ _ h => h) (Or.inl ⟨by rfl, fun W hW => ?_⟩) hS ?_
  · have x0 := conv_atH (HLG.out.later hW)
    (go_simp)
  simp only [Act.put, List.setIfInBounds_toArray, List.set_cons_zero, List.set_cons_succ]
  refine takeYH (i := 5) (d := 75) (v := .pointer (some ⟨h1, 0, none⟩)) rfl rfl (by kernel_rfl) (by kernel_rfl) (by kernel_rfl) (fun _ _ _ h => h) (Or.inl ⟨by rfl, fun W hW => ?_⟩) hS ?_
  · (go_simp)
  simp only [Act.put, List.setIfInBounds_toArray, List.set_cons_zero, List.set_cons_succ]

  refine wpAnyH_all (rs := [6]) (by kernel_rfl) (by simp) ?_
  intro i' hi'
  obtain rfl : i' = 6 := by simpa using hi'
  unfold wpOp
  go_simp
  first | refine (CG.out W15.drew hS).mono ?_ | refine Or.inl ((CG.out W15.drew hS).mono ?_)

  rintro e Wy ⟨rfl, ky⟩
  have hS2 : Kept (fun _ => False) W15 Wy := hS.trans ky (fun _ f => f.elim)
  first | refine ⟨hS2, ?_⟩ | skip
  refine takeYH (i := 7) (d := 77) (v := .string (strOfNums X)) rfl rfl (by kernel_rfl) (by kernel_rfl) (by kernel_rfl) (fun _ _ _ h => h) (Or.inl ⟨by rfl, fun W hW => ?_⟩) hS2 ?_
  · have x0 := HCV.out W hW
    (go_simp)
  simp only [Act.put, List.setIfInBounds_toArray, List.set_cons_zero, List.set_cons_succ]
  refine takeYH (i := 8) (d := 78) (v := .bool false) rfl rfl (by kernel_rfl) (by kernel_rfl) (by kernel_rfl) (fun _ _ _ h => h) (Or.inl ⟨by rfl, fun W hW => ?_⟩) hS2 ?_
  · (go_simp)
  simp only [Act.put, List.setIfInBounds_toArray, List.set_cons_zero, List.set_cons_succ]
  refine takeYH (i := 9) (d := 79) (v := .bool false) rfl rfl (by kernel_rfl) (by kernel_rfl) (by kernel_rfl) (fun _ _ _ h => h) (Or.inl ⟨by rfl, fun W hW => ?_⟩) hS2 ?_
  · (go_simp)
  simp only [Act.put, List.setIfInBounds_toArray, List.set_cons_zero, List.set_cons_succ]
  refine takeYH (i := 10) (d := 80) (v := .bool false) rfl rfl (by kernel_rfl) (by kernel_rfl) (by kernel_rfl) (fun _ _ _ h => h) (Or.inl ⟨by rfl, fun W hW => ?_⟩) hS2 ?_
  · (go_simp)
  simp only [Act.put, List.setIfInBounds_toArray, List.set_cons_zero, List.set_cons_succ]
  refine takeYH (i := 11) (d := 81) (v := .pointer (some ⟨b3, 0, none⟩)) rfl rfl (by kernel_rfl) (by kernel_rfl) (by kernel_rfl) (fun _ _ _ h => h) (Or.inl ⟨by rfl, fun W hW => ?_⟩) hS2 ?_
  · (go_simp)
  simp only [Act.put, List.setIfInBounds_toArray, List.set_cons_zero, List.set_cons_succ]
  refine takeYH (i := 12) (d := 82) (v := .pointer (some ⟨b3, 0, none⟩)) rfl rfl (by kernel_rfl) (by kernel_rfl) (by kernel_rfl) (fun _ _ _ h => h) (Or.inl ⟨by rfl, fun W hW => ?_⟩) hS2 ?_
  · (go_simp)
  simp only [Act.put, List.setIfInBounds_toArray, List.set_cons_zero, List.set_cons_succ]
  refine takeYH (i := 13) (d := 83) (v := .pointer (some ⟨b3, 0, none⟩)) rfl rfl (by kernel_rfl) (by kernel_rfl) (by kernel_rfl) (fun _ _ _ h => h) (Or.inl ⟨by rfl, fun W hW => ?_⟩) hS2 ?_
  · (go_simp)
  simp only [Act.put, List.setIfInBounds_toArray, List.set_cons_zero, List.set_cons_succ]

  refine wpAnyH_all (rs := [14]) (by kernel_rfl) (by simp) ?_
  intro i' hi'
  obtain rfl : i' = 14 := by simpa using hi'
  unfold wpOp
  go_simp
  first | refine (CL.out Wy hS2).mono ?_ | refine Or.inl ((CL.out Wy hS2).mono ?_)

  rintro e Wy2 ⟨rfl, n9, rfl⟩
  have hS3 : Kept (fun _ => False) W15 (Wy.drewN n9) := hS2.trans (Kept.drewN _ _) (fun _ f => f.elim)
  first | refine ⟨hS3, ?_⟩ | skip
  refine takeYH (i := 15) (d := 85) (v := .bool false) rfl rfl (by kernel_rfl) (by kernel_rfl) (by kernel_rfl) (fun _ _ _ h => h) (Or.inl ⟨by rfl, fun W hW => ?_⟩) hS3 ?_
  · (go_simp)
  simp only [Act.put, List.setIfInBounds_toArray, List.set_cons_zero, List.set_cons_succ]
  refine takeYH (i := 16) (d := 86) (v := .bool false) rfl rfl (by kernel_rfl) (by kernel_rfl) (by kernel_rfl) (fun _ _ _ h => h) (Or.inl ⟨by rfl, fun W hW => ?_⟩) hS3 ?_
  · (go_simp)
  simp only [Act.put, List.setIfInBounds_toArray, List.set_cons_zero, List.set_cons_succ]

  refine wpAnyH_done (by kernel_rfl) ?_ _
  obtain ⟨W16, hW16⟩ : ∃ W, W = Wy.drewN n9 := ⟨_, rfl⟩
  rw [← hW16] at hS3 ⊢
  have HR1' := hideH (HR1.out.kept hS3 (fun f => f) (fun _ _ f => f))
  have HR2' := hideH (HR2.out.kept hS3 (fun f => f) (fun _ _ f => f))
  have HGR' := hideH (hS3.heap HGR.out (fun f => f))
  have kw16 := HK15.out.trans hS3 (fun _ f => f.elim)
  have s1516 := hS3.size
  have kA := Kept.alloc W16 (.cells #[] 5)
  have HR0 : Hid ((W16.alloc (.cells #[] 5)).ownsRow W16.heap.size 5 1 (.slice (some ⟨W16.heap.size, 0, none⟩) 0 0) 0 (bs [])) := hideH ⟨rfl, .inr ⟨W16.heap.size, 0, #[], rfl, Nat.le_refl _, heap_alloc_new W16 _, Nat.le_refl _, Nat.zero_le _, rfl, rfl⟩⟩
  have HBA := hideH ((HB.out.laterK kw16).laterK kA)
  have HSZ := hideH kA.size
  have HK16 := hideH kw16
  have HKA := hideH kA
  clear hW16 hS hS2 hS3 ky kw16 kA HR1 HR2 HGR HK15 HLG HCV CG CL
  go_wp2_with (at_builtin; refine StpH.go ?_)
  refine ⟨?_⟩
  refine wpList_catS rfl _ _ rfl W16.heap.size 0 0 [] B rfl HR0 ba nB bc rfl HNB HBA HBZ (by omega) HSZ ?_
  intro gB cB W17 HO1 HKc
  have k17 : Kept (fun _ => False) W16 W17 := HKA.out.trans HKc.out (fun i e => .inr (by have e2 : i = W16.heap.size := e; omega))
  have ro1 : W17.ownsRow W16.heap.size 5 1 (.slice (some ⟨gB, 0, none⟩) nB cB) nB (bs B) := by have q := HO1.out; rw [Nat.zero_add, List.nil_append] at q; exact q
  have kA := Kept.alloc W17 (.cells #[] 5)
  have HR0' : Hid ((W17.alloc (.cells #[] 5)).ownsRow W17.heap.size 5 1 (.slice (some ⟨W17.heap.size, 0, none⟩) 0 0) 0 (bs [])) := hideH ⟨rfl, .inr ⟨W17.heap.size, 0, #[], rfl, Nat.le_refl _, heap_alloc_new W17 _, Nat.le_refl _, Nat.zero_le _, rfl, rfl⟩⟩
  have kw17 := HK16.out.trans k17 (fun _ f => f.elim)
  have HCA := hideH ((HC.out.laterK kw17).laterK kA)
  have HSZ' := hideH kA.size
  have HRO1 := hideH ro1
  have HK17 := hideH k17
  have HKA' := hideH kA
  have HKW17 := hideH kw17
  clear HO1 HKc k17 ro1 kA kw17 HR0 HBA HSZ HKA HK16
  go_wp2_with (at_builtin; refine StpH.go ?_)
  refine ⟨?_⟩
  refine wpList_catS rfl _ _ rfl W17.heap.size 0 0 [] C rfl HR0' ca nC cc rfl HNC HCA HCZ (by omega) HSZ' ?_
  intro gC cC W18 HO1 HKc
  have k18 : Kept (fun _ => False) W17 W18 := HKA'.out.trans HKc.out (fun i e => .inr (by have e2 : i = W17.heap.size := e; omega))
  have ro2 : W18.ownsRow W17.heap.size 5 1 (.slice (some ⟨gC, 0, none⟩) nC cC) nC (bs C) := by have q := HO1.out; rw [Nat.zero_add, List.nil_append] at q; exact q
  obtain ⟨A1, e1⟩ : ∃ A, A = W18.alloc (.cells #[.slice (some ⟨gB, 0, none⟩) nB cB, .slice (some ⟨gC, 0, none⟩) nC cC] 26) := ⟨_, rfl⟩
  obtain ⟨A2, e2⟩ : ∃ A, A = A1.alloc (.cells #[.int .i64 0, .int .i64 0] 3) := ⟨_, rfl⟩
  obtain ⟨A3, e3⟩ : ∃ A, A = A2.alloc (.cells #[.slice none 0 0, .slice none 0 0, .slice none 0 0] 32) := ⟨_, rfl⟩
  have z1 : A1.heap.size = W18.heap.size + 1 := by rw [e1]; exact size_allocK _ _
  have z2 : A2.heap.size = W18.heap.size + 1 + 1 := by rw [e2, size_allocK, z1]
  have c1 : Kept (fun _ => False) W18 A1 := by rw [e1]; exact Kept.alloc _ _
  have c2 : Kept (fun _ => False) A1 A2 := by rw [e2]; exact Kept.alloc _ _
  have c3 : Kept (fun _ => False) A2 A3 := by rw [e3]; exact Kept.alloc _ _
  have c23 := c2.trans c3 (fun _ f => f.elim)
  have c13 := c1.trans c23 (fun _ f => f.elim)
  have g1h : A3.heap[W18.heap.size]? = some (.cells #[.slice (some ⟨gB, 0, none⟩) nB cB, .slice (some ⟨gC, 0, none⟩) nC cC] 26 (0, 0)) := c23.heap (by rw [e1]; exact heap_alloc_new W18 _) (fun f => f)
  have g2h : A3.heap[W18.heap.size + 1]? = some (.cells #[.int .i64 0, .int .i64 0] 3 (0, 0)) := c3.heap (by have q := heap_alloc_new A1 (.cells #[.int .i64 0, .int .i64 0] 3); rw [← e2, z1] at q; exact q) (fun f => f)
  have g3h : A3.heap[W18.heap.size + 1 + 1]? = some (.cells #[.slice none 0 0, .slice none 0 0, .slice none 0 0] 32 (0, 0)) := by have q := heap_alloc_new A2 (.cells #[.slice none 0 0, .slice none 0 0, .slice none 0 0] 32); rw [← e3, z2] at q; exact q
  have k16A := (HK17.out.trans k18 (fun _ f => f.elim)).trans c13 (fun _ f => f.elim)
  have kwA := (HKW17.out.trans k18 (fun _ f => f.elim)).trans c13 (fun _ f => f.elim)
  have roA := (HRO1.out.lt gB rfl)
  have roB := (ro2.lt gC rfl)
  have z1617 := HK17.out.size
  have z1718 := k18.size
  have r1A := c13.row (k18.row HRO1.out (fun _ _ f => f)) (fun _ _ f => f)
  have r2A := c13.row ro2 (fun _ _ f => f)
  obtain ⟨o0, hR0, hQ0⟩ := rr_start (w := w) (W := A3) (b1 := b1) (b2 := b2) (gr := W7.heap.size) (gd := W18.heap.size) (ga := W18.heap.size + 1) (kb := W18.heap.size + 1 + 1) (u1 := u1) (u2 := u2) (d1 := .slice (some ⟨gB, 0, none⟩) nB cB) (d2 := .slice (some ⟨gC, 0, none⟩) nC cC) (B := B) (C := C) W4.heap.size W6.heap.size W7.heap.size W8.heap.size W17.heap.size W18.heap.size kwA (HR1'.out.kept k16A (fun f => f) (fun _ _ f => f)) (HR2'.out.kept k16A (fun f => f) (fun _ _ f => f)) (k16A.heap HGR'.out (fun f => f)) g1h (by rw [← HNB.out]; exact row_base0K r1A) (by rw [← HNC.out]; exact row_base0K r2A) g2h g3h (by omega) ⟨lb1, by omega⟩ (fun k e => by have := HU1.out k e; omega) ⟨lb2, ub2⟩ HU2.out ⟨by omega, by omega⟩ (fun k e => by have e9 : gB = k := Option.some.inj e; omega) (fun k e => by have e9 : gC = k := Option.some.inj e; omega) ⟨by omega, by omega⟩ (by omega) ⟨by omega, by omega⟩
  have HRL : Hid (Rl w A3 0 o0 _ _ _ _ _ _ _ _ _ _ _ _ _ _ _) := hideH ⟨hR0, hQ0, Nat.le_refl _, Nat.le_refl _⟩
  rw [e3, e2, e1] at HRL
  clear hR0 hQ0 HO1 HKc k18 ro2 e1 e2 e3 z1 z2 c1 c2 c3 c23 c13 g1h g2h g3h k16A kwA roA roB r1A r2A HR0' HCA HSZ' HRO1 HK17 HKA' HKW17 HR1' HR2' HGR'
  go_wp2_with fail
  have eb0 : (fun j => if j = 0 then b1 else b2) 0 = b1 := rfl
  have eb1 : (fun j => if j = 0 then b1 else b2) 1 = b2 := rfl
  have HLS : Hid (∀ i, i < 2 → ((fun j => if j = 0 then B else C) i).length ≤ 1048576) := hideH (fun i hi => by
    rcases (show i = 0 ∨ i = 1 by omega) with rfl | rfl
    · show B.length ≤ _; rw [← HNB.out]; exact hBl
    · show C.length ≤ _; rw [← HNC.out]; exact hCl)
  have HVD : Hid (∀ i, i < 2 → ∃ b c, (fun j => if j = 0 then (Value.slice (some ⟨gB, 0, none⟩) nB cB) else (.slice (some ⟨gC, 0, none⟩) nC cC)) i = .slice (some ⟨b, 0, none⟩) ((fun j => if j = 0 then B else C) i).length c ∧ True) := hideH (fun i hi => by
    rcases (show i = 0 ∨ i = 1 by omega) with rfl | rfl
    · exact ⟨gB, cB, by show _ = Value.slice _ B.length _; rw [← HNB.out]; rfl, trivial⟩
    · exact ⟨gC, cC, by show _ = Value.slice _ C.length _; rw [← HNC.out]; rfl, trivial⟩)
  have HIS : Hid (∀ i, i < 2 → IsBytes ((fun j => if j = 0 then B else C) i)) := hideH (fun i hi => by
    rcases (show i = 0 ∨ i = 1 by omega) with rfl | rfl
    · exact HBI.out
    · exact HCI.out)
  generalize (fun j => if j = 0 then b1 else b2) = bR at HRL eb0 eb1
  generalize (fun j => if j = 0 then u1 else u2) = rv at HRL
  generalize (fun j => if j = 0 then B else C) = l at HRL HLS HVD HIS
  generalize (fun j => if j = 0 then (Value.slice (some ⟨gB, 0, none⟩) nB cB) else (.slice (some ⟨gC, 0, none⟩) nC cC)) = vd at HRL HVD
  generalize W7.heap.size = gr at HRL ⊢
  generalize W18.heap.size = gd at HRL ⊢
  generalize gd + 1 = ga at HRL ⊢
  generalize ga + 1 = kb at HRL ⊢
  clear eb0 eb1 HBI HCI HB HC HBZ HCZ HNB HNC HEB HEC HEX HXL HU1 HU2 l1 l2 l3 l4 l5 l6 m1 m2 m3 m4 m5 m6 s12 s34 s45 s56 s67 s812 s1213 s1314 s1415 s1516 lb1 lb2 lb3 ub1 ub2 ub3 z8 hBl hCl
  go_loopw [99] (fun s99 wr => ∃ (k : Nat) (o : Nat → Nat) (pR : Nat → Nat) (vB vI : Value) (V I : List Value) (LB LI : List (List Int)), k ≤ N ∧ s99 = .int .i64 k ∧ Hid (Rl w wr k o bR rv l pR gr gd vd ga kb vB vI V I LB LI)) (fun s99 _ => N - (intOf s99).toNat)
  case atStart => exact ⟨0, _, _, _, _, _, _, _, _, Nat.zero_le _, rfl, HRL⟩
  case round =>
  obtain ⟨k, o, pR, vB, vI, V, I, LB, LI, hk, rfl, HW⟩ := hrel
  obtain ⟨Wa, hWa⟩ : ∃ Wa, Wa = wr := ⟨_, rfl⟩
  rw [← hWa] at HW ⊢
  clear hWa HRL
  by_cases hlt : k < N
  · have hkS : k < S.length := by rw [← HN.out]; exact hlt
    have hiN : (k : Int) < (N : Int) := by omega
    obtain ⟨b, off, rfl, hc⟩ := HS.out (by intro e; rw [e] at hkS; simp at hkS)
    have hcw : ∀ j, j < 8 → Wa.cell? ⟨b, off + k * 8 + j, none⟩ = (S[k]).cells[j]? := by
      intro j hj
      have h1 := hc k hkS j hj
      have h2 : (S[k]).cells[j]? = some ((S[k]).cells[j]'(by rw [OpD.cells_length]; exact hj)) := List.getElem?_eq_getElem _
      rw [h2] at h1 ⊢
      rw [Nat.add_assoc]
      exact HW.out.r0.kp.cell h1 (fun f => f)
    have hA := (HO.out _ (List.getElem_mem hkS)).op
    generalize S[k] = op at hcw hA
    obtain ⟨kd, sec, nn, U, ii, ba2, bc2, B2, s, la, lc, L⟩ := op
    have hn0 : -9223372036854775808 ≤ nn := hA.n0
    have hn1 : nn ≤ 9223372036854775807 := hA.n1
    obtain ⟨n5, hn5⟩ : ∃ n, n = B2.length := ⟨_, rfl⟩
    obtain ⟨n7, hn7⟩ : ∃ n, n = L.length := ⟨_, rfl⟩
    have h0 : Wa.cell? ⟨b, off + k * 8, none⟩ = some (.int .i64 kd) := hcw 0 (by decide)
    have h1 : Wa.cell? ⟨b, off + k * 8 + 1, none⟩ = some (.bool sec) := hcw 1 (by decide)
    have h2 : Wa.cell? ⟨b, off + k * 8 + 2, none⟩ = some (.int .i64 nn) := hcw 2 (by decide)
    have h3 : Wa.cell? ⟨b, off + k * 8 + 3, none⟩ = some (.int .u64 U) := hcw 3 (by decide)
    have h4 : Wa.cell? ⟨b, off + k * 8 + 4, none⟩ = some (.int .i64 ii) := hcw 4 (by decide)
    have h5 : Wa.cell? ⟨b, off + k * 8 + 5, none⟩ = some (.slice ba2 n5 bc2) := by rw [hn5]; exact hcw 5 (by decide)
    have h6 : Wa.cell? ⟨b, off + k * 8 + 6, none⟩ = some (.string s) := hcw 6 (by decide)
    have h7 : Wa.cell? ⟨b, off + k * 8 + 7, none⟩ = some (.slice la n7 lc) := by rw [hn7]; exact hcw 7 (by decide)
    clear hcw hc hA hn5 hn7 hkS
    obtain ⟨Wb, hWb⟩ : ∃ W, W = Wa.alloc (.cells #[.int .i64 kd, .bool sec, .int .i64 nn, .int .u64 (U : Int), .int .i64 ii, .slice ba2 n5 bc2, .string s, .slice la n7 lc] 37) := ⟨_, rfl⟩
    have kab : Kept (fun _ => False) Wa Wb := by rw [hWb]; exact Kept.alloc _ _
    have hrow : Wb.heap[Wa.heap.size]? = some (.cells #[.int .i64 kd, .bool sec, .int .i64 nn, .int .u64 (U : Int), .int .i64 ii, .slice ba2 n5 bc2, .string s, .slice la n7 lc] 37 (0, 0)) := by rw [hWb]; exact heap_alloc_new Wa _
    have HWb := hideH (HW.out.fresh kab 8)
    have hop8 : newK Wa.heap.size 8 o Wa.heap.size = 8 := newK_new (Nat.le_refl _)
    generalize newK Wa.heap.size 8 o = o1 at HWb hop8
    clear HW
    cases sec
    · as_aux_lemma =>
        have w0 : Wb.cell? ⟨Wa.heap.size, 0, none⟩ = some (.int .i64 kd) := by rw [cell_of_row _ _ 0 _ _ _ hrow]; rfl
        have w1 : Wb.cell? ⟨Wa.heap.size, 1, none⟩ = some (.bool false) := by rw [cell_of_row _ _ 1 _ _ _ hrow]; rfl
        have w2 : Wb.cell? ⟨Wa.heap.size, 2, none⟩ = some (.int .i64 nn) := by rw [cell_of_row _ _ 2 _ _ _ hrow]; rfl
        have w3 : Wb.cell? ⟨Wa.heap.size, 3, none⟩ = some (.int .u64 (U : Int)) := by rw [cell_of_row _ _ 3 _ _ _ hrow]; rfl
        have w4 : Wb.cell? ⟨Wa.heap.size, 4, none⟩ = some (.int .i64 ii) := by rw [cell_of_row _ _ 4 _ _ _ hrow]; rfl
        have w5 : Wb.cell? ⟨Wa.heap.size, 5, none⟩ = some (.slice ba2 n5 bc2) := by rw [cell_of_row _ _ 5 _ _ _ hrow]; rfl
        have w6 : Wb.cell? ⟨Wa.heap.size, 6, none⟩ = some (.string s) := by rw [cell_of_row _ _ 6 _ _ _ hrow]; rfl
        have w7 : Wb.cell? ⟨Wa.heap.size, 7, none⟩ = some (.slice la n7 lc) := by rw [cell_of_row _ _ 7 _ _ _ hrow]; rfl
        obtain ⟨⟨r0, r1⟩, ⟨e0, e1⟩, ⟨a0, a1⟩, -, -⟩ := HWb.out.r0.cells
        obtain ⟨bD, cD, eD, -⟩ := HVD.out 0 (by decide)
        obtain ⟨n, hn⟩ : ∃ n, n = (l 0).length := ⟨_, rfl⟩
        rw [← hn] at eD
        rw [eD] at e0
        have hnb : n ≤ 1048576 := by rw [hn]; exact HLS.out 0 (by decide)
        have hrd := HWb.out.r0.rd 0 (by decide)
        obtain ⟨pz, hpz⟩ : ∃ p, p = pR 0 := ⟨_, rfl⟩
        have hple : pz ≤ n := by rw [hn, hpz]; exact hrd.le
        rw [← hpz] at hrd a0
        have HRD := hideH hrd
        have HN2 := hideH hn
        have HPZ := hideH hpz
        have HED := hideH eD
        have HRC := hideH r0
        have HEC := hideH e0
        have HAC := hideH a0
        have HROW := hideH hrow
        have gr1 := r0
        clear hrd hn hpz eD r0 r1 e0 e1 a0 a1 kab hrow
        rw [hWb] at w0 w1 w2 w3 w4 w5 w6 w7 gr1
        by_cases q11 : kd = 11
        · subst q11

          have C : Hid (∀ W, Kept (fun _ => False) Wb W → Calls Tryd.prog 20 #[.pointer (some ⟨bR 0, 0, none⟩)] W fun e w' => e = .returned (.int .i64 (pz : Int)) ∧ w' = W) := hideH (fun W k => at_any (bR 0) (rv 0) (l 0) pz W (HRD.out.kept k (fun f => f) (fun _ _ f => f)))
          go_wp2_with fail
          rw [← hWb]
          clear w0 w1 w2 w3 w4 w5 w6 w7 gr1 hWb

          have hS : Kept (fun _ => False) Wb Wb.drew := Kept.drew Wb

          refine wp_region_held (S := fun W' => Kept (fun _ => False) Wb W') (by kernel_rfl) ?_
          change wpAnyH _ _ _ _ _ _ _ _ (World.drew _)
          refine takeYH (i := 0) (d := 137) (v := .pointer (some ⟨bR 0, 0, none⟩)) rfl rfl (by kernel_rfl) (by kernel_rfl) (by kernel_rfl) (fun _ _ _ h => h) (Or.inl ⟨by rfl, fun W hW => ?_⟩) hS ?_
          · (go_simp)
          simp only [Act.put, List.setIfInBounds_toArray, List.set_cons_zero, List.set_cons_succ]
          refine takeYH (i := 1) (d := 138) (v := .pointer (some ⟨bR 0, 0, none⟩)) rfl rfl (by kernel_rfl) (by kernel_rfl) (by kernel_rfl) (fun _ _ _ h => h) (Or.inl ⟨by rfl, fun W hW => ?_⟩) hS ?_
          · (go_simp)
          simp only [Act.put, List.setIfInBounds_toArray, List.set_cons_zero, List.set_cons_succ]
          refine takeYH (i := 2) (d := 139) (v := .pointer (some ⟨bR 0, 0, none⟩)) rfl rfl (by kernel_rfl) (by kernel_rfl) (by kernel_rfl) (fun _ _ _ h => h) (Or.inl ⟨by rfl, fun W hW => ?_⟩) hS ?_
          · (go_simp)
          simp only [Act.put, List.setIfInBounds_toArray, List.set_cons_zero, List.set_cons_succ]
          refine takeYH (i := 4) (d := 141) (v := .slice (some ⟨ga, 0, none⟩) 2 2) rfl rfl (by kernel_rfl) (by kernel_rfl) (by kernel_rfl) (fun _ _ _ h => h) (Or.inl ⟨by rfl, fun W hW => ?_⟩) hS ?_
          · (go_simp)
          simp only [Act.put, List.setIfInBounds_toArray, List.set_cons_zero, List.set_cons_succ]
          refine takeYH (i := 5) (d := 142) (v := .int .i64 0) rfl rfl (by kernel_rfl) (by kernel_rfl) (by kernel_rfl) (fun _ _ _ h => h) (Or.inl ⟨by rfl, fun W hW => ?_⟩) hS ?_
          · (go_simp)
          simp only [Act.put, List.setIfInBounds_toArray, List.set_cons_zero, List.set_cons_succ]
          refine takeYH (i := 6) (d := 143) (v := .pointer (some ⟨ga, 0, none⟩)) rfl rfl (by kernel_rfl) (by kernel_rfl) (by kernel_rfl) (fun _ _ _ h => h) (Or.inl ⟨by rfl, fun W hW => ?_⟩) hS ?_
          · (go_simp)
          simp only [Act.put, List.setIfInBounds_toArray, List.set_cons_zero, List.set_cons_succ]
          refine takeYH (i := 7) (d := 144) (v := .int .i64 (pz : Int)) rfl rfl (by kernel_rfl) (by kernel_rfl) (by kernel_rfl) (fun _ _ _ h => h) (Or.inl ⟨by rfl, fun W hW => ?_⟩) hS ?_
          · have x0 := Kept.cell (F := fun _ => False) (w := Wb) (w' := W) hW HAC.out (fun f => f)
            (go_simp)
          simp only [Act.put, List.setIfInBounds_toArray, List.set_cons_zero, List.set_cons_succ]

          refine wpAnyH_all (rs := [3]) (by kernel_rfl) (by simp) ?_
          intro i' hi'
          obtain rfl : i' = 3 := by simpa using hi'
          unfold wpOp
          go_simp
          first | refine (C.out Wb.drew hS).mono ?_ | refine Or.inl ((C.out Wb.drew hS).mono ?_)

          rintro e Wy ⟨rfl, rfl⟩
          first | refine ⟨hS, ?_⟩ | skip
          refine takeYH (i := 8) (d := 145) (v := .bool false) rfl rfl (by kernel_rfl) (by kernel_rfl) (by kernel_rfl) (fun _ _ _ h => h) (Or.inl ⟨by rfl, fun W hW => ?_⟩) hS ?_
          · (go_simp)
          simp only [Act.put, List.setIfInBounds_toArray, List.set_cons_zero, List.set_cons_succ]
          refine wpAnyH_done (by kernel_rfl) ?_ _

          have HF := hideH ((HWb.out.later hS).next)
          clear HWb HRC HEC HAC HROW HRD
          go_wp2_with fail
          go_roundw
          case rel => exact ⟨k + 1, _, _, _, _, _, _, _, _, by omega, by go_num, HF⟩
          case measure => simp [intOf]; omega
        by_cases q12 : kd = 12
        · subst q12

          obtain ⟨d, hd⟩ : ∃ d, d = n - pz := ⟨_, rfl⟩
          have HDD := hideH hd
          have C : Hid (∀ W, Kept (fun _ => False) Wb W → Calls Tryd.prog 19 #[.pointer (some ⟨bR 0, 0, none⟩)] W fun e w' => e = .returned (.int .i64 (d : Int)) ∧ ∃ n, w' = W.drewN n) := hideH (fun W k => by rw [hd, HN2.out]; exact left_any (bR 0) (rv 0) (l 0) pz W (HRD.out.kept k (fun f => f) (fun _ _ f => f)))
          clear hd
          go_wp2_with fail
          rw [← hWb]
          clear w0 w1 w2 w3 w4 w5 w6 w7 gr1 hWb

          have hdi : (n : Int) - (pz : Int) = (d : Int) := by have := HDD.out; omega
          have hdw : IntKind.i64.wrap (d : Int) = (d : Int) := by rw [IntKind.wrap_i64]; have := HDD.out; omega
          have hS : Kept (fun _ => False) Wb Wb.drew := Kept.drew Wb

          refine wp_region_held (S := fun W' => Kept (fun _ => False) Wb W') (by kernel_rfl) ?_
          change wpAnyH _ _ _ _ _ _ _ _ (World.drew _)
          refine takeYH (i := 0) (d := 148) (v := .pointer (some ⟨bR 0, 0, none⟩)) rfl rfl (by kernel_rfl) (by kernel_rfl) (by kernel_rfl) (fun _ _ _ h => h) (Or.inl ⟨by rfl, fun W hW => ?_⟩) hS ?_
          · (go_simp)
          simp only [Act.put, List.setIfInBounds_toArray, List.set_cons_zero, List.set_cons_succ]
          refine takeYH (i := 1) (d := 149) (v := .pointer (some ⟨bR 0, 0, none⟩)) rfl rfl (by kernel_rfl) (by kernel_rfl) (by kernel_rfl) (fun _ _ _ h => h) (Or.inl ⟨by rfl, fun W hW => ?_⟩) hS ?_
          · (go_simp)
          simp only [Act.put, List.setIfInBounds_toArray, List.set_cons_zero, List.set_cons_succ]
          refine takeYH (i := 2) (d := 150) (v := .pointer (some ⟨bR 0, 0, none⟩)) rfl rfl (by kernel_rfl) (by kernel_rfl) (by kernel_rfl) (fun _ _ _ h => h) (Or.inl ⟨by rfl, fun W hW => ?_⟩) hS ?_
          · (go_simp)
          simp only [Act.put, List.setIfInBounds_toArray, List.set_cons_zero, List.set_cons_succ]
          refine takeYH (i := 4) (d := 152) (v := .slice (some ⟨gd, 0, none⟩) 2 2) rfl rfl (by kernel_rfl) (by kernel_rfl) (by kernel_rfl) (fun _ _ _ h => h) (Or.inl ⟨by rfl, fun W hW => ?_⟩) hS ?_
          · (go_simp)
          simp only [Act.put, List.setIfInBounds_toArray, List.set_cons_zero, List.set_cons_succ]
          refine takeYH (i := 5) (d := 153) (v := .int .i64 0) rfl rfl (by kernel_rfl) (by kernel_rfl) (by kernel_rfl) (fun _ _ _ h => h) (Or.inl ⟨by rfl, fun W hW => ?_⟩) hS ?_
          · (go_simp)
          simp only [Act.put, List.setIfInBounds_toArray, List.set_cons_zero, List.set_cons_succ]
          refine takeYH (i := 6) (d := 154) (v := .pointer (some ⟨gd, 0, none⟩)) rfl rfl (by kernel_rfl) (by kernel_rfl) (by kernel_rfl) (fun _ _ _ h => h) (Or.inl ⟨by rfl, fun W hW => ?_⟩) hS ?_
          · (go_simp)
          simp only [Act.put, List.setIfInBounds_toArray, List.set_cons_zero, List.set_cons_succ]
          refine takeYH (i := 7) (d := 155) (v := .slice (some ⟨bD, 0, none⟩) n cD) rfl rfl (by kernel_rfl) (by kernel_rfl) (by kernel_rfl) (fun _ _ _ h => h) (Or.inl ⟨by rfl, fun W hW => ?_⟩) hS ?_
          · have x0 := Kept.cell (F := fun _ => False) (w := Wb) (w' := W) hW HEC.out (fun f => f)
            (go_simp)
          simp only [Act.put, List.setIfInBounds_toArray, List.set_cons_zero, List.set_cons_succ]
          refine takeYH (i := 8) (d := 156) (v := .int .i64 (n : Int)) rfl rfl (by kernel_rfl) (by kernel_rfl) (by kernel_rfl) (fun _ _ _ h => h) (Or.inl ⟨by rfl, fun W hW => ?_⟩) hS ?_
          · (go_simp)
          simp only [Act.put, List.setIfInBounds_toArray, List.set_cons_zero, List.set_cons_succ]
          refine takeYH (i := 9) (d := 157) (v := .slice (some ⟨ga, 0, none⟩) 2 2) rfl rfl (by kernel_rfl) (by kernel_rfl) (by kernel_rfl) (fun _ _ _ h => h) (Or.inl ⟨by rfl, fun W hW => ?_⟩) hS ?_
          · (go_simp)
          simp only [Act.put, List.setIfInBounds_toArray, List.set_cons_zero, List.set_cons_succ]
          refine takeYH (i := 10) (d := 158) (v := .int .i64 0) rfl rfl (by kernel_rfl) (by kernel_rfl) (by kernel_rfl) (fun _ _ _ h => h) (Or.inl ⟨by rfl, fun W hW => ?_⟩) hS ?_
          · (go_simp)
          simp only [Act.put, List.setIfInBounds_toArray, List.set_cons_zero, List.set_cons_succ]
          refine takeYH (i := 11) (d := 159) (v := .pointer (some ⟨ga, 0, none⟩)) rfl rfl (by kernel_rfl) (by kernel_rfl) (by kernel_rfl) (fun _ _ _ h => h) (Or.inl ⟨by rfl, fun W hW => ?_⟩) hS ?_
          · (go_simp)
          simp only [Act.put, List.setIfInBounds_toArray, List.set_cons_zero, List.set_cons_succ]
          refine takeYH (i := 12) (d := 160) (v := .int .i64 (pz : Int)) rfl rfl (by kernel_rfl) (by kernel_rfl) (by kernel_rfl) (fun _ _ _ h => h) (Or.inl ⟨by rfl, fun W hW => ?_⟩) hS ?_
          · have x0 := Kept.cell (F := fun _ => False) (w := Wb) (w' := W) hW HAC.out (fun f => f)
            (go_simp)
          simp only [Act.put, List.setIfInBounds_toArray, List.set_cons_zero, List.set_cons_succ]
          refine takeYH (i := 13) (d := 161) (v := .int .i64 (d : Int)) rfl rfl (by kernel_rfl) (by kernel_rfl) (by kernel_rfl) (fun _ _ _ h => h) (Or.inl ⟨by rfl, fun W hW => ?_⟩) hS ?_
          · (go_simp)
          simp only [Act.put, List.setIfInBounds_toArray, List.set_cons_zero, List.set_cons_succ]

          refine wpAnyH_all (rs := [3]) (by kernel_rfl) (by simp) ?_
          intro i' hi'
          obtain rfl : i' = 3 := by simpa using hi'
          unfold wpOp
          go_simp
          first | refine (C.out Wb.drew hS).mono ?_ | refine Or.inl ((C.out Wb.drew hS).mono ?_)

          rintro e Wy ⟨rfl, n9, rfl⟩
          have hS2 : Kept (fun _ => False) Wb (Wb.drew.drewN n9) := hS.trans (Kept.drewN _ _) (fun _ f => f.elim)
          first | refine ⟨hS2, ?_⟩ | skip
          refine takeYH (i := 14) (d := 162) (v := .bool false) rfl rfl (by kernel_rfl) (by kernel_rfl) (by kernel_rfl) (fun _ _ _ h => h) (Or.inl ⟨by rfl, fun W hW => ?_⟩) hS2 ?_
          · (go_simp)
          simp only [Act.put, List.setIfInBounds_toArray, List.set_cons_zero, List.set_cons_succ]
          refine wpAnyH_done (by kernel_rfl) ?_ _
          clear hdi hdw
          obtain ⟨Wz, hWz⟩ : ∃ W, W = Wb.drew.drewN n9 := ⟨_, rfl⟩
          rw [← hWz] at hS2 ⊢
          clear hWz hS

          have HF := hideH ((HWb.out.later hS2).next)
          clear HWb HRC HEC HAC HROW HRD
          go_wp2_with fail
          go_roundw
          case rel => exact ⟨k + 1, _, _, _, _, _, _, _, _, by omega, by go_num, HF⟩
          case measure => simp [intOf]; omega
        by_cases q13 : kd = 13
        · subst q13
          by_cases hpl : pz < n
          · have i3 : (pz : Int) < (n : Int) := by omega
            have CD := hideH (done_tailK (bR 0) (rv 0) (l 0) pz (ad 4) Wb HRD.out (by rw [← HN2.out]; exact hpl) (HE.out.kept HWb.out.r0.kp).s4.var)
            have CN : Hid (∀ W, Kept (fun _ => False) Wb W → Calls Tryd.prog 22 #[errV (ad 4)] W fun e w' => e = .returned (.int .i64 5) ∧ w' = W) := hideH (fun W k => num_tailK (HE.out.kept (HWb.out.r0.kp.trans k (fun _ f => f.elim))))
            unfold errV at CD CN
            go_wp2_with (go_at_call 21; refine StpH.go ?_)
            rw [← hWb]
            refine ⟨?_⟩
            refine CD.out.mono ?_
            clear CD
            clear w0 w1 w2 w3 w4 w5 w6 w7 gr1 hWb
            rintro e Wc ⟨rfl, n4, rfl⟩
            have kbc : Kept (fun _ => False) Wb (Wb.drewN n4) := Kept.drewN _ _
            obtain ⟨Wc, hWc⟩ : ∃ W, W = Wb.drewN n4 := ⟨_, rfl⟩
            rw [← hWc] at kbc ⊢
            clear hWc
            have ec := kbc.cell HEC.out (fun f => f)
            have ac := kbc.cell HAC.out (fun f => f)
            go_wp2_with fail
            have hS : Kept (fun _ => False) Wc Wc.drew := Kept.drew Wc

            refine wp_region_held (S := fun W' => Kept (fun _ => False) Wc W') (by kernel_rfl) ?_
            change wpAnyH _ _ _ _ _ _ _ _ (World.drew _)
            refine takeYH (i := 0) (d := 169) (v := .iface 139 (.pointer (some (ad 4)))) rfl rfl (by kernel_rfl) (by kernel_rfl) (by kernel_rfl) (fun _ _ _ h => h) (Or.inl ⟨by rfl, fun W hW => ?_⟩) hS ?_
            · (go_simp)
            simp only [Act.put, List.setIfInBounds_toArray, List.set_cons_zero, List.set_cons_succ]
            refine takeYH (i := 3) (d := 172) (v := .slice (some ⟨ga, 0, none⟩) 2 2) rfl rfl (by kernel_rfl) (by kernel_rfl) (by kernel_rfl) (fun _ _ _ h => h) (Or.inl ⟨by rfl, fun W hW => ?_⟩) hS ?_
            · (go_simp)
            simp only [Act.put, List.setIfInBounds_toArray, List.set_cons_zero, List.set_cons_succ]
            refine takeYH (i := 4) (d := 173) (v := .int .i64 0) rfl rfl (by kernel_rfl) (by kernel_rfl) (by kernel_rfl) (fun _ _ _ h => h) (Or.inl ⟨by rfl, fun W hW => ?_⟩) hS ?_
            · (go_simp)
            simp only [Act.put, List.setIfInBounds_toArray, List.set_cons_zero, List.set_cons_succ]
            refine takeYH (i := 5) (d := 174) (v := .pointer (some ⟨ga, 0, none⟩)) rfl rfl (by kernel_rfl) (by kernel_rfl) (by kernel_rfl) (fun _ _ _ h => h) (Or.inl ⟨by rfl, fun W hW => ?_⟩) hS ?_
            · (go_simp)
            simp only [Act.put, List.setIfInBounds_toArray, List.set_cons_zero, List.set_cons_succ]
            refine takeYH (i := 6) (d := 175) (v := .int .i64 (pz : Int)) rfl rfl (by kernel_rfl) (by kernel_rfl) (by kernel_rfl) (fun _ _ _ h => h) (Or.inl ⟨by rfl, fun W hW => ?_⟩) hS ?_
            · have x0 := Kept.cell (F := fun _ => False) (w := Wc) (w' := W) hW ac (fun f => f)
              (go_simp)
            simp only [Act.put, List.setIfInBounds_toArray, List.set_cons_zero, List.set_cons_succ]
            refine takeYH (i := 7) (d := 176) (v := .slice (some ⟨gd, 0, none⟩) 2 2) rfl rfl (by kernel_rfl) (by kernel_rfl) (by kernel_rfl) (fun _ _ _ h => h) (Or.inl ⟨by rfl, fun W hW => ?_⟩) hS ?_
            · (go_simp)
            simp only [Act.put, List.setIfInBounds_toArray, List.set_cons_zero, List.set_cons_succ]
            refine takeYH (i := 8) (d := 177) (v := .int .i64 0) rfl rfl (by kernel_rfl) (by kernel_rfl) (by kernel_rfl) (fun _ _ _ h => h) (Or.inl ⟨by rfl, fun W hW => ?_⟩) hS ?_
            · (go_simp)
            simp only [Act.put, List.setIfInBounds_toArray, List.set_cons_zero, List.set_cons_succ]
            refine takeYH (i := 9) (d := 178) (v := .pointer (some ⟨gd, 0, none⟩)) rfl rfl (by kernel_rfl) (by kernel_rfl) (by kernel_rfl) (fun _ _ _ h => h) (Or.inl ⟨by rfl, fun W hW => ?_⟩) hS ?_
            · (go_simp)
            simp only [Act.put, List.setIfInBounds_toArray, List.set_cons_zero, List.set_cons_succ]
            refine takeYH (i := 10) (d := 179) (v := .slice (some ⟨bD, 0, none⟩) n cD) rfl rfl (by kernel_rfl) (by kernel_rfl) (by kernel_rfl) (fun _ _ _ h => h) (Or.inl ⟨by rfl, fun W hW => ?_⟩) hS ?_
            · have x0 := Kept.cell (F := fun _ => False) (w := Wc) (w' := W) hW ec (fun f => f)
              (go_simp)
            simp only [Act.put, List.setIfInBounds_toArray, List.set_cons_zero, List.set_cons_succ]
            refine takeYH (i := 11) (d := 180) (v := .int .i64 (n : Int)) rfl rfl (by kernel_rfl) (by kernel_rfl) (by kernel_rfl) (fun _ _ _ h => h) (Or.inl ⟨by rfl, fun W hW => ?_⟩) hS ?_
            · (go_simp)
            simp only [Act.put, List.setIfInBounds_toArray, List.set_cons_zero, List.set_cons_succ]
            refine takeYH (i := 12) (d := 181) (v := .bool true) rfl rfl (by kernel_rfl) (by kernel_rfl) (by kernel_rfl) (fun _ _ _ h => h) (Or.inl ⟨by rfl, fun W hW => ?_⟩) hS ?_
            · (go_simp)
            simp only [Act.put, List.setIfInBounds_toArray, List.set_cons_zero, List.set_cons_succ]

            refine wpAnyH_all (rs := [1]) (by kernel_rfl) (by simp) ?_
            intro i' hi'
            obtain rfl : i' = 1 := by simpa using hi'
            unfold wpOp
            go_simp
            first | refine (CN.out Wc.drew (kbc.trans hS (fun _ f => f.elim))).mono ?_ | refine Or.inl ((CN.out Wc.drew (kbc.trans hS (fun _ f => f.elim))).mono ?_)

            rintro e Wy ⟨rfl, rfl⟩
            first | refine ⟨hS, ?_⟩ | skip
            refine takeYH (i := 2) (d := 171) (v := .bool true) rfl rfl (by kernel_rfl) (by kernel_rfl) (by kernel_rfl) (fun _ _ _ h => h) (Or.inl ⟨by rfl, fun W hW => ?_⟩) hS ?_
            · (go_simp)
            simp only [Act.put, List.setIfInBounds_toArray, List.set_cons_zero, List.set_cons_succ]
            refine takeYH (i := 13) (d := 182) (v := .bool false) rfl rfl (by kernel_rfl) (by kernel_rfl) (by kernel_rfl) (fun _ _ _ h => h) (Or.inl ⟨by rfl, fun W hW => ?_⟩) hS ?_
            · (go_simp)
            simp only [Act.put, List.setIfInBounds_toArray, List.set_cons_zero, List.set_cons_succ]
            refine takeYH (i := 14) (d := 183) (v := .bool false) rfl rfl (by kernel_rfl) (by kernel_rfl) (by kernel_rfl) (fun _ _ _ h => h) (Or.inl ⟨by rfl, fun W hW => ?_⟩) hS ?_
            · (go_simp)
            simp only [Act.put, List.setIfInBounds_toArray, List.set_cons_zero, List.set_cons_succ]
            refine takeYH (i := 15) (d := 184) (v := .iface 139 (.pointer (some (ad 4)))) rfl rfl (by kernel_rfl) (by kernel_rfl) (by kernel_rfl) (fun _ _ _ h => h) (Or.inl ⟨by rfl, fun W hW => ?_⟩) hS ?_
            · (go_simp)
            simp only [Act.put, List.setIfInBounds_toArray, List.set_cons_zero, List.set_cons_succ]
            refine takeYH (i := 16) (d := 185) (v := .bool true) rfl rfl (by kernel_rfl) (by kernel_rfl) (by kernel_rfl) (fun _ _ _ h => h) (Or.inl ⟨by rfl, fun W hW => ?_⟩) hS ?_
            · (go_simp)
            simp only [Act.put, List.setIfInBounds_toArray, List.set_cons_zero, List.set_cons_succ]
            refine takeYH (i := 17) (d := 186) (v := .bool true) rfl rfl (by kernel_rfl) (by kernel_rfl) (by kernel_rfl) (fun _ _ _ h => h) (Or.inl ⟨by rfl, fun W hW => ?_⟩) hS ?_
            · (go_simp)
            simp only [Act.put, List.setIfInBounds_toArray, List.set_cons_zero, List.set_cons_succ]
            refine takeYH (i := 18) (d := 187) (v := .iface 139 (.pointer (some (ad 4)))) rfl rfl (by kernel_rfl) (by kernel_rfl) (by kernel_rfl) (fun _ _ _ h => h) (Or.inl ⟨by rfl, fun W hW => ?_⟩) hS ?_
            · (go_simp)
            simp only [Act.put, List.setIfInBounds_toArray, List.set_cons_zero, List.set_cons_succ]

            refine wpAnyH_all (rs := [19]) (by kernel_rfl) (by simp) ?_
            intro i' hi'
            obtain rfl : i' = 19 := by simpa using hi'
            unfold wpOp
            go_simp
            first | refine (CN.out Wc.drew (kbc.trans hS (fun _ f => f.elim))).mono ?_ | refine Or.inl ((CN.out Wc.drew (kbc.trans hS (fun _ f => f.elim))).mono ?_)

            rintro e Wy ⟨rfl, rfl⟩
            first | refine ⟨hS, ?_⟩ | skip
            refine takeYH (i := 20) (d := 189) (v := .bool false) rfl rfl (by kernel_rfl) (by kernel_rfl) (by kernel_rfl) (fun _ _ _ h => h) (Or.inl ⟨by rfl, fun W hW => ?_⟩) hS ?_
            · (go_simp)
            simp only [Act.put, List.setIfInBounds_toArray, List.set_cons_zero, List.set_cons_succ]
            refine takeYH (i := 21) (d := 190) (v := .bool false) rfl rfl (by kernel_rfl) (by kernel_rfl) (by kernel_rfl) (fun _ _ _ h => h) (Or.inl ⟨by rfl, fun W hW => ?_⟩) hS ?_
            · (go_simp)
            simp only [Act.put, List.setIfInBounds_toArray, List.set_cons_zero, List.set_cons_succ]
            refine takeYH (i := 22) (d := 191) (v := .bool false) rfl rfl (by kernel_rfl) (by kernel_rfl) (by kernel_rfl) (fun _ _ _ h => h) (Or.inl ⟨by rfl, fun W hW => ?_⟩) hS ?_
            · (go_simp)
            simp only [Act.put, List.setIfInBounds_toArray, List.set_cons_zero, List.set_cons_succ]
            refine wpAnyH_done (by kernel_rfl) ?_ _
            have kbd := kbc.trans hS (fun _ f => f.elim)
            clear ec ac

            have HF := hideH ((HWb.out.later kbd).next)
            clear HWb HRC HEC HAC HROW HRD
            go_wp2_with fail
            go_roundw
            case rel => exact ⟨k + 1, _, _, _, _, _, _, _, _, by omega, by go_num, HF⟩
            case measure => simp [intOf]; omega
          · have hpe : pz = (l 0).length := by rw [← HN2.out]; omega
            have i3 : ¬ (pz : Int) < (n : Int) := by omega
            have CD := hideH (done_anyK (bR 0) (rv 0) (l 0) Wb (by rw [← hpe]; exact HRD.out))
            clear hpe
            have CN : Hid (∀ W, Kept (fun _ => False) Wb W → Calls Tryd.prog 22 #[.nilIface] W fun e w' => e = .returned (.int .i64 0) ∧ w' = W) := hideH (fun W k => num_nilK W)
            go_wp2_with (go_at_call 21; refine StpH.go ?_)
            rw [← hWb]
            refine ⟨?_⟩
            refine CD.out.mono ?_
            clear CD
            clear w0 w1 w2 w3 w4 w5 w6 w7 gr1 hWb
            rintro e Wc ⟨rfl, n4, rfl⟩
            have kbc : Kept (fun _ => False) Wb (Wb.drewN n4) := Kept.drewN _ _
            obtain ⟨Wc, hWc⟩ : ∃ W, W = Wb.drewN n4 := ⟨_, rfl⟩
            rw [← hWc] at kbc ⊢
            clear hWc
            have ec := kbc.cell HEC.out (fun f => f)
            have ac := kbc.cell HAC.out (fun f => f)
            go_wp2_with fail
            have hS : Kept (fun _ => False) Wc Wc.drew := Kept.drew Wc

            refine wp_region_held (S := fun W' => Kept (fun _ => False) Wc W') (by kernel_rfl) ?_
            change wpAnyH _ _ _ _ _ _ _ _ (World.drew _)
            refine takeYH (i := 0) (d := 169) (v := .nilIface) rfl rfl (by kernel_rfl) (by kernel_rfl) (by kernel_rfl) (fun _ _ _ h => h) (Or.inl ⟨by rfl, fun W hW => ?_⟩) hS ?_
            · (go_simp)
            simp only [Act.put, List.setIfInBounds_toArray, List.set_cons_zero, List.set_cons_succ]
            refine takeYH (i := 3) (d := 172) (v := .slice (some ⟨ga, 0, none⟩) 2 2) rfl rfl (by kernel_rfl) (by kernel_rfl) (by kernel_rfl) (fun _ _ _ h => h) (Or.inl ⟨by rfl, fun W hW => ?_⟩) hS ?_
            · (go_simp)
            simp only [Act.put, List.setIfInBounds_toArray, List.set_cons_zero, List.set_cons_succ]
            refine takeYH (i := 4) (d := 173) (v := .int .i64 0) rfl rfl (by kernel_rfl) (by kernel_rfl) (by kernel_rfl) (fun _ _ _ h => h) (Or.inl ⟨by rfl, fun W hW => ?_⟩) hS ?_
            · (go_simp)
            simp only [Act.put, List.setIfInBounds_toArray, List.set_cons_zero, List.set_cons_succ]
            refine takeYH (i := 5) (d := 174) (v := .pointer (some ⟨ga, 0, none⟩)) rfl rfl (by kernel_rfl) (by kernel_rfl) (by kernel_rfl) (fun _ _ _ h => h) (Or.inl ⟨by rfl, fun W hW => ?_⟩) hS ?_
            · (go_simp)
            simp only [Act.put, List.setIfInBounds_toArray, List.set_cons_zero, List.set_cons_succ]
            refine takeYH (i := 6) (d := 175) (v := .int .i64 (pz : Int)) rfl rfl (by kernel_rfl) (by kernel_rfl) (by kernel_rfl) (fun _ _ _ h => h) (Or.inl ⟨by rfl, fun W hW => ?_⟩) hS ?_
            · have x0 := Kept.cell (F := fun _ => False) (w := Wc) (w' := W) hW ac (fun f => f)
              (go_simp)
            simp only [Act.put, List.setIfInBounds_toArray, List.set_cons_zero, List.set_cons_succ]
            refine takeYH (i := 7) (d := 176) (v := .slice (some ⟨gd, 0, none⟩) 2 2) rfl rfl (by kernel_rfl) (by kernel_rfl) (by kernel_rfl) (fun _ _ _ h => h) (Or.inl ⟨by rfl, fun W hW => ?_⟩) hS ?_
            · (go_simp)
            simp only [Act.put, List.setIfInBounds_toArray, List.set_cons_zero, List.set_cons_succ]
            refine takeYH (i := 8) (d := 177) (v := .int .i64 0) rfl rfl (by kernel_rfl) (by kernel_rfl) (by kernel_rfl) (fun _ _ _ h => h) (Or.inl ⟨by rfl, fun W hW => ?_⟩) hS ?_
            · (go_simp)
            simp only [Act.put, List.setIfInBounds_toArray, List.set_cons_zero, List.set_cons_succ]
            refine takeYH (i := 9) (d := 178) (v := .pointer (some ⟨gd, 0, none⟩)) rfl rfl (by kernel_rfl) (by kernel_rfl) (by kernel_rfl) (fun _ _ _ h => h) (Or.inl ⟨by rfl, fun W hW => ?_⟩) hS ?_
            · (go_simp)
            simp only [Act.put, List.setIfInBounds_toArray, List.set_cons_zero, List.set_cons_succ]
            refine takeYH (i := 10) (d := 179) (v := .slice (some ⟨bD, 0, none⟩) n cD) rfl rfl (by kernel_rfl) (by kernel_rfl) (by kernel_rfl) (fun _ _ _ h => h) (Or.inl ⟨by rfl, fun W hW => ?_⟩) hS ?_
            · have x0 := Kept.cell (F := fun _ => False) (w := Wc) (w' := W) hW ec (fun f => f)
              (go_simp)
            simp only [Act.put, List.setIfInBounds_toArray, List.set_cons_zero, List.set_cons_succ]
            refine takeYH (i := 11) (d := 180) (v := .int .i64 (n : Int)) rfl rfl (by kernel_rfl) (by kernel_rfl) (by kernel_rfl) (fun _ _ _ h => h) (Or.inl ⟨by rfl, fun W hW => ?_⟩) hS ?_
            · (go_simp)
            simp only [Act.put, List.setIfInBounds_toArray, List.set_cons_zero, List.set_cons_succ]
            refine takeYH (i := 12) (d := 181) (v := .bool false) rfl rfl (by kernel_rfl) (by kernel_rfl) (by kernel_rfl) (fun _ _ _ h => h) (Or.inl ⟨by rfl, fun W hW => ?_⟩) hS ?_
            · (go_simp)
            simp only [Act.put, List.setIfInBounds_toArray, List.set_cons_zero, List.set_cons_succ]

            refine wpAnyH_all (rs := [1]) (by kernel_rfl) (by simp) ?_
            intro i' hi'
            obtain rfl : i' = 1 := by simpa using hi'
            unfold wpOp
            go_simp
            first | refine (CN.out Wc.drew (kbc.trans hS (fun _ f => f.elim))).mono ?_ | refine Or.inl ((CN.out Wc.drew (kbc.trans hS (fun _ f => f.elim))).mono ?_)

            rintro e Wy ⟨rfl, rfl⟩
            first | refine ⟨hS, ?_⟩ | skip
            refine takeYH (i := 2) (d := 171) (v := .bool false) rfl rfl (by kernel_rfl) (by kernel_rfl) (by kernel_rfl) (fun _ _ _ h => h) (Or.inl ⟨by rfl, fun W hW => ?_⟩) hS ?_
            · (go_simp)
            simp only [Act.put, List.setIfInBounds_toArray, List.set_cons_zero, List.set_cons_succ]
            refine takeYH (i := 13) (d := 182) (v := .bool false) rfl rfl (by kernel_rfl) (by kernel_rfl) (by kernel_rfl) (fun _ _ _ h => h) (Or.inl ⟨by rfl, fun W hW => ?_⟩) hS ?_
            · (go_simp)
            simp only [Act.put, List.setIfInBounds_toArray, List.set_cons_zero, List.set_cons_succ]
            refine takeYH (i := 14) (d := 183) (v := .bool false) rfl rfl (by kernel_rfl) (by kernel_rfl) (by kernel_rfl) (fun _ _ _ h => h) (Or.inl ⟨by rfl, fun W hW => ?_⟩) hS ?_
            · (go_simp)
            simp only [Act.put, List.setIfInBounds_toArray, List.set_cons_zero, List.set_cons_succ]
            refine takeYH (i := 15) (d := 184) (v := .nilIface) rfl rfl (by kernel_rfl) (by kernel_rfl) (by kernel_rfl) (fun _ _ _ h => h) (Or.inl ⟨by rfl, fun W hW => ?_⟩) hS ?_
            · (go_simp)
            simp only [Act.put, List.setIfInBounds_toArray, List.set_cons_zero, List.set_cons_succ]
            refine takeYH (i := 16) (d := 185) (v := .bool false) rfl rfl (by kernel_rfl) (by kernel_rfl) (by kernel_rfl) (fun _ _ _ h => h) (Or.inl ⟨by rfl, fun W hW => ?_⟩) hS ?_
            · (go_simp)
            simp only [Act.put, List.setIfInBounds_toArray, List.set_cons_zero, List.set_cons_succ]
            refine takeYH (i := 17) (d := 186) (v := .bool false) rfl rfl (by kernel_rfl) (by kernel_rfl) (by kernel_rfl) (fun _ _ _ h => h) (Or.inl ⟨by rfl, fun W hW => ?_⟩) hS ?_
            · (go_simp)
            simp only [Act.put, List.setIfInBounds_toArray, List.set_cons_zero, List.set_cons_succ]
            refine takeYH (i := 18) (d := 187) (v := undef) rfl rfl (by kernel_rfl) (by kernel_rfl) (by kernel_rfl) (fun _ _ _ h => h) (Or.inr ⟨by rfl, rfl⟩) hS ?_
            simp only [Act.put, List.setIfInBounds_toArray, List.set_cons_zero, List.set_cons_succ]
            refine takeYH (i := 19) (d := 188) (v := undef) rfl rfl (by kernel_rfl) (by kernel_rfl) (by kernel_rfl) (fun _ _ _ h => h) (Or.inr ⟨by rfl, rfl⟩) hS ?_
            simp only [Act.put, List.setIfInBounds_toArray, List.set_cons_zero, List.set_cons_succ]
            refine takeYH (i := 20) (d := 189) (v := undef) rfl rfl (by kernel_rfl) (by kernel_rfl) (by kernel_rfl) (fun _ _ _ h => h) (Or.inr ⟨by rfl, rfl⟩) hS ?_
            simp only [Act.put, List.setIfInBounds_toArray, List.set_cons_zero, List.set_cons_succ]
            refine takeYH (i := 21) (d := 190) (v := .bool false) rfl rfl (by kernel_rfl) (by kernel_rfl) (by kernel_rfl) (fun _ _ _ h => h) (Or.inl ⟨by rfl, fun W hW => ?_⟩) hS ?_
            · (go_simp)
            simp only [Act.put, List.setIfInBounds_toArray, List.set_cons_zero, List.set_cons_succ]
            refine takeYH (i := 22) (d := 191) (v := .bool false) rfl rfl (by kernel_rfl) (by kernel_rfl) (by kernel_rfl) (fun _ _ _ h => h) (Or.inl ⟨by rfl, fun W hW => ?_⟩) hS ?_
            · (go_simp)
            simp only [Act.put, List.setIfInBounds_toArray, List.set_cons_zero, List.set_cons_succ]
            refine wpAnyH_done (by kernel_rfl) ?_ _
            have kbd := kbc.trans hS (fun _ f => f.elim)
            clear ec ac

            have HF := hideH ((HWb.out.later kbd).next)
            clear HWb HRC HEC HAC HROW HRD
            go_wp2_with fail
            go_roundw
            case rel => exact ⟨k + 1, _, _, _, _, _, _, _, _, by omega, by go_num, HF⟩
            case measure => simp [intOf]; omega

        have d11 : (kd == 11) = false := by rw [beq_eq_false_iff_ne]; exact q11
        have d12 : (kd == 12) = false := by rw [beq_eq_false_iff_ne]; exact q12
        have d13 : (kd == 13) = false := by rw [beq_eq_false_iff_ne]; exact q13
        have kdr : Kept (fun _ => False) Wb Wb.drew := Kept.drew Wb
        obtain ⟨Rk, hRk⟩ : ∃ R, R = rlk kd nn (l 0) pz := ⟨_, rfl⟩
        obtain ⟨nl, hnl⟩ : ∃ n, n = Rk.ls.length := ⟨_, rfl⟩
        have hVn := HWb.out.nV
        have hIn := HWb.out.nI
        have CA : Hid (∀ W (o : Nat → Nat), Rl w W k o bR rv l pR gr gd vd ga kb vB vI V I LB LI → Calls Tryd.prog 23 #[.pointer (some ⟨bR 0, 0, none⟩), .agg #[.int .i64 kd, .bool false, .int .i64 nn, .int .u64 (U : Int), .int .i64 ii, .slice ba2 n5 bc2, .string s, .slice la n7 lc], .pointer (some ⟨kb, 0, none⟩)] W fun e w' => ∃ (a : Option Addr) (c : Nat), e = .returned (.agg #[.int .u64 Rk.u, .string (strOfNums Rk.t), .slice a nl c, .int .i64 (Rk.nx : Int), .int .i64 (Rk.e : Int)]) ∧ Hid (∃ o' vB' vI' V' I' LB' LI', IntsAt w' a Rk.ls ∧ (Rk.ls ≠ [] → ∀ b off, a = some ⟨b, off, none⟩ → W.heap.size ≤ b) ∧ (∀ q, q < W.heap.size → o' q = o q) ∧ R0 w w' o' bR rv l (upK pR 0 Rk.nx) gr gd vd ga pR ∧ Bq w' o' kb vB' vI' V' I' LB' LI' ∧ V'.length ≤ k + 1 ∧ I'.length ≤ k + 1 ∧ Kept (fun q => o q = 0 ∨ o q = 7) W w')) := hideH (fun W o h9 => by
          have hin := rr_in (ad := ad) 0 (by decide) h9.r0 h9.bq HE.out (by omega) (by omega) (HLS.out 0 (by decide))
          rw [← HPZ.out] at hin
          refine (asked_allK false nn (U : Int) ii (.slice ba2 n5 bc2) s (.slice la n7 lc) kd hin hn0 hn1).mono (fun e w' q => ?_)
          rw [← hRk] at q
          obtain ⟨a, c, o', vB', vI', V', I', LB', LI', he, x1, x7, x8, x2, x3, x4, x5, x6⟩ := rr_asked 0 (by decide) h9.r0 h9.bq q
          rw [lkV, ← hnl] at he
          exact ⟨a, c, he, o', vB', vI', V', I', LB', LI', x1, x7, x8, x2, x3, by omega, by omega, x6⟩)
        have CT : Hid (∀ W (o' : Nat → Nat) (pX : Nat → Nat), R0 w W o' bR rv l pX gr gd vd ga pR → Calls Tryd.prog 24 #[.slice (some ⟨bD, 0, none⟩) n cD, .int .i64 (pz : Int), .agg #[.int .i64 kd, .bool false, .int .i64 nn, .int .u64 (U : Int), .int .i64 ii, .slice ba2 n5 bc2, .string s, .slice la n7 lc]] W fun e w' => ∃ (a : Option Addr) (c : Nat), e = .returned (.agg #[.int .u64 Rk.u, .string (strOfNums Rk.t), .slice a nl c, .int .i64 (Rk.nx : Int), .int .i64 (Rk.e : Int)]) ∧ Hid (IntsAt w' a Rk.ls ∧ Kept (fun _ => False) W w' ∧ (Rk.ls ≠ [] → ∀ b off, a = some ⟨b, off, none⟩ → W.heap.size ≤ b))) := hideH (fun W o' pX h9 => by
          have hld := h9.ld 0 (by decide)
          rw [HED.out] at hld
          have hlib : Lib W (.slice (some ⟨bD, 0, none⟩) n cD) (l 0) := Lib.of_own hld
          obtain ⟨a8, c8, e8, hb8⟩ := hlib.bytes
          rw [← HN2.out] at e8
          simp only [Value.slice.injEq] at e8
          obtain ⟨rfl, -, rfl⟩ := e8
          obtain ⟨a9, c9, e9, -, hcap⟩ := hlib.shape
          simp only [Value.slice.injEq] at e9
          refine (told_allK kd false nn (U : Int) ii (.slice ba2 n5 bc2) s (.slice la n7 lc) (l 0) bD 0 n cD pz W HN2.out hb8 (HIS.out 0 (by decide)) (by rw [← HN2.out]; exact hple) (by rw [← HN2.out]; exact hnb) (by rw [← HN2.out] at hcap; omega) hn0 hn1).mono ?_
          rintro e w' ⟨a, c, he, hi, hk9, hnw⟩
          rw [← hRk] at he hi hnw
          rw [lkV, ← hnl] at he
          exact ⟨a, c, he, hi, hk9, hnw⟩)
        have hlen : nl ≤ 33554432 := by
          rw [hnl, hRk]
          exact rlk_lenK kd nn (l 0) pz (HLS.out 0 (by decide))
        have HNL := hideH hnl
        have nF1 : ¬ (o1 gd = 0 ∨ o1 gd = 7) := by have := HWb.out.r0.oh; omega
        have nF2 : ¬ (o1 ga = 0 ∨ o1 ga = 7) := by have := HWb.out.r0.oa; omega
        have nF3 : ¬ (o1 Wa.heap.size = 0 ∨ o1 Wa.heap.size = 7) := by omega
        clear hRk hnl
        go_upto_region 28 with fail
        rw [← hWb]
        clear w0 w1 w2 w3 w4 w5 w6 w7 gr1 hWb

        go_cut [22, 23] (fun s22 s23 wx => ∃ (g22 g23 : Nat), s22 = .pointer (some ⟨g22, 0, none⟩) ∧ s23 = .pointer (some ⟨g23, 0, none⟩) ∧ Hid (AskD w wx k bR rv l (upK pR 0 Rk.nx) pR gr gd vd ga kb Rk nl g22 g23))
        case first =>
          as_aux_lemma =>
            have hS : Kept (fun q => o1 q = 0 ∨ o1 q = 7) Wb Wb.drew := kdr.mono (fun _ f => f.elim)

            refine wp_region_held (S := fun W' => Kept (fun q => o1 q = 0 ∨ o1 q = 7) Wb W') (by kernel_rfl) ?_
            change wpAnyH _ _ _ _ _ _ _ _ (World.drew _)
            refine takeYH (i := 0) (d := 111) (v := .pointer (some ⟨bR 0, 0, none⟩)) rfl rfl (by kernel_rfl) (by kernel_rfl) (by kernel_rfl) (fun _ _ _ h => h) (Or.inl ⟨by rfl, fun W hW => ?_⟩) hS ?_
            · (go_simp)
            simp only [Act.put, List.setIfInBounds_toArray, List.set_cons_zero, List.set_cons_succ]
            refine takeYH (i := 1) (d := 112) (v := .agg #[.int .i64 kd, .bool false, .int .i64 nn, .int .u64 (U : Int), .int .i64 ii, .slice ba2 n5 bc2, .string s, .slice la n7 lc]) rfl rfl (by kernel_rfl) (by kernel_rfl) (by kernel_rfl) (fun _ _ _ h => h) (Or.inl ⟨by rfl, fun W hW => ?_⟩) hS ?_
            · have hro := Kept.heap (F := fun q => o1 q = 0 ∨ o1 q = 7) (w := Wb) (w' := W) hW HROW.out nF3
              have y0 : W.cell? ⟨Wa.heap.size, 0, none⟩ = some (.int .i64 kd) := by rw [cell_of_row _ _ 0 _ _ _ hro]; rfl
              have y1 : W.cell? ⟨Wa.heap.size, 1, none⟩ = some (.bool false) := by rw [cell_of_row _ _ 1 _ _ _ hro]; rfl
              have y2 : W.cell? ⟨Wa.heap.size, 2, none⟩ = some (.int .i64 nn) := by rw [cell_of_row _ _ 2 _ _ _ hro]; rfl
              have y3 : W.cell? ⟨Wa.heap.size, 3, none⟩ = some (.int .u64 (U : Int)) := by rw [cell_of_row _ _ 3 _ _ _ hro]; rfl
              have y4 : W.cell? ⟨Wa.heap.size, 4, none⟩ = some (.int .i64 ii) := by rw [cell_of_row _ _ 4 _ _ _ hro]; rfl
              have y5 : W.cell? ⟨Wa.heap.size, 5, none⟩ = some (.slice ba2 n5 bc2) := by rw [cell_of_row _ _ 5 _ _ _ hro]; rfl
              have y6 : W.cell? ⟨Wa.heap.size, 6, none⟩ = some (.string s) := by rw [cell_of_row _ _ 6 _ _ _ hro]; rfl
              have y7 : W.cell? ⟨Wa.heap.size, 7, none⟩ = some (.slice la n7 lc) := by rw [cell_of_row _ _ 7 _ _ _ hro]; rfl
              (go_simp)
            simp only [Act.put, List.setIfInBounds_toArray, List.set_cons_zero, List.set_cons_succ]
            refine takeYH (i := 2) (d := 113) (v := .pointer (some ⟨kb, 0, none⟩)) rfl rfl (by kernel_rfl) (by kernel_rfl) (by kernel_rfl) (fun _ _ _ h => h) (Or.inl ⟨by rfl, fun W hW => ?_⟩) hS ?_
            · (go_simp)
            simp only [Act.put, List.setIfInBounds_toArray, List.set_cons_zero, List.set_cons_succ]
            refine takeYH (i := 4) (d := 115) (v := .slice (some ⟨gd, 0, none⟩) 2 2) rfl rfl (by kernel_rfl) (by kernel_rfl) (by kernel_rfl) (fun _ _ _ h => h) (Or.inl ⟨by rfl, fun W hW => ?_⟩) hS ?_
            · (go_simp)
            simp only [Act.put, List.setIfInBounds_toArray, List.set_cons_zero, List.set_cons_succ]
            refine takeYH (i := 5) (d := 116) (v := .int .i64 0) rfl rfl (by kernel_rfl) (by kernel_rfl) (by kernel_rfl) (fun _ _ _ h => h) (Or.inl ⟨by rfl, fun W hW => ?_⟩) hS ?_
            · (go_simp)
            simp only [Act.put, List.setIfInBounds_toArray, List.set_cons_zero, List.set_cons_succ]
            refine takeYH (i := 6) (d := 117) (v := .pointer (some ⟨gd, 0, none⟩)) rfl rfl (by kernel_rfl) (by kernel_rfl) (by kernel_rfl) (fun _ _ _ h => h) (Or.inl ⟨by rfl, fun W hW => ?_⟩) hS ?_
            · (go_simp)
            simp only [Act.put, List.setIfInBounds_toArray, List.set_cons_zero, List.set_cons_succ]
            refine takeYH (i := 7) (d := 118) (v := .slice (some ⟨bD, 0, none⟩) n cD) rfl rfl (by kernel_rfl) (by kernel_rfl) (by kernel_rfl) (fun _ _ _ h => h) (Or.inl ⟨by rfl, fun W hW => ?_⟩) hS ?_
            · have x0 := Kept.cell (F := fun q => o1 q = 0 ∨ o1 q = 7) (w := Wb) (w' := W) hW HEC.out nF1
              (go_simp)
            simp only [Act.put, List.setIfInBounds_toArray, List.set_cons_zero, List.set_cons_succ]
            refine takeYH (i := 8) (d := 119) (v := .slice (some ⟨ga, 0, none⟩) 2 2) rfl rfl (by kernel_rfl) (by kernel_rfl) (by kernel_rfl) (fun _ _ _ h => h) (Or.inl ⟨by rfl, fun W hW => ?_⟩) hS ?_
            · (go_simp)
            simp only [Act.put, List.setIfInBounds_toArray, List.set_cons_zero, List.set_cons_succ]
            refine takeYH (i := 9) (d := 120) (v := .int .i64 0) rfl rfl (by kernel_rfl) (by kernel_rfl) (by kernel_rfl) (fun _ _ _ h => h) (Or.inl ⟨by rfl, fun W hW => ?_⟩) hS ?_
            · (go_simp)
            simp only [Act.put, List.setIfInBounds_toArray, List.set_cons_zero, List.set_cons_succ]
            refine takeYH (i := 10) (d := 121) (v := .pointer (some ⟨ga, 0, none⟩)) rfl rfl (by kernel_rfl) (by kernel_rfl) (by kernel_rfl) (fun _ _ _ h => h) (Or.inl ⟨by rfl, fun W hW => ?_⟩) hS ?_
            · (go_simp)
            simp only [Act.put, List.setIfInBounds_toArray, List.set_cons_zero, List.set_cons_succ]
            refine takeYH (i := 11) (d := 122) (v := .int .i64 (pz : Int)) rfl rfl (by kernel_rfl) (by kernel_rfl) (by kernel_rfl) (fun _ _ _ h => h) (Or.inl ⟨by rfl, fun W hW => ?_⟩) hS ?_
            · have x0 := Kept.cell (F := fun q => o1 q = 0 ∨ o1 q = 7) (w := Wb) (w' := W) hW HAC.out nF2
              (go_simp)
            simp only [Act.put, List.setIfInBounds_toArray, List.set_cons_zero, List.set_cons_succ]
            refine takeYH (i := 12) (d := 123) (v := .agg #[.int .i64 kd, .bool false, .int .i64 nn, .int .u64 (U : Int), .int .i64 ii, .slice ba2 n5 bc2, .string s, .slice la n7 lc]) rfl rfl (by kernel_rfl) (by kernel_rfl) (by kernel_rfl) (fun _ _ _ h => h) (Or.inl ⟨by rfl, fun W hW => ?_⟩) hS ?_
            · have hro := Kept.heap (F := fun q => o1 q = 0 ∨ o1 q = 7) (w := Wb) (w' := W) hW HROW.out nF3
              have y0 : W.cell? ⟨Wa.heap.size, 0, none⟩ = some (.int .i64 kd) := by rw [cell_of_row _ _ 0 _ _ _ hro]; rfl
              have y1 : W.cell? ⟨Wa.heap.size, 1, none⟩ = some (.bool false) := by rw [cell_of_row _ _ 1 _ _ _ hro]; rfl
              have y2 : W.cell? ⟨Wa.heap.size, 2, none⟩ = some (.int .i64 nn) := by rw [cell_of_row _ _ 2 _ _ _ hro]; rfl
              have y3 : W.cell? ⟨Wa.heap.size, 3, none⟩ = some (.int .u64 (U : Int)) := by rw [cell_of_row _ _ 3 _ _ _ hro]; rfl
              have y4 : W.cell? ⟨Wa.heap.size, 4, none⟩ = some (.int .i64 ii) := by rw [cell_of_row _ _ 4 _ _ _ hro]; rfl
              have y5 : W.cell? ⟨Wa.heap.size, 5, none⟩ = some (.slice ba2 n5 bc2) := by rw [cell_of_row _ _ 5 _ _ _ hro]; rfl
              have y6 : W.cell? ⟨Wa.heap.size, 6, none⟩ = some (.string s) := by rw [cell_of_row _ _ 6 _ _ _ hro]; rfl
              have y7 : W.cell? ⟨Wa.heap.size, 7, none⟩ = some (.slice la n7 lc) := by rw [cell_of_row _ _ 7 _ _ _ hro]; rfl
              (go_simp)
            simp only [Act.put, List.setIfInBounds_toArray, List.set_cons_zero, List.set_cons_succ]

            have hRL := HWb.out.later kdr
            have key0 : ∀ q, q < Wb.heap.size → o1 q = o1 q := fun _ _ => rfl
            obtain ⟨Wd, hWd⟩ : ∃ W, W = Wb.drew := ⟨_, rfl⟩
            rw [← hWd] at hS hRL ⊢
            clear hWd

            refine wpAnyH_all (rs := [3, 14, 15]) (by kernel_rfl) (by simp) ?_
            intro i' hi'
            simp only [List.mem_cons, List.not_mem_nil, or_false] at hi'
            rcases hi' with rfl | rfl | rfl
            · unfold wpOp
              go_simp
              first | refine (CA.out Wd o1 hRL).mono ?_ | refine Or.inl ((CA.out Wd o1 hRL).mono ?_)
              rintro e X1 ⟨aY1, cY1, rfl, HY1⟩
              obtain ⟨o101, vB1, vI1, V1, I1, LB1, LI1, IY1, NY1, ke1, r1, b1, lv1, li1, ky1⟩ := HY1.out
              have S1 := hS.trans ky1 (fun q f => by
                by_cases hq : q < Wb.heap.size
                · have f2 : o1 q = 0 ∨ o1 q = 7 := f
                  rw [key0 q hq] at f2
                  exact .inl f2
                · exact .inr (by omega))
              first | refine Or.inl ⟨S1, ?_⟩ | refine ⟨S1, ?_⟩

              refine wpAnyH_all (rs := [13, 14, 15]) (by kernel_rfl) (by simp) ?_
              intro i' hi'
              simp only [List.mem_cons, List.not_mem_nil, or_false] at hi'
              rcases hi' with rfl | rfl | rfl
              · unfold wpOp
                go_simp
                first | refine (CT.out X1 o101 _ r1).mono ?_ | refine Or.inl ((CT.out X1 o101 _ r1).mono ?_)
                rintro e X2 ⟨aT2, cT2, rfl, HT2⟩
                obtain ⟨IT2, kT2, NT2⟩ := HT2.out
                have S2 := S1.trans kT2 (fun _ f => f.elim)
                first | refine Or.inl ⟨S2, ?_⟩ | refine ⟨S2, ?_⟩
                have r2 := r1.later kT2
                have b2 := b1.later kT2
                have IY2 := ints_laterK IY1 kT2

                refine wpAnyH_all (rs := [14, 15]) (by kernel_rfl) (by simp) ?_
                intro i' hi'
                simp only [List.mem_cons, List.not_mem_nil, or_false] at hi'
                rcases hi' with rfl | rfl
                · unfold wpOp
                  go_simp
                  obtain ⟨X3, hX3⟩ : ∃ W', W' = X2.alloc (.cells #[.int .u64 0, .string ⟨#[]⟩, .slice none 0 0, .int .i64 0, .int .i64 0] 60) := ⟨_, rfl⟩
                  have kA3 : Kept (fun _ => False) X2 X3 := by rw [hX3]; exact Kept.alloc _ _
                  have hg3 : X3.heap[X2.heap.size]? = some (.cells #[.int .u64 0, .string ⟨#[]⟩, .slice none 0 0, .int .i64 0, .int .i64 0] 60 (0, 0)) := by rw [hX3]; exact heap_alloc_new X2 _
                  have S3 := S2.trans kA3 (fun _ f => f.elim)
                  rw [← hX3]
                  obtain ⟨g3, hq3⟩ : ∃ g, g = X2.heap.size := ⟨_, rfl⟩
                  rw [← hq3] at hg3 ⊢
                  have lb3 : Wb.heap.size ≤ g3 := by have := S2.size; omega
                  first | refine Or.inl ⟨S3, ?_⟩ | refine ⟨S3, ?_⟩
                  have r3 := r2.keep kA3 (fun _ f => f.elim) (newK X2.heap.size 8 o101) (fun _ hq => newK_old hq)
                  have b3 := b2.keep kA3 (fun _ f => f.elim) (newK X2.heap.size 8 o101) (fun _ hq => newK_old hq)
                  have cg3 : newK X2.heap.size 8 o101 g3 = 8 := newK_new (by omega)
                  have IY3 := ints_laterK IY2 kA3
                  have DY3 : Rk.ls ≠ [] → ∀ b off, aY1 = some ⟨b, off, none⟩ → b ≠ g3 := fun h b off e => by have := ints_ltK IY2 h e; omega
                  have IT3 := ints_laterK IT2 kA3
                  have DT3 : Rk.ls ≠ [] → ∀ b off, aT2 = some ⟨b, off, none⟩ → b ≠ g3 := fun h b off e => by have := ints_ltK IT2 h e; omega
                  generalize newK X2.heap.size 8 o101 = o103 at r3 b3 cg3
                  clear hX3 hq3

                  refine wpAnyH_all (rs := [15]) (by kernel_rfl) (by simp) ?_
                  intro i' hi'
                  simp only [List.mem_cons, List.not_mem_nil, or_false] at hi'
                  obtain rfl := hi'
                  unfold wpOp
                  go_simp
                  obtain ⟨X4, hX4⟩ : ∃ W', W' = X3.alloc (.cells #[.int .u64 0, .string ⟨#[]⟩, .slice none 0 0, .int .i64 0, .int .i64 0] 60) := ⟨_, rfl⟩
                  have kA4 : Kept (fun _ => False) X3 X4 := by rw [hX4]; exact Kept.alloc _ _
                  have hg4 : X4.heap[X3.heap.size]? = some (.cells #[.int .u64 0, .string ⟨#[]⟩, .slice none 0 0, .int .i64 0, .int .i64 0] 60 (0, 0)) := by rw [hX4]; exact heap_alloc_new X3 _
                  have S4 := S3.trans kA4 (fun _ f => f.elim)
                  rw [← hX4]
                  obtain ⟨g4, hq4⟩ : ∃ g, g = X3.heap.size := ⟨_, rfl⟩
                  rw [← hq4] at hg4 ⊢
                  have lb4 : Wb.heap.size ≤ g4 := by have := S3.size; omega
                  first | refine Or.inl ⟨S4, ?_⟩ | refine ⟨S4, ?_⟩
                  have r4 := r3.keep kA4 (fun _ f => f.elim) (newK X3.heap.size 8 o103) (fun _ hq => newK_old hq)
                  have b4 := b3.keep kA4 (fun _ f => f.elim) (newK X3.heap.size 8 o103) (fun _ hq => newK_old hq)
                  have cg4 : newK X3.heap.size 8 o103 g4 = 8 := newK_new (by omega)
                  have h22_4 := kA4.heap hg3 (fun f => f)
                  have c22_4 : newK X3.heap.size 8 o103 g3 = 8 := (newK_old (lt_of_block hg3)).trans cg3
                  have ne_4 : g3 ≠ g4 := by have := lt_of_block hg3; omega
                  have IY4 := ints_laterK IY3 kA4
                  have DY4 : Rk.ls ≠ [] → ∀ b off, aY1 = some ⟨b, off, none⟩ → b ≠ g4 := fun h b off e => by have := ints_ltK IY3 h e; omega
                  have IT4 := ints_laterK IT3 kA4
                  have DT4 : Rk.ls ≠ [] → ∀ b off, aT2 = some ⟨b, off, none⟩ → b ≠ g4 := fun h b off e => by have := ints_ltK IT3 h e; omega
                  generalize newK X3.heap.size 8 o103 = o104 at r4 b4 cg4 c22_4
                  clear hX4 hq4

                  have hn0 : g3 ≠ g4 := by exact ne_4
                  have p0 : X4.cell? ⟨g3, 0, none⟩ = some (.int .u64 0) := by rw [cell_of_row _ _ 0 _ _ _ h22_4]; rfl
                  have p1 : X4.cell? ⟨g3, 1, none⟩ = some (.string ⟨#[]⟩) := by rw [cell_of_row _ _ 1 _ _ _ h22_4]; rfl
                  have p2 : X4.cell? ⟨g3, 2, none⟩ = some (.slice none 0 0) := by rw [cell_of_row _ _ 2 _ _ _ h22_4]; rfl
                  have p3 : X4.cell? ⟨g3, 3, none⟩ = some (.int .i64 0) := by rw [cell_of_row _ _ 3 _ _ _ h22_4]; rfl
                  have p4 : X4.cell? ⟨g3, 4, none⟩ = some (.int .i64 0) := by rw [cell_of_row _ _ 4 _ _ _ h22_4]; rfl
                  have pf : ∀ j, X4.frozen? ⟨g3, j, none⟩ = false := fun j => by simp [World.frozen?, h22_4]

                  refine wpAnyH_all (rs := [16]) (by kernel_rfl) (by simp) ?_
                  intro i' hi'
                  obtain rfl : i' = 16 := by simpa using hi'
                  unfold wpOp
                  go_simp
                  have k16 := keep5K (W := X4) (g := g3) (v0 := .int .u64 Rk.u) (v1 := .string (strOfNums Rk.t)) (v2 := .slice aY1 nl cY1) (v3 := .int .i64 (Rk.nx : Int)) (v4 := .int .i64 (Rk.e : Int))
                  have e22 := look_put5K (v0 := .int .u64 Rk.u) (v1 := .string (strOfNums Rk.t)) (v2 := .slice aY1 nl cY1) (v3 := .int .i64 (Rk.nx : Int)) (v4 := .int .i64 (Rk.e : Int)) h22_4
                  obtain ⟨W16, hW16⟩ : ∃ W', W' = (((((X4.setCell ⟨g3, 0, none⟩ (.int .u64 Rk.u)).setCell ⟨g3, 1, none⟩ (.string (strOfNums Rk.t))).setCell ⟨g3, 2, none⟩ (.slice aY1 nl cY1)).setCell ⟨g3, 3, none⟩ (.int .i64 (Rk.nx : Int))).setCell ⟨g3, 4, none⟩ (.int .i64 (Rk.e : Int))) := ⟨_, rfl⟩
                  rw [← hW16] at k16 e22 ⊢
                  have S16 := S4.trans k16 (fun q f => .inr (by have f2 : q = g3 := f; omega))
                  first | refine Or.inl ⟨S16, ?_⟩ | refine ⟨S16, ?_⟩
                  have r16 := r4.keep k16 (fun q f _ => by have f2 : q = g3 := f; rw [f2, c22_4]; decide) o104 (fun _ _ => rfl)
                  have b16 := b4.keep k16 (fun q f _ => by have f2 : q = g3 := f; rw [f2, c22_4]; decide) o104 (fun _ _ => rfl)
                  have Y16 := ints_keepK IY4 k16 (fun h b off e f => DY3 h b off e f)
                  have T16 := ints_keepK IT4 k16 (fun h b off e f => DT3 h b off e f)
                  have e23 := k16.heap hg4 (fun f => hn0 f.symm)
                  clear hW16 p0 p1 p2 p3 p4 pf
                  have p0 : W16.cell? ⟨g4, 0, none⟩ = some (.int .u64 0) := by rw [cell_of_row _ _ 0 _ _ _ e23]; rfl
                  have p1 : W16.cell? ⟨g4, 1, none⟩ = some (.string ⟨#[]⟩) := by rw [cell_of_row _ _ 1 _ _ _ e23]; rfl
                  have p2 : W16.cell? ⟨g4, 2, none⟩ = some (.slice none 0 0) := by rw [cell_of_row _ _ 2 _ _ _ e23]; rfl
                  have p3 : W16.cell? ⟨g4, 3, none⟩ = some (.int .i64 0) := by rw [cell_of_row _ _ 3 _ _ _ e23]; rfl
                  have p4 : W16.cell? ⟨g4, 4, none⟩ = some (.int .i64 0) := by rw [cell_of_row _ _ 4 _ _ _ e23]; rfl
                  have pf : ∀ j, W16.frozen? ⟨g4, j, none⟩ = false := fun j => by simp [World.frozen?, e23]

                  refine wpAnyH_all (rs := [17]) (by kernel_rfl) (by simp) ?_
                  intro i' hi'
                  obtain rfl : i' = 17 := by simpa using hi'
                  unfold wpOp
                  go_simp
                  have k17 := keep5K (W := W16) (g := g4) (v0 := .int .u64 Rk.u) (v1 := .string (strOfNums Rk.t)) (v2 := .slice aT2 nl cT2) (v3 := .int .i64 (Rk.nx : Int)) (v4 := .int .i64 (Rk.e : Int))
                  have e23b := look_put5K (v0 := .int .u64 Rk.u) (v1 := .string (strOfNums Rk.t)) (v2 := .slice aT2 nl cT2) (v3 := .int .i64 (Rk.nx : Int)) (v4 := .int .i64 (Rk.e : Int)) e23
                  obtain ⟨W17, hW17⟩ : ∃ W', W' = (((((W16.setCell ⟨g4, 0, none⟩ (.int .u64 Rk.u)).setCell ⟨g4, 1, none⟩ (.string (strOfNums Rk.t))).setCell ⟨g4, 2, none⟩ (.slice aT2 nl cT2)).setCell ⟨g4, 3, none⟩ (.int .i64 (Rk.nx : Int))).setCell ⟨g4, 4, none⟩ (.int .i64 (Rk.e : Int))) := ⟨_, rfl⟩
                  rw [← hW17] at k17 e23b ⊢
                  have S17 := S16.trans k17 (fun q f => .inr (by have f2 : q = g4 := f; omega))
                  first | refine Or.inl ⟨S17, ?_⟩ | refine ⟨S17, ?_⟩
                  have HA9 : Hid (AskD w W17 k bR rv l (upK pR 0 Rk.nx) pR gr gd vd ga kb Rk nl g3 g4) := hideH ⟨_, _, _, _, o104, _, _, _, _, _, _, k17.heap e22 (fun f => hn0 f), e23b, ints_keepK Y16 k17 (fun h b off e f => DY4 h b off e f), ints_keepK T16 k17 (fun h b off e f => DT4 h b off e f), r16.keep k17 (fun q f _ => by have f2 : q = g4 := f; rw [f2, cg4]; decide) o104 (fun _ _ => rfl), b16.keep k17 (fun q f _ => by have f2 : q = g4 := f; rw [f2, cg4]; decide) o104 (fun _ _ => rfl), lv1, li1⟩
                  clear hW17 p0 p1 p2 p3 p4 pf
                  refine wpAnyH_done (by kernel_rfl) ?_ _
                  go_wp2_with fail
                  go_meet
                  case rel => exact ⟨_, _, rfl, rfl, HA9⟩
                · unfold wpOp
                  go_simp
                  obtain ⟨X5, hX5⟩ : ∃ W', W' = X2.alloc (.cells #[.int .u64 0, .string ⟨#[]⟩, .slice none 0 0, .int .i64 0, .int .i64 0] 60) := ⟨_, rfl⟩
                  have kA5 : Kept (fun _ => False) X2 X5 := by rw [hX5]; exact Kept.alloc _ _
                  have hg5 : X5.heap[X2.heap.size]? = some (.cells #[.int .u64 0, .string ⟨#[]⟩, .slice none 0 0, .int .i64 0, .int .i64 0] 60 (0, 0)) := by rw [hX5]; exact heap_alloc_new X2 _
                  have S5 := S2.trans kA5 (fun _ f => f.elim)
                  rw [← hX5]
                  obtain ⟨g5, hq5⟩ : ∃ g, g = X2.heap.size := ⟨_, rfl⟩
                  rw [← hq5] at hg5 ⊢
                  have lb5 : Wb.heap.size ≤ g5 := by have := S2.size; omega
                  first | refine Or.inl ⟨S5, ?_⟩ | refine ⟨S5, ?_⟩
                  have r5 := r2.keep kA5 (fun _ f => f.elim) (newK X2.heap.size 8 o101) (fun _ hq => newK_old hq)
                  have b5 := b2.keep kA5 (fun _ f => f.elim) (newK X2.heap.size 8 o101) (fun _ hq => newK_old hq)
                  have cg5 : newK X2.heap.size 8 o101 g5 = 8 := newK_new (by omega)
                  have IY5 := ints_laterK IY2 kA5
                  have DY5 : Rk.ls ≠ [] → ∀ b off, aY1 = some ⟨b, off, none⟩ → b ≠ g5 := fun h b off e => by have := ints_ltK IY2 h e; omega
                  have IT5 := ints_laterK IT2 kA5
                  have DT5 : Rk.ls ≠ [] → ∀ b off, aT2 = some ⟨b, off, none⟩ → b ≠ g5 := fun h b off e => by have := ints_ltK IT2 h e; omega
                  generalize newK X2.heap.size 8 o101 = o105 at r5 b5 cg5
                  clear hX5 hq5

                  refine wpAnyH_all (rs := [14]) (by kernel_rfl) (by simp) ?_
                  intro i' hi'
                  simp only [List.mem_cons, List.not_mem_nil, or_false] at hi'
                  obtain rfl := hi'
                  unfold wpOp
                  go_simp
                  obtain ⟨X6, hX6⟩ : ∃ W', W' = X5.alloc (.cells #[.int .u64 0, .string ⟨#[]⟩, .slice none 0 0, .int .i64 0, .int .i64 0] 60) := ⟨_, rfl⟩
                  have kA6 : Kept (fun _ => False) X5 X6 := by rw [hX6]; exact Kept.alloc _ _
                  have hg6 : X6.heap[X5.heap.size]? = some (.cells #[.int .u64 0, .string ⟨#[]⟩, .slice none 0 0, .int .i64 0, .int .i64 0] 60 (0, 0)) := by rw [hX6]; exact heap_alloc_new X5 _
                  have S6 := S5.trans kA6 (fun _ f => f.elim)
                  rw [← hX6]
                  obtain ⟨g6, hq6⟩ : ∃ g, g = X5.heap.size := ⟨_, rfl⟩
                  rw [← hq6] at hg6 ⊢
                  have lb6 : Wb.heap.size ≤ g6 := by have := S5.size; omega
                  first | refine Or.inl ⟨S6, ?_⟩ | refine ⟨S6, ?_⟩
                  have r6 := r5.keep kA6 (fun _ f => f.elim) (newK X5.heap.size 8 o105) (fun _ hq => newK_old hq)
                  have b6 := b5.keep kA6 (fun _ f => f.elim) (newK X5.heap.size 8 o105) (fun _ hq => newK_old hq)
                  have cg6 : newK X5.heap.size 8 o105 g6 = 8 := newK_new (by omega)
                  have h23_6 := kA6.heap hg5 (fun f => f)
                  have c23_6 : newK X5.heap.size 8 o105 g5 = 8 := (newK_old (lt_of_block hg5)).trans cg5
                  have ne_6 : g5 ≠ g6 := by have := lt_of_block hg5; omega
                  have IY6 := ints_laterK IY5 kA6
                  have DY6 : Rk.ls ≠ [] → ∀ b off, aY1 = some ⟨b, off, none⟩ → b ≠ g6 := fun h b off e => by have := ints_ltK IY5 h e; omega
                  have IT6 := ints_laterK IT5 kA6
                  have DT6 : Rk.ls ≠ [] → ∀ b off, aT2 = some ⟨b, off, none⟩ → b ≠ g6 := fun h b off e => by have := ints_ltK IT5 h e; omega
                  generalize newK X5.heap.size 8 o105 = o106 at r6 b6 cg6 c23_6
                  clear hX6 hq6

                  have hn0 : g6 ≠ g5 := by exact fun e => ne_6 e.symm
                  have p0 : X6.cell? ⟨g6, 0, none⟩ = some (.int .u64 0) := by rw [cell_of_row _ _ 0 _ _ _ hg6]; rfl
                  have p1 : X6.cell? ⟨g6, 1, none⟩ = some (.string ⟨#[]⟩) := by rw [cell_of_row _ _ 1 _ _ _ hg6]; rfl
                  have p2 : X6.cell? ⟨g6, 2, none⟩ = some (.slice none 0 0) := by rw [cell_of_row _ _ 2 _ _ _ hg6]; rfl
                  have p3 : X6.cell? ⟨g6, 3, none⟩ = some (.int .i64 0) := by rw [cell_of_row _ _ 3 _ _ _ hg6]; rfl
                  have p4 : X6.cell? ⟨g6, 4, none⟩ = some (.int .i64 0) := by rw [cell_of_row _ _ 4 _ _ _ hg6]; rfl
                  have pf : ∀ j, X6.frozen? ⟨g6, j, none⟩ = false := fun j => by simp [World.frozen?, hg6]

                  refine wpAnyH_all (rs := [16]) (by kernel_rfl) (by simp) ?_
                  intro i' hi'
                  obtain rfl : i' = 16 := by simpa using hi'
                  unfold wpOp
                  go_simp
                  have k16 := keep5K (W := X6) (g := g6) (v0 := .int .u64 Rk.u) (v1 := .string (strOfNums Rk.t)) (v2 := .slice aY1 nl cY1) (v3 := .int .i64 (Rk.nx : Int)) (v4 := .int .i64 (Rk.e : Int))
                  have e22 := look_put5K (v0 := .int .u64 Rk.u) (v1 := .string (strOfNums Rk.t)) (v2 := .slice aY1 nl cY1) (v3 := .int .i64 (Rk.nx : Int)) (v4 := .int .i64 (Rk.e : Int)) hg6
                  obtain ⟨W16, hW16⟩ : ∃ W', W' = (((((X6.setCell ⟨g6, 0, none⟩ (.int .u64 Rk.u)).setCell ⟨g6, 1, none⟩ (.string (strOfNums Rk.t))).setCell ⟨g6, 2, none⟩ (.slice aY1 nl cY1)).setCell ⟨g6, 3, none⟩ (.int .i64 (Rk.nx : Int))).setCell ⟨g6, 4, none⟩ (.int .i64 (Rk.e : Int))) := ⟨_, rfl⟩
                  rw [← hW16] at k16 e22 ⊢
                  have S16 := S6.trans k16 (fun q f => .inr (by have f2 : q = g6 := f; omega))
                  first | refine Or.inl ⟨S16, ?_⟩ | refine ⟨S16, ?_⟩
                  have r16 := r6.keep k16 (fun q f _ => by have f2 : q = g6 := f; rw [f2, cg6]; decide) o106 (fun _ _ => rfl)
                  have b16 := b6.keep k16 (fun q f _ => by have f2 : q = g6 := f; rw [f2, cg6]; decide) o106 (fun _ _ => rfl)
                  have Y16 := ints_keepK IY6 k16 (fun h b off e f => DY6 h b off e f)
                  have T16 := ints_keepK IT6 k16 (fun h b off e f => DT6 h b off e f)
                  have e23 := k16.heap h23_6 (fun f => hn0 f.symm)
                  clear hW16 p0 p1 p2 p3 p4 pf
                  have p0 : W16.cell? ⟨g5, 0, none⟩ = some (.int .u64 0) := by rw [cell_of_row _ _ 0 _ _ _ e23]; rfl
                  have p1 : W16.cell? ⟨g5, 1, none⟩ = some (.string ⟨#[]⟩) := by rw [cell_of_row _ _ 1 _ _ _ e23]; rfl
                  have p2 : W16.cell? ⟨g5, 2, none⟩ = some (.slice none 0 0) := by rw [cell_of_row _ _ 2 _ _ _ e23]; rfl
                  have p3 : W16.cell? ⟨g5, 3, none⟩ = some (.int .i64 0) := by rw [cell_of_row _ _ 3 _ _ _ e23]; rfl
                  have p4 : W16.cell? ⟨g5, 4, none⟩ = some (.int .i64 0) := by rw [cell_of_row _ _ 4 _ _ _ e23]; rfl
                  have pf : ∀ j, W16.frozen? ⟨g5, j, none⟩ = false := fun j => by simp [World.frozen?, e23]

                  refine wpAnyH_all (rs := [17]) (by kernel_rfl) (by simp) ?_
                  intro i' hi'
                  obtain rfl : i' = 17 := by simpa using hi'
                  unfold wpOp
                  go_simp
                  have k17 := keep5K (W := W16) (g := g5) (v0 := .int .u64 Rk.u) (v1 := .string (strOfNums Rk.t)) (v2 := .slice aT2 nl cT2) (v3 := .int .i64 (Rk.nx : Int)) (v4 := .int .i64 (Rk.e : Int))
                  have e23b := look_put5K (v0 := .int .u64 Rk.u) (v1 := .string (strOfNums Rk.t)) (v2 := .slice aT2 nl cT2) (v3 := .int .i64 (Rk.nx : Int)) (v4 := .int .i64 (Rk.e : Int)) e23
                  obtain ⟨W17, hW17⟩ : ∃ W', W' = (((((W16.setCell ⟨g5, 0, none⟩ (.int .u64 Rk.u)).setCell ⟨g5, 1, none⟩ (.string (strOfNums Rk.t))).setCell ⟨g5, 2, none⟩ (.slice aT2 nl cT2)).setCell ⟨g5, 3, none⟩ (.int .i64 (Rk.nx : Int))).setCell ⟨g5, 4, none⟩ (.int .i64 (Rk.e : Int))) := ⟨_, rfl⟩
                  rw [← hW17] at k17 e23b ⊢
                  have S17 := S16.trans k17 (fun q f => .inr (by have f2 : q = g5 := f; omega))
                  first | refine Or.inl ⟨S17, ?_⟩ | refine ⟨S17, ?_⟩
                  have HA9 : Hid (AskD w W17 k bR rv l (upK pR 0 Rk.nx) pR gr gd vd ga kb Rk nl g6 g5) := hideH ⟨_, _, _, _, o106, _, _, _, _, _, _, k17.heap e22 (fun f => hn0 f), e23b, ints_keepK Y16 k17 (fun h b off e f => DY5 h b off e f), ints_keepK T16 k17 (fun h b off e f => DT5 h b off e f), r16.keep k17 (fun q f _ => by have f2 : q = g5 := f; rw [f2, c23_6]; decide) o106 (fun _ _ => rfl), b16.keep k17 (fun q f _ => by have f2 : q = g5 := f; rw [f2, c23_6]; decide) o106 (fun _ _ => rfl), lv1, li1⟩
                  clear hW17 p0 p1 p2 p3 p4 pf
                  refine wpAnyH_done (by kernel_rfl) ?_ _
                  go_wp2_with fail
                  go_meet
                  case rel => exact ⟨_, _, rfl, rfl, HA9⟩
              · unfold wpOp
                go_simp
                obtain ⟨X7, hX7⟩ : ∃ W', W' = X1.alloc (.cells #[.int .u64 0, .string ⟨#[]⟩, .slice none 0 0, .int .i64 0, .int .i64 0] 60) := ⟨_, rfl⟩
                have kA7 : Kept (fun _ => False) X1 X7 := by rw [hX7]; exact Kept.alloc _ _
                have hg7 : X7.heap[X1.heap.size]? = some (.cells #[.int .u64 0, .string ⟨#[]⟩, .slice none 0 0, .int .i64 0, .int .i64 0] 60 (0, 0)) := by rw [hX7]; exact heap_alloc_new X1 _
                have S7 := S1.trans kA7 (fun _ f => f.elim)
                rw [← hX7]
                obtain ⟨g7, hq7⟩ : ∃ g, g = X1.heap.size := ⟨_, rfl⟩
                rw [← hq7] at hg7 ⊢
                have lb7 : Wb.heap.size ≤ g7 := by have := S1.size; omega
                first | refine Or.inl ⟨S7, ?_⟩ | refine ⟨S7, ?_⟩
                have r7 := r1.keep kA7 (fun _ f => f.elim) (newK X1.heap.size 8 o101) (fun _ hq => newK_old hq)
                have b7 := b1.keep kA7 (fun _ f => f.elim) (newK X1.heap.size 8 o101) (fun _ hq => newK_old hq)
                have cg7 : newK X1.heap.size 8 o101 g7 = 8 := newK_new (by omega)
                have IY7 := ints_laterK IY1 kA7
                have DY7 : Rk.ls ≠ [] → ∀ b off, aY1 = some ⟨b, off, none⟩ → b ≠ g7 := fun h b off e => by have := ints_ltK IY1 h e; omega
                generalize newK X1.heap.size 8 o101 = o107 at r7 b7 cg7
                clear hX7 hq7

                refine wpAnyH_all (rs := [13, 15]) (by kernel_rfl) (by simp) ?_
                intro i' hi'
                simp only [List.mem_cons, List.not_mem_nil, or_false] at hi'
                rcases hi' with rfl | rfl
                · unfold wpOp
                  go_simp
                  first | refine (CT.out X7 o107 _ r7).mono ?_ | refine Or.inl ((CT.out X7 o107 _ r7).mono ?_)
                  rintro e X8 ⟨aT8, cT8, rfl, HT8⟩
                  obtain ⟨IT8, kT8, NT8⟩ := HT8.out
                  have S8 := S7.trans kT8 (fun _ f => f.elim)
                  first | refine Or.inl ⟨S8, ?_⟩ | refine ⟨S8, ?_⟩
                  have r8 := r7.later kT8
                  have b8 := b7.later kT8
                  have IY8 := ints_laterK IY7 kT8
                  have h22_8 := kT8.heap hg7 (fun f => f)
                  have DT22_8 : Rk.ls ≠ [] → ∀ b off, aT8 = some ⟨b, off, none⟩ → b ≠ g7 := fun h b off e => by have h1 := NT8 h b off e; have h2 := lt_of_block hg7; omega

                  refine wpAnyH_all (rs := [15]) (by kernel_rfl) (by simp) ?_
                  intro i' hi'
                  simp only [List.mem_cons, List.not_mem_nil, or_false] at hi'
                  obtain rfl := hi'
                  unfold wpOp
                  go_simp
                  obtain ⟨X9, hX9⟩ : ∃ W', W' = X8.alloc (.cells #[.int .u64 0, .string ⟨#[]⟩, .slice none 0 0, .int .i64 0, .int .i64 0] 60) := ⟨_, rfl⟩
                  have kA9 : Kept (fun _ => False) X8 X9 := by rw [hX9]; exact Kept.alloc _ _
                  have hg9 : X9.heap[X8.heap.size]? = some (.cells #[.int .u64 0, .string ⟨#[]⟩, .slice none 0 0, .int .i64 0, .int .i64 0] 60 (0, 0)) := by rw [hX9]; exact heap_alloc_new X8 _
                  have S9 := S8.trans kA9 (fun _ f => f.elim)
                  rw [← hX9]
                  obtain ⟨g9, hq9⟩ : ∃ g, g = X8.heap.size := ⟨_, rfl⟩
                  rw [← hq9] at hg9 ⊢
                  have lb9 : Wb.heap.size ≤ g9 := by have := S8.size; omega
                  first | refine Or.inl ⟨S9, ?_⟩ | refine ⟨S9, ?_⟩
                  have r9 := r8.keep kA9 (fun _ f => f.elim) (newK X8.heap.size 8 o107) (fun _ hq => newK_old hq)
                  have b9 := b8.keep kA9 (fun _ f => f.elim) (newK X8.heap.size 8 o107) (fun _ hq => newK_old hq)
                  have cg9 : newK X8.heap.size 8 o107 g9 = 8 := newK_new (by omega)
                  have h22_9 := kA9.heap h22_8 (fun f => f)
                  have c22_9 : newK X8.heap.size 8 o107 g7 = 8 := (newK_old (lt_of_block h22_8)).trans cg7
                  have ne_9 : g7 ≠ g9 := by have := lt_of_block h22_8; omega
                  have IY9 := ints_laterK IY8 kA9
                  have DY9 : Rk.ls ≠ [] → ∀ b off, aY1 = some ⟨b, off, none⟩ → b ≠ g9 := fun h b off e => by have := ints_ltK IY8 h e; omega
                  have IT9 := ints_laterK IT8 kA9
                  have DT9 : Rk.ls ≠ [] → ∀ b off, aT8 = some ⟨b, off, none⟩ → b ≠ g9 := fun h b off e => by have := ints_ltK IT8 h e; omega
                  generalize newK X8.heap.size 8 o107 = o109 at r9 b9 cg9 c22_9
                  clear hX9 hq9

                  have hn0 : g7 ≠ g9 := by exact ne_9
                  have p0 : X9.cell? ⟨g7, 0, none⟩ = some (.int .u64 0) := by rw [cell_of_row _ _ 0 _ _ _ h22_9]; rfl
                  have p1 : X9.cell? ⟨g7, 1, none⟩ = some (.string ⟨#[]⟩) := by rw [cell_of_row _ _ 1 _ _ _ h22_9]; rfl
                  have p2 : X9.cell? ⟨g7, 2, none⟩ = some (.slice none 0 0) := by rw [cell_of_row _ _ 2 _ _ _ h22_9]; rfl
                  have p3 : X9.cell? ⟨g7, 3, none⟩ = some (.int .i64 0) := by rw [cell_of_row _ _ 3 _ _ _ h22_9]; rfl
                  have p4 : X9.cell? ⟨g7, 4, none⟩ = some (.int .i64 0) := by rw [cell_of_row _ _ 4 _ _ _ h22_9]; rfl
                  have pf : ∀ j, X9.frozen? ⟨g7, j, none⟩ = false := fun j => by simp [World.frozen?, h22_9]

                  refine wpAnyH_all (rs := [16]) (by kernel_rfl) (by simp) ?_
                  intro i' hi'
                  obtain rfl : i' = 16 := by simpa using hi'
                  unfold wpOp
                  go_simp
                  have k16 := keep5K (W := X9) (g := g7) (v0 := .int .u64 Rk.u) (v1 := .string (strOfNums Rk.t)) (v2 := .slice aY1 nl cY1) (v3 := .int .i64 (Rk.nx : Int)) (v4 := .int .i64 (Rk.e : Int))
                  have e22 := look_put5K (v0 := .int .u64 Rk.u) (v1 := .string (strOfNums Rk.t)) (v2 := .slice aY1 nl cY1) (v3 := .int .i64 (Rk.nx : Int)) (v4 := .int .i64 (Rk.e : Int)) h22_9
                  obtain ⟨W16, hW16⟩ : ∃ W', W' = (((((X9.setCell ⟨g7, 0, none⟩ (.int .u64 Rk.u)).setCell ⟨g7, 1, none⟩ (.string (strOfNums Rk.t))).setCell ⟨g7, 2, none⟩ (.slice aY1 nl cY1)).setCell ⟨g7, 3, none⟩ (.int .i64 (Rk.nx : Int))).setCell ⟨g7, 4, none⟩ (.int .i64 (Rk.e : Int))) := ⟨_, rfl⟩
                  rw [← hW16] at k16 e22 ⊢
                  have S16 := S9.trans k16 (fun q f => .inr (by have f2 : q = g7 := f; omega))
                  first | refine Or.inl ⟨S16, ?_⟩ | refine ⟨S16, ?_⟩
                  have r16 := r9.keep k16 (fun q f _ => by have f2 : q = g7 := f; rw [f2, c22_9]; decide) o109 (fun _ _ => rfl)
                  have b16 := b9.keep k16 (fun q f _ => by have f2 : q = g7 := f; rw [f2, c22_9]; decide) o109 (fun _ _ => rfl)
                  have Y16 := ints_keepK IY9 k16 (fun h b off e f => DY7 h b off e f)
                  have T16 := ints_keepK IT9 k16 (fun h b off e f => DT22_8 h b off e f)
                  have e23 := k16.heap hg9 (fun f => hn0 f.symm)
                  clear hW16 p0 p1 p2 p3 p4 pf
                  have p0 : W16.cell? ⟨g9, 0, none⟩ = some (.int .u64 0) := by rw [cell_of_row _ _ 0 _ _ _ e23]; rfl
                  have p1 : W16.cell? ⟨g9, 1, none⟩ = some (.string ⟨#[]⟩) := by rw [cell_of_row _ _ 1 _ _ _ e23]; rfl
                  have p2 : W16.cell? ⟨g9, 2, none⟩ = some (.slice none 0 0) := by rw [cell_of_row _ _ 2 _ _ _ e23]; rfl
                  have p3 : W16.cell? ⟨g9, 3, none⟩ = some (.int .i64 0) := by rw [cell_of_row _ _ 3 _ _ _ e23]; rfl
                  have p4 : W16.cell? ⟨g9, 4, none⟩ = some (.int .i64 0) := by rw [cell_of_row _ _ 4 _ _ _ e23]; rfl
                  have pf : ∀ j, W16.frozen? ⟨g9, j, none⟩ = false := fun j => by simp [World.frozen?, e23]

                  refine wpAnyH_all (rs := [17]) (by kernel_rfl) (by simp) ?_
                  intro i' hi'
                  obtain rfl : i' = 17 := by simpa using hi'
                  unfold wpOp
                  go_simp
                  have k17 := keep5K (W := W16) (g := g9) (v0 := .int .u64 Rk.u) (v1 := .string (strOfNums Rk.t)) (v2 := .slice aT8 nl cT8) (v3 := .int .i64 (Rk.nx : Int)) (v4 := .int .i64 (Rk.e : Int))
                  have e23b := look_put5K (v0 := .int .u64 Rk.u) (v1 := .string (strOfNums Rk.t)) (v2 := .slice aT8 nl cT8) (v3 := .int .i64 (Rk.nx : Int)) (v4 := .int .i64 (Rk.e : Int)) e23
                  obtain ⟨W17, hW17⟩ : ∃ W', W' = (((((W16.setCell ⟨g9, 0, none⟩ (.int .u64 Rk.u)).setCell ⟨g9, 1, none⟩ (.string (strOfNums Rk.t))).setCell ⟨g9, 2, none⟩ (.slice aT8 nl cT8)).setCell ⟨g9, 3, none⟩ (.int .i64 (Rk.nx : Int))).setCell ⟨g9, 4, none⟩ (.int .i64 (Rk.e : Int))) := ⟨_, rfl⟩
                  rw [← hW17] at k17 e23b ⊢
                  have S17 := S16.trans k17 (fun q f => .inr (by have f2 : q = g9 := f; omega))
                  first | refine Or.inl ⟨S17, ?_⟩ | refine ⟨S17, ?_⟩
                  have HA9 : Hid (AskD w W17 k bR rv l (upK pR 0 Rk.nx) pR gr gd vd ga kb Rk nl g7 g9) := hideH ⟨_, _, _, _, o109, _, _, _, _, _, _, k17.heap e22 (fun f => hn0 f), e23b, ints_keepK Y16 k17 (fun h b off e f => DY9 h b off e f), ints_keepK T16 k17 (fun h b off e f => DT9 h b off e f), r16.keep k17 (fun q f _ => by have f2 : q = g9 := f; rw [f2, cg9]; decide) o109 (fun _ _ => rfl), b16.keep k17 (fun q f _ => by have f2 : q = g9 := f; rw [f2, cg9]; decide) o109 (fun _ _ => rfl), lv1, li1⟩
                  clear hW17 p0 p1 p2 p3 p4 pf
                  refine wpAnyH_done (by kernel_rfl) ?_ _
                  go_wp2_with fail
                  go_meet
                  case rel => exact ⟨_, _, rfl, rfl, HA9⟩
                · unfold wpOp
                  go_simp
                  obtain ⟨X10, hX10⟩ : ∃ W', W' = X7.alloc (.cells #[.int .u64 0, .string ⟨#[]⟩, .slice none 0 0, .int .i64 0, .int .i64 0] 60) := ⟨_, rfl⟩
                  have kA10 : Kept (fun _ => False) X7 X10 := by rw [hX10]; exact Kept.alloc _ _
                  have hg10 : X10.heap[X7.heap.size]? = some (.cells #[.int .u64 0, .string ⟨#[]⟩, .slice none 0 0, .int .i64 0, .int .i64 0] 60 (0, 0)) := by rw [hX10]; exact heap_alloc_new X7 _
                  have S10 := S7.trans kA10 (fun _ f => f.elim)
                  rw [← hX10]
                  obtain ⟨g10, hq10⟩ : ∃ g, g = X7.heap.size := ⟨_, rfl⟩
                  rw [← hq10] at hg10 ⊢
                  have lb10 : Wb.heap.size ≤ g10 := by have := S7.size; omega
                  first | refine Or.inl ⟨S10, ?_⟩ | refine ⟨S10, ?_⟩
                  have r10 := r7.keep kA10 (fun _ f => f.elim) (newK X7.heap.size 8 o107) (fun _ hq => newK_old hq)
                  have b10 := b7.keep kA10 (fun _ f => f.elim) (newK X7.heap.size 8 o107) (fun _ hq => newK_old hq)
                  have cg10 : newK X7.heap.size 8 o107 g10 = 8 := newK_new (by omega)
                  have h22_10 := kA10.heap hg7 (fun f => f)
                  have c22_10 : newK X7.heap.size 8 o107 g7 = 8 := (newK_old (lt_of_block hg7)).trans cg7
                  have ne_10 : g7 ≠ g10 := by have := lt_of_block hg7; omega
                  have IY10 := ints_laterK IY7 kA10
                  have DY10 : Rk.ls ≠ [] → ∀ b off, aY1 = some ⟨b, off, none⟩ → b ≠ g10 := fun h b off e => by have := ints_ltK IY7 h e; omega
                  generalize newK X7.heap.size 8 o107 = o110 at r10 b10 cg10 c22_10
                  clear hX10 hq10

                  refine wpAnyH_all (rs := [13]) (by kernel_rfl) (by simp) ?_
                  intro i' hi'
                  simp only [List.mem_cons, List.not_mem_nil, or_false] at hi'
                  obtain rfl := hi'
                  unfold wpOp
                  go_simp
                  first | refine (CT.out X10 o110 _ r10).mono ?_ | refine Or.inl ((CT.out X10 o110 _ r10).mono ?_)
                  rintro e X11 ⟨aT11, cT11, rfl, HT11⟩
                  obtain ⟨IT11, kT11, NT11⟩ := HT11.out
                  have S11 := S10.trans kT11 (fun _ f => f.elim)
                  first | refine Or.inl ⟨S11, ?_⟩ | refine ⟨S11, ?_⟩
                  have r11 := r10.later kT11
                  have b11 := b10.later kT11
                  have IY11 := ints_laterK IY10 kT11
                  have h22_11 := kT11.heap h22_10 (fun f => f)
                  have DT22_11 : Rk.ls ≠ [] → ∀ b off, aT11 = some ⟨b, off, none⟩ → b ≠ g7 := fun h b off e => by have h1 := NT11 h b off e; have h2 := lt_of_block h22_10; omega
                  have h23_11 := kT11.heap hg10 (fun f => f)
                  have DT23_11 : Rk.ls ≠ [] → ∀ b off, aT11 = some ⟨b, off, none⟩ → b ≠ g10 := fun h b off e => by have h1 := NT11 h b off e; have h2 := lt_of_block hg10; omega

                  have hn0 : g7 ≠ g10 := by exact ne_10
                  have p0 : X11.cell? ⟨g7, 0, none⟩ = some (.int .u64 0) := by rw [cell_of_row _ _ 0 _ _ _ h22_11]; rfl
                  have p1 : X11.cell? ⟨g7, 1, none⟩ = some (.string ⟨#[]⟩) := by rw [cell_of_row _ _ 1 _ _ _ h22_11]; rfl
                  have p2 : X11.cell? ⟨g7, 2, none⟩ = some (.slice none 0 0) := by rw [cell_of_row _ _ 2 _ _ _ h22_11]; rfl
                  have p3 : X11.cell? ⟨g7, 3, none⟩ = some (.int .i64 0) := by rw [cell_of_row _ _ 3 _ _ _ h22_11]; rfl
                  have p4 : X11.cell? ⟨g7, 4, none⟩ = some (.int .i64 0) := by rw [cell_of_row _ _ 4 _ _ _ h22_11]; rfl
                  have pf : ∀ j, X11.frozen? ⟨g7, j, none⟩ = false := fun j => by simp [World.frozen?, h22_11]

                  refine wpAnyH_all (rs := [16]) (by kernel_rfl) (by simp) ?_
                  intro i' hi'
                  obtain rfl : i' = 16 := by simpa using hi'
                  unfold wpOp
                  go_simp
                  have k16 := keep5K (W := X11) (g := g7) (v0 := .int .u64 Rk.u) (v1 := .string (strOfNums Rk.t)) (v2 := .slice aY1 nl cY1) (v3 := .int .i64 (Rk.nx : Int)) (v4 := .int .i64 (Rk.e : Int))
                  have e22 := look_put5K (v0 := .int .u64 Rk.u) (v1 := .string (strOfNums Rk.t)) (v2 := .slice aY1 nl cY1) (v3 := .int .i64 (Rk.nx : Int)) (v4 := .int .i64 (Rk.e : Int)) h22_11
                  obtain ⟨W16, hW16⟩ : ∃ W', W' = (((((X11.setCell ⟨g7, 0, none⟩ (.int .u64 Rk.u)).setCell ⟨g7, 1, none⟩ (.string (strOfNums Rk.t))).setCell ⟨g7, 2, none⟩ (.slice aY1 nl cY1)).setCell ⟨g7, 3, none⟩ (.int .i64 (Rk.nx : Int))).setCell ⟨g7, 4, none⟩ (.int .i64 (Rk.e : Int))) := ⟨_, rfl⟩
                  rw [← hW16] at k16 e22 ⊢
                  have S16 := S11.trans k16 (fun q f => .inr (by have f2 : q = g7 := f; omega))
                  first | refine Or.inl ⟨S16, ?_⟩ | refine ⟨S16, ?_⟩
                  have r16 := r11.keep k16 (fun q f _ => by have f2 : q = g7 := f; rw [f2, c22_10]; decide) o110 (fun _ _ => rfl)
                  have b16 := b11.keep k16 (fun q f _ => by have f2 : q = g7 := f; rw [f2, c22_10]; decide) o110 (fun _ _ => rfl)
                  have Y16 := ints_keepK IY11 k16 (fun h b off e f => DY7 h b off e f)
                  have T16 := ints_keepK IT11 k16 (fun h b off e f => DT22_11 h b off e f)
                  have e23 := k16.heap h23_11 (fun f => hn0 f.symm)
                  clear hW16 p0 p1 p2 p3 p4 pf
                  have p0 : W16.cell? ⟨g10, 0, none⟩ = some (.int .u64 0) := by rw [cell_of_row _ _ 0 _ _ _ e23]; rfl
                  have p1 : W16.cell? ⟨g10, 1, none⟩ = some (.string ⟨#[]⟩) := by rw [cell_of_row _ _ 1 _ _ _ e23]; rfl
                  have p2 : W16.cell? ⟨g10, 2, none⟩ = some (.slice none 0 0) := by rw [cell_of_row _ _ 2 _ _ _ e23]; rfl
                  have p3 : W16.cell? ⟨g10, 3, none⟩ = some (.int .i64 0) := by rw [cell_of_row _ _ 3 _ _ _ e23]; rfl
                  have p4 : W16.cell? ⟨g10, 4, none⟩ = some (.int .i64 0) := by rw [cell_of_row _ _ 4 _ _ _ e23]; rfl
                  have pf : ∀ j, W16.frozen? ⟨g10, j, none⟩ = false := fun j => by simp [World.frozen?, e23]

                  refine wpAnyH_all (rs := [17]) (by kernel_rfl) (by simp) ?_
                  intro i' hi'
                  obtain rfl : i' = 17 := by simpa using hi'
                  unfold wpOp
                  go_simp
                  have k17 := keep5K (W := W16) (g := g10) (v0 := .int .u64 Rk.u) (v1 := .string (strOfNums Rk.t)) (v2 := .slice aT11 nl cT11) (v3 := .int .i64 (Rk.nx : Int)) (v4 := .int .i64 (Rk.e : Int))
                  have e23b := look_put5K (v0 := .int .u64 Rk.u) (v1 := .string (strOfNums Rk.t)) (v2 := .slice aT11 nl cT11) (v3 := .int .i64 (Rk.nx : Int)) (v4 := .int .i64 (Rk.e : Int)) e23
                  obtain ⟨W17, hW17⟩ : ∃ W', W' = (((((W16.setCell ⟨g10, 0, none⟩ (.int .u64 Rk.u)).setCell ⟨g10, 1, none⟩ (.string (strOfNums Rk.t))).setCell ⟨g10, 2, none⟩ (.slice aT11 nl cT11)).setCell ⟨g10, 3, none⟩ (.int .i64 (Rk.nx : Int))).setCell ⟨g10, 4, none⟩ (.int .i64 (Rk.e : Int))) := ⟨_, rfl⟩
                  rw [← hW17] at k17 e23b ⊢
                  have S17 := S16.trans k17 (fun q f => .inr (by have f2 : q = g10 := f; omega))
                  first | refine Or.inl ⟨S17, ?_⟩ | refine ⟨S17, ?_⟩
                  have HA9 : Hid (AskD w W17 k bR rv l (upK pR 0 Rk.nx) pR gr gd vd ga kb Rk nl g7 g10) := hideH ⟨_, _, _, _, o110, _, _, _, _, _, _, k17.heap e22 (fun f => hn0 f), e23b, ints_keepK Y16 k17 (fun h b off e f => DY10 h b off e f), ints_keepK T16 k17 (fun h b off e f => DT23_11 h b off e f), r16.keep k17 (fun q f _ => by have f2 : q = g10 := f; rw [f2, cg10]; decide) o110 (fun _ _ => rfl), b16.keep k17 (fun q f _ => by have f2 : q = g10 := f; rw [f2, cg10]; decide) o110 (fun _ _ => rfl), lv1, li1⟩
                  clear hW17 p0 p1 p2 p3 p4 pf
                  refine wpAnyH_done (by kernel_rfl) ?_ _
                  go_wp2_with fail
                  go_meet
                  case rel => exact ⟨_, _, rfl, rfl, HA9⟩
              · unfold wpOp
                go_simp
                obtain ⟨X12, hX12⟩ : ∃ W', W' = X1.alloc (.cells #[.int .u64 0, .string ⟨#[]⟩, .slice none 0 0, .int .i64 0, .int .i64 0] 60) := ⟨_, rfl⟩
                have kA12 : Kept (fun _ => False) X1 X12 := by rw [hX12]; exact Kept.alloc _ _
                have hg12 : X12.heap[X1.heap.size]? = some (.cells #[.int .u64 0, .string ⟨#[]⟩, .slice none 0 0, .int .i64 0, .int .i64 0] 60 (0, 0)) := by rw [hX12]; exact heap_alloc_new X1 _
                have S12 := S1.trans kA12 (fun _ f => f.elim)
                rw [← hX12]
                obtain ⟨g12, hq12⟩ : ∃ g, g = X1.heap.size := ⟨_, rfl⟩
                rw [← hq12] at hg12 ⊢
                have lb12 : Wb.heap.size ≤ g12 := by have := S1.size; omega
                first | refine Or.inl ⟨S12, ?_⟩ | refine ⟨S12, ?_⟩
                have r12 := r1.keep kA12 (fun _ f => f.elim) (newK X1.heap.size 8 o101) (fun _ hq => newK_old hq)
                have b12 := b1.keep kA12 (fun _ f => f.elim) (newK X1.heap.size 8 o101) (fun _ hq => newK_old hq)
                have cg12 : newK X1.heap.size 8 o101 g12 = 8 := newK_new (by omega)
                have IY12 := ints_laterK IY1 kA12
                have DY12 : Rk.ls ≠ [] → ∀ b off, aY1 = some ⟨b, off, none⟩ → b ≠ g12 := fun h b off e => by have := ints_ltK IY1 h e; omega
                generalize newK X1.heap.size 8 o101 = o112 at r12 b12 cg12
                clear hX12 hq12

                refine wpAnyH_all (rs := [13, 14]) (by kernel_rfl) (by simp) ?_
                intro i' hi'
                simp only [List.mem_cons, List.not_mem_nil, or_false] at hi'
                rcases hi' with rfl | rfl
                · unfold wpOp
                  go_simp
                  first | refine (CT.out X12 o112 _ r12).mono ?_ | refine Or.inl ((CT.out X12 o112 _ r12).mono ?_)
                  rintro e X13 ⟨aT13, cT13, rfl, HT13⟩
                  obtain ⟨IT13, kT13, NT13⟩ := HT13.out
                  have S13 := S12.trans kT13 (fun _ f => f.elim)
                  first | refine Or.inl ⟨S13, ?_⟩ | refine ⟨S13, ?_⟩
                  have r13 := r12.later kT13
                  have b13 := b12.later kT13
                  have IY13 := ints_laterK IY12 kT13
                  have h23_13 := kT13.heap hg12 (fun f => f)
                  have DT23_13 : Rk.ls ≠ [] → ∀ b off, aT13 = some ⟨b, off, none⟩ → b ≠ g12 := fun h b off e => by have h1 := NT13 h b off e; have h2 := lt_of_block hg12; omega

                  refine wpAnyH_all (rs := [14]) (by kernel_rfl) (by simp) ?_
                  intro i' hi'
                  simp only [List.mem_cons, List.not_mem_nil, or_false] at hi'
                  obtain rfl := hi'
                  unfold wpOp
                  go_simp
                  obtain ⟨X14, hX14⟩ : ∃ W', W' = X13.alloc (.cells #[.int .u64 0, .string ⟨#[]⟩, .slice none 0 0, .int .i64 0, .int .i64 0] 60) := ⟨_, rfl⟩
                  have kA14 : Kept (fun _ => False) X13 X14 := by rw [hX14]; exact Kept.alloc _ _
                  have hg14 : X14.heap[X13.heap.size]? = some (.cells #[.int .u64 0, .string ⟨#[]⟩, .slice none 0 0, .int .i64 0, .int .i64 0] 60 (0, 0)) := by rw [hX14]; exact heap_alloc_new X13 _
                  have S14 := S13.trans kA14 (fun _ f => f.elim)
                  rw [← hX14]
                  obtain ⟨g14, hq14⟩ : ∃ g, g = X13.heap.size := ⟨_, rfl⟩
                  rw [← hq14] at hg14 ⊢
                  have lb14 : Wb.heap.size ≤ g14 := by have := S13.size; omega
                  first | refine Or.inl ⟨S14, ?_⟩ | refine ⟨S14, ?_⟩
                  have r14 := r13.keep kA14 (fun _ f => f.elim) (newK X13.heap.size 8 o112) (fun _ hq => newK_old hq)
                  have b14 := b13.keep kA14 (fun _ f => f.elim) (newK X13.heap.size 8 o112) (fun _ hq => newK_old hq)
                  have cg14 : newK X13.heap.size 8 o112 g14 = 8 := newK_new (by omega)
                  have h23_14 := kA14.heap h23_13 (fun f => f)
                  have c23_14 : newK X13.heap.size 8 o112 g12 = 8 := (newK_old (lt_of_block h23_13)).trans cg12
                  have ne_14 : g12 ≠ g14 := by have := lt_of_block h23_13; omega
                  have IY14 := ints_laterK IY13 kA14
                  have DY14 : Rk.ls ≠ [] → ∀ b off, aY1 = some ⟨b, off, none⟩ → b ≠ g14 := fun h b off e => by have := ints_ltK IY13 h e; omega
                  have IT14 := ints_laterK IT13 kA14
                  have DT14 : Rk.ls ≠ [] → ∀ b off, aT13 = some ⟨b, off, none⟩ → b ≠ g14 := fun h b off e => by have := ints_ltK IT13 h e; omega
                  generalize newK X13.heap.size 8 o112 = o114 at r14 b14 cg14 c23_14
                  clear hX14 hq14

                  have hn0 : g14 ≠ g12 := by exact fun e => ne_14 e.symm
                  have p0 : X14.cell? ⟨g14, 0, none⟩ = some (.int .u64 0) := by rw [cell_of_row _ _ 0 _ _ _ hg14]; rfl
                  have p1 : X14.cell? ⟨g14, 1, none⟩ = some (.string ⟨#[]⟩) := by rw [cell_of_row _ _ 1 _ _ _ hg14]; rfl
                  have p2 : X14.cell? ⟨g14, 2, none⟩ = some (.slice none 0 0) := by rw [cell_of_row _ _ 2 _ _ _ hg14]; rfl
                  have p3 : X14.cell? ⟨g14, 3, none⟩ = some (.int .i64 0) := by rw [cell_of_row _ _ 3 _ _ _ hg14]; rfl
                  have p4 : X14.cell? ⟨g14, 4, none⟩ = some (.int .i64 0) := by rw [cell_of_row _ _ 4 _ _ _ hg14]; rfl
                  have pf : ∀ j, X14.frozen? ⟨g14, j, none⟩ = false := fun j => by simp [World.frozen?, hg14]

                  refine wpAnyH_all (rs := [16]) (by kernel_rfl) (by simp) ?_
                  intro i' hi'
                  obtain rfl : i' = 16 := by simpa using hi'
                  unfold wpOp
                  go_simp
                  have k16 := keep5K (W := X14) (g := g14) (v0 := .int .u64 Rk.u) (v1 := .string (strOfNums Rk.t)) (v2 := .slice aY1 nl cY1) (v3 := .int .i64 (Rk.nx : Int)) (v4 := .int .i64 (Rk.e : Int))
                  have e22 := look_put5K (v0 := .int .u64 Rk.u) (v1 := .string (strOfNums Rk.t)) (v2 := .slice aY1 nl cY1) (v3 := .int .i64 (Rk.nx : Int)) (v4 := .int .i64 (Rk.e : Int)) hg14
                  obtain ⟨W16, hW16⟩ : ∃ W', W' = (((((X14.setCell ⟨g14, 0, none⟩ (.int .u64 Rk.u)).setCell ⟨g14, 1, none⟩ (.string (strOfNums Rk.t))).setCell ⟨g14, 2, none⟩ (.slice aY1 nl cY1)).setCell ⟨g14, 3, none⟩ (.int .i64 (Rk.nx : Int))).setCell ⟨g14, 4, none⟩ (.int .i64 (Rk.e : Int))) := ⟨_, rfl⟩
                  rw [← hW16] at k16 e22 ⊢
                  have S16 := S14.trans k16 (fun q f => .inr (by have f2 : q = g14 := f; omega))
                  first | refine Or.inl ⟨S16, ?_⟩ | refine ⟨S16, ?_⟩
                  have r16 := r14.keep k16 (fun q f _ => by have f2 : q = g14 := f; rw [f2, cg14]; decide) o114 (fun _ _ => rfl)
                  have b16 := b14.keep k16 (fun q f _ => by have f2 : q = g14 := f; rw [f2, cg14]; decide) o114 (fun _ _ => rfl)
                  have Y16 := ints_keepK IY14 k16 (fun h b off e f => DY14 h b off e f)
                  have T16 := ints_keepK IT14 k16 (fun h b off e f => DT14 h b off e f)
                  have e23 := k16.heap h23_14 (fun f => hn0 f.symm)
                  clear hW16 p0 p1 p2 p3 p4 pf
                  have p0 : W16.cell? ⟨g12, 0, none⟩ = some (.int .u64 0) := by rw [cell_of_row _ _ 0 _ _ _ e23]; rfl
                  have p1 : W16.cell? ⟨g12, 1, none⟩ = some (.string ⟨#[]⟩) := by rw [cell_of_row _ _ 1 _ _ _ e23]; rfl
                  have p2 : W16.cell? ⟨g12, 2, none⟩ = some (.slice none 0 0) := by rw [cell_of_row _ _ 2 _ _ _ e23]; rfl
                  have p3 : W16.cell? ⟨g12, 3, none⟩ = some (.int .i64 0) := by rw [cell_of_row _ _ 3 _ _ _ e23]; rfl
                  have p4 : W16.cell? ⟨g12, 4, none⟩ = some (.int .i64 0) := by rw [cell_of_row _ _ 4 _ _ _ e23]; rfl
                  have pf : ∀ j, W16.frozen? ⟨g12, j, none⟩ = false := fun j => by simp [World.frozen?, e23]

                  refine wpAnyH_all (rs := [17]) (by kernel_rfl) (by simp) ?_
                  intro i' hi'
                  obtain rfl : i' = 17 := by simpa using hi'
                  unfold wpOp
                  go_simp
                  have k17 := keep5K (W := W16) (g := g12) (v0 := .int .u64 Rk.u) (v1 := .string (strOfNums Rk.t)) (v2 := .slice aT13 nl cT13) (v3 := .int .i64 (Rk.nx : Int)) (v4 := .int .i64 (Rk.e : Int))
                  have e23b := look_put5K (v0 := .int .u64 Rk.u) (v1 := .string (strOfNums Rk.t)) (v2 := .slice aT13 nl cT13) (v3 := .int .i64 (Rk.nx : Int)) (v4 := .int .i64 (Rk.e : Int)) e23
                  obtain ⟨W17, hW17⟩ : ∃ W', W' = (((((W16.setCell ⟨g12, 0, none⟩ (.int .u64 Rk.u)).setCell ⟨g12, 1, none⟩ (.string (strOfNums Rk.t))).setCell ⟨g12, 2, none⟩ (.slice aT13 nl cT13)).setCell ⟨g12, 3, none⟩ (.int .i64 (Rk.nx : Int))).setCell ⟨g12, 4, none⟩ (.int .i64 (Rk.e : Int))) := ⟨_, rfl⟩
                  rw [← hW17] at k17 e23b ⊢
                  have S17 := S16.trans k17 (fun q f => .inr (by have f2 : q = g12 := f; omega))
                  first | refine Or.inl ⟨S17, ?_⟩ | refine ⟨S17, ?_⟩
                  have HA9 : Hid (AskD w W17 k bR rv l (upK pR 0 Rk.nx) pR gr gd vd ga kb Rk nl g14 g12) := hideH ⟨_, _, _, _, o114, _, _, _, _, _, _, k17.heap e22 (fun f => hn0 f), e23b, ints_keepK Y16 k17 (fun h b off e f => DY12 h b off e f), ints_keepK T16 k17 (fun h b off e f => DT23_13 h b off e f), r16.keep k17 (fun q f _ => by have f2 : q = g12 := f; rw [f2, c23_14]; decide) o114 (fun _ _ => rfl), b16.keep k17 (fun q f _ => by have f2 : q = g12 := f; rw [f2, c23_14]; decide) o114 (fun _ _ => rfl), lv1, li1⟩
                  clear hW17 p0 p1 p2 p3 p4 pf
                  refine wpAnyH_done (by kernel_rfl) ?_ _
                  go_wp2_with fail
                  go_meet
                  case rel => exact ⟨_, _, rfl, rfl, HA9⟩
                · unfold wpOp
                  go_simp
                  obtain ⟨X15, hX15⟩ : ∃ W', W' = X12.alloc (.cells #[.int .u64 0, .string ⟨#[]⟩, .slice none 0 0, .int .i64 0, .int .i64 0] 60) := ⟨_, rfl⟩
                  have kA15 : Kept (fun _ => False) X12 X15 := by rw [hX15]; exact Kept.alloc _ _
                  have hg15 : X15.heap[X12.heap.size]? = some (.cells #[.int .u64 0, .string ⟨#[]⟩, .slice none 0 0, .int .i64 0, .int .i64 0] 60 (0, 0)) := by rw [hX15]; exact heap_alloc_new X12 _
                  have S15 := S12.trans kA15 (fun _ f => f.elim)
                  rw [← hX15]
                  obtain ⟨g15, hq15⟩ : ∃ g, g = X12.heap.size := ⟨_, rfl⟩
                  rw [← hq15] at hg15 ⊢
                  have lb15 : Wb.heap.size ≤ g15 := by have := S12.size; omega
                  first | refine Or.inl ⟨S15, ?_⟩ | refine ⟨S15, ?_⟩
                  have r15 := r12.keep kA15 (fun _ f => f.elim) (newK X12.heap.size 8 o112) (fun _ hq => newK_old hq)
                  have b15 := b12.keep kA15 (fun _ f => f.elim) (newK X12.heap.size 8 o112) (fun _ hq => newK_old hq)
                  have cg15 : newK X12.heap.size 8 o112 g15 = 8 := newK_new (by omega)
                  have h23_15 := kA15.heap hg12 (fun f => f)
                  have c23_15 : newK X12.heap.size 8 o112 g12 = 8 := (newK_old (lt_of_block hg12)).trans cg12
                  have ne_15 : g12 ≠ g15 := by have := lt_of_block hg12; omega
                  have IY15 := ints_laterK IY12 kA15
                  have DY15 : Rk.ls ≠ [] → ∀ b off, aY1 = some ⟨b, off, none⟩ → b ≠ g15 := fun h b off e => by have := ints_ltK IY12 h e; omega
                  generalize newK X12.heap.size 8 o112 = o115 at r15 b15 cg15 c23_15
                  clear hX15 hq15

                  refine wpAnyH_all (rs := [13]) (by kernel_rfl) (by simp) ?_
                  intro i' hi'
                  simp only [List.mem_cons, List.not_mem_nil, or_false] at hi'
                  obtain rfl := hi'
                  unfold wpOp
                  go_simp
                  first | refine (CT.out X15 o115 _ r15).mono ?_ | refine Or.inl ((CT.out X15 o115 _ r15).mono ?_)
                  rintro e X16 ⟨aT16, cT16, rfl, HT16⟩
                  obtain ⟨IT16, kT16, NT16⟩ := HT16.out
                  have S16 := S15.trans kT16 (fun _ f => f.elim)
                  first | refine Or.inl ⟨S16, ?_⟩ | refine ⟨S16, ?_⟩
                  have r16 := r15.later kT16
                  have b16 := b15.later kT16
                  have IY16 := ints_laterK IY15 kT16
                  have h23_16 := kT16.heap h23_15 (fun f => f)
                  have DT23_16 : Rk.ls ≠ [] → ∀ b off, aT16 = some ⟨b, off, none⟩ → b ≠ g12 := fun h b off e => by have h1 := NT16 h b off e; have h2 := lt_of_block h23_15; omega
                  have h22_16 := kT16.heap hg15 (fun f => f)
                  have DT22_16 : Rk.ls ≠ [] → ∀ b off, aT16 = some ⟨b, off, none⟩ → b ≠ g15 := fun h b off e => by have h1 := NT16 h b off e; have h2 := lt_of_block hg15; omega

                  have hn0 : g15 ≠ g12 := by exact fun e => ne_15 e.symm
                  have p0 : X16.cell? ⟨g15, 0, none⟩ = some (.int .u64 0) := by rw [cell_of_row _ _ 0 _ _ _ h22_16]; rfl
                  have p1 : X16.cell? ⟨g15, 1, none⟩ = some (.string ⟨#[]⟩) := by rw [cell_of_row _ _ 1 _ _ _ h22_16]; rfl
                  have p2 : X16.cell? ⟨g15, 2, none⟩ = some (.slice none 0 0) := by rw [cell_of_row _ _ 2 _ _ _ h22_16]; rfl
                  have p3 : X16.cell? ⟨g15, 3, none⟩ = some (.int .i64 0) := by rw [cell_of_row _ _ 3 _ _ _ h22_16]; rfl
                  have p4 : X16.cell? ⟨g15, 4, none⟩ = some (.int .i64 0) := by rw [cell_of_row _ _ 4 _ _ _ h22_16]; rfl
                  have pf : ∀ j, X16.frozen? ⟨g15, j, none⟩ = false := fun j => by simp [World.frozen?, h22_16]

                  refine wpAnyH_all (rs := [16]) (by kernel_rfl) (by simp) ?_
                  intro i' hi'
                  obtain rfl : i' = 16 := by simpa using hi'
                  unfold wpOp
                  go_simp
                  have k16 := keep5K (W := X16) (g := g15) (v0 := .int .u64 Rk.u) (v1 := .string (strOfNums Rk.t)) (v2 := .slice aY1 nl cY1) (v3 := .int .i64 (Rk.nx : Int)) (v4 := .int .i64 (Rk.e : Int))
                  have e22 := look_put5K (v0 := .int .u64 Rk.u) (v1 := .string (strOfNums Rk.t)) (v2 := .slice aY1 nl cY1) (v3 := .int .i64 (Rk.nx : Int)) (v4 := .int .i64 (Rk.e : Int)) h22_16
                  obtain ⟨W16, hW16⟩ : ∃ W', W' = (((((X16.setCell ⟨g15, 0, none⟩ (.int .u64 Rk.u)).setCell ⟨g15, 1, none⟩ (.string (strOfNums Rk.t))).setCell ⟨g15, 2, none⟩ (.slice aY1 nl cY1)).setCell ⟨g15, 3, none⟩ (.int .i64 (Rk.nx : Int))).setCell ⟨g15, 4, none⟩ (.int .i64 (Rk.e : Int))) := ⟨_, rfl⟩
                  rw [← hW16] at k16 e22 ⊢
                  have S16 := S16.trans k16 (fun q f => .inr (by have f2 : q = g15 := f; omega))
                  first | refine Or.inl ⟨S16, ?_⟩ | refine ⟨S16, ?_⟩
                  have r16 := r16.keep k16 (fun q f _ => by have f2 : q = g15 := f; rw [f2, cg15]; decide) o115 (fun _ _ => rfl)
                  have b16 := b16.keep k16 (fun q f _ => by have f2 : q = g15 := f; rw [f2, cg15]; decide) o115 (fun _ _ => rfl)
                  have Y16 := ints_keepK IY16 k16 (fun h b off e f => DY15 h b off e f)
                  have T16 := ints_keepK IT16 k16 (fun h b off e f => DT22_16 h b off e f)
                  have e23 := k16.heap h23_16 (fun f => hn0 f.symm)
                  clear hW16 p0 p1 p2 p3 p4 pf
                  have p0 : W16.cell? ⟨g12, 0, none⟩ = some (.int .u64 0) := by rw [cell_of_row _ _ 0 _ _ _ e23]; rfl
                  have p1 : W16.cell? ⟨g12, 1, none⟩ = some (.string ⟨#[]⟩) := by rw [cell_of_row _ _ 1 _ _ _ e23]; rfl
                  have p2 : W16.cell? ⟨g12, 2, none⟩ = some (.slice none 0 0) := by rw [cell_of_row _ _ 2 _ _ _ e23]; rfl
                  have p3 : W16.cell? ⟨g12, 3, none⟩ = some (.int .i64 0) := by rw [cell_of_row _ _ 3 _ _ _ e23]; rfl
                  have p4 : W16.cell? ⟨g12, 4, none⟩ = some (.int .i64 0) := by rw [cell_of_row _ _ 4 _ _ _ e23]; rfl
                  have pf : ∀ j, W16.frozen? ⟨g12, j, none⟩ = false := fun j => by simp [World.frozen?, e23]

                  refine wpAnyH_all (rs := [17]) (by kernel_rfl) (by simp) ?_
                  intro i' hi'
                  obtain rfl : i' = 17 := by simpa using hi'
                  unfold wpOp
                  go_simp
                  have k17 := keep5K (W := W16) (g := g12) (v0 := .int .u64 Rk.u) (v1 := .string (strOfNums Rk.t)) (v2 := .slice aT16 nl cT16) (v3 := .int .i64 (Rk.nx : Int)) (v4 := .int .i64 (Rk.e : Int))
                  have e23b := look_put5K (v0 := .int .u64 Rk.u) (v1 := .string (strOfNums Rk.t)) (v2 := .slice aT16 nl cT16) (v3 := .int .i64 (Rk.nx : Int)) (v4 := .int .i64 (Rk.e : Int)) e23
                  obtain ⟨W17, hW17⟩ : ∃ W', W' = (((((W16.setCell ⟨g12, 0, none⟩ (.int .u64 Rk.u)).setCell ⟨g12, 1, none⟩ (.string (strOfNums Rk.t))).setCell ⟨g12, 2, none⟩ (.slice aT16 nl cT16)).setCell ⟨g12, 3, none⟩ (.int .i64 (Rk.nx : Int))).setCell ⟨g12, 4, none⟩ (.int .i64 (Rk.e : Int))) := ⟨_, rfl⟩
                  rw [← hW17] at k17 e23b ⊢
                  have S17 := S16.trans k17 (fun q f => .inr (by have f2 : q = g12 := f; omega))
                  first | refine Or.inl ⟨S17, ?_⟩ | refine ⟨S17, ?_⟩
                  have HA9 : Hid (AskD w W17 k bR rv l (upK pR 0 Rk.nx) pR gr gd vd ga kb Rk nl g15 g12) := hideH ⟨_, _, _, _, o115, _, _, _, _, _, _, k17.heap e22 (fun f => hn0 f), e23b, ints_keepK Y16 k17 (fun h b off e f => DY12 h b off e f), ints_keepK T16 k17 (fun h b off e f => DT23_16 h b off e f), r16.keep k17 (fun q f _ => by have f2 : q = g12 := f; rw [f2, c23_15]; decide) o115 (fun _ _ => rfl), b16.keep k17 (fun q f _ => by have f2 : q = g12 := f; rw [f2, c23_15]; decide) o115 (fun _ _ => rfl), lv1, li1⟩
                  clear hW17 p0 p1 p2 p3 p4 pf
                  refine wpAnyH_done (by kernel_rfl) ?_ _
                  go_wp2_with fail
                  go_meet
                  case rel => exact ⟨_, _, rfl, rfl, HA9⟩
            · unfold wpOp
              go_simp
              obtain ⟨X17, hX17⟩ : ∃ W', W' = Wd.alloc (.cells #[.int .u64 0, .string ⟨#[]⟩, .slice none 0 0, .int .i64 0, .int .i64 0] 60) := ⟨_, rfl⟩
              have kA17 : Kept (fun _ => False) Wd X17 := by rw [hX17]; exact Kept.alloc _ _
              have hg17 : X17.heap[Wd.heap.size]? = some (.cells #[.int .u64 0, .string ⟨#[]⟩, .slice none 0 0, .int .i64 0, .int .i64 0] 60 (0, 0)) := by rw [hX17]; exact heap_alloc_new Wd _
              have S17 := hS.trans kA17 (fun _ f => f.elim)
              rw [← hX17]
              obtain ⟨g17, hq17⟩ : ∃ g, g = Wd.heap.size := ⟨_, rfl⟩
              rw [← hq17] at hg17 ⊢
              have lb17 : Wb.heap.size ≤ g17 := by have := hS.size; omega
              first | refine Or.inl ⟨S17, ?_⟩ | refine ⟨S17, ?_⟩
              have RL17 := hRL.fresh kA17 8
              have key17 : ∀ q, q < Wb.heap.size → newK Wd.heap.size 8 o1 q = o1 q := fun q hq => (newK_old (Nat.lt_of_lt_of_le hq hS.size)).trans (key0 q hq)
              have cg17 : newK Wd.heap.size 8 o1 g17 = 8 := newK_new (by omega)
              generalize newK Wd.heap.size 8 o1 = o117 at RL17 key17 cg17
              clear hX17 hq17

              refine wpAnyH_all (rs := [3, 15]) (by kernel_rfl) (by simp) ?_
              intro i' hi'
              simp only [List.mem_cons, List.not_mem_nil, or_false] at hi'
              rcases hi' with rfl | rfl
              · unfold wpOp
                go_simp
                first | refine (CA.out X17 o117 RL17).mono ?_ | refine Or.inl ((CA.out X17 o117 RL17).mono ?_)
                rintro e X18 ⟨aY18, cY18, rfl, HY18⟩
                obtain ⟨o118, vB18, vI18, V18, I18, LB18, LI18, IY18, NY18, ke18, r18, b18, lv18, li18, ky18⟩ := HY18.out
                have S18 := S17.trans ky18 (fun q f => by
                  by_cases hq : q < Wb.heap.size
                  · have f2 : o117 q = 0 ∨ o117 q = 7 := f
                    rw [key17 q hq] at f2
                    exact .inl f2
                  · exact .inr (by omega))
                first | refine Or.inl ⟨S18, ?_⟩ | refine ⟨S18, ?_⟩
                have h22_18 := ky18.heap hg17 (fun f => by have f2 : o117 g17 = 0 ∨ o117 g17 = 7 := f; omega)
                have c22_18 : o118 g17 = 8 := (ke18 _ (lt_of_block hg17)).trans cg17
                have DY22_18 : Rk.ls ≠ [] → ∀ b off, aY18 = some ⟨b, off, none⟩ → b ≠ g17 := fun h b off e => by have h1 := NY18 h b off e; have h2 := lt_of_block hg17; omega

                refine wpAnyH_all (rs := [13, 15]) (by kernel_rfl) (by simp) ?_
                intro i' hi'
                simp only [List.mem_cons, List.not_mem_nil, or_false] at hi'
                rcases hi' with rfl | rfl
                · unfold wpOp
                  go_simp
                  first | refine (CT.out X18 o118 _ r18).mono ?_ | refine Or.inl ((CT.out X18 o118 _ r18).mono ?_)
                  rintro e X19 ⟨aT19, cT19, rfl, HT19⟩
                  obtain ⟨IT19, kT19, NT19⟩ := HT19.out
                  have S19 := S18.trans kT19 (fun _ f => f.elim)
                  first | refine Or.inl ⟨S19, ?_⟩ | refine ⟨S19, ?_⟩
                  have r19 := r18.later kT19
                  have b19 := b18.later kT19
                  have IY19 := ints_laterK IY18 kT19
                  have h22_19 := kT19.heap h22_18 (fun f => f)
                  have DT22_19 : Rk.ls ≠ [] → ∀ b off, aT19 = some ⟨b, off, none⟩ → b ≠ g17 := fun h b off e => by have h1 := NT19 h b off e; have h2 := lt_of_block h22_18; omega

                  refine wpAnyH_all (rs := [15]) (by kernel_rfl) (by simp) ?_
                  intro i' hi'
                  simp only [List.mem_cons, List.not_mem_nil, or_false] at hi'
                  obtain rfl := hi'
                  unfold wpOp
                  go_simp
                  obtain ⟨X20, hX20⟩ : ∃ W', W' = X19.alloc (.cells #[.int .u64 0, .string ⟨#[]⟩, .slice none 0 0, .int .i64 0, .int .i64 0] 60) := ⟨_, rfl⟩
                  have kA20 : Kept (fun _ => False) X19 X20 := by rw [hX20]; exact Kept.alloc _ _
                  have hg20 : X20.heap[X19.heap.size]? = some (.cells #[.int .u64 0, .string ⟨#[]⟩, .slice none 0 0, .int .i64 0, .int .i64 0] 60 (0, 0)) := by rw [hX20]; exact heap_alloc_new X19 _
                  have S20 := S19.trans kA20 (fun _ f => f.elim)
                  rw [← hX20]
                  obtain ⟨g20, hq20⟩ : ∃ g, g = X19.heap.size := ⟨_, rfl⟩
                  rw [← hq20] at hg20 ⊢
                  have lb20 : Wb.heap.size ≤ g20 := by have := S19.size; omega
                  first | refine Or.inl ⟨S20, ?_⟩ | refine ⟨S20, ?_⟩
                  have r20 := r19.keep kA20 (fun _ f => f.elim) (newK X19.heap.size 8 o118) (fun _ hq => newK_old hq)
                  have b20 := b19.keep kA20 (fun _ f => f.elim) (newK X19.heap.size 8 o118) (fun _ hq => newK_old hq)
                  have cg20 : newK X19.heap.size 8 o118 g20 = 8 := newK_new (by omega)
                  have h22_20 := kA20.heap h22_19 (fun f => f)
                  have c22_20 : newK X19.heap.size 8 o118 g17 = 8 := (newK_old (lt_of_block h22_19)).trans c22_18
                  have ne_20 : g17 ≠ g20 := by have := lt_of_block h22_19; omega
                  have IY20 := ints_laterK IY19 kA20
                  have DY20 : Rk.ls ≠ [] → ∀ b off, aY18 = some ⟨b, off, none⟩ → b ≠ g20 := fun h b off e => by have := ints_ltK IY19 h e; omega
                  have IT20 := ints_laterK IT19 kA20
                  have DT20 : Rk.ls ≠ [] → ∀ b off, aT19 = some ⟨b, off, none⟩ → b ≠ g20 := fun h b off e => by have := ints_ltK IT19 h e; omega
                  generalize newK X19.heap.size 8 o118 = o120 at r20 b20 cg20 c22_20
                  clear hX20 hq20

                  have hn0 : g17 ≠ g20 := by exact ne_20
                  have p0 : X20.cell? ⟨g17, 0, none⟩ = some (.int .u64 0) := by rw [cell_of_row _ _ 0 _ _ _ h22_20]; rfl
                  have p1 : X20.cell? ⟨g17, 1, none⟩ = some (.string ⟨#[]⟩) := by rw [cell_of_row _ _ 1 _ _ _ h22_20]; rfl
                  have p2 : X20.cell? ⟨g17, 2, none⟩ = some (.slice none 0 0) := by rw [cell_of_row _ _ 2 _ _ _ h22_20]; rfl
                  have p3 : X20.cell? ⟨g17, 3, none⟩ = some (.int .i64 0) := by rw [cell_of_row _ _ 3 _ _ _ h22_20]; rfl
                  have p4 : X20.cell? ⟨g17, 4, none⟩ = some (.int .i64 0) := by rw [cell_of_row _ _ 4 _ _ _ h22_20]; rfl
                  have pf : ∀ j, X20.frozen? ⟨g17, j, none⟩ = false := fun j => by simp [World.frozen?, h22_20]

                  refine wpAnyH_all (rs := [16]) (by kernel_rfl) (by simp) ?_
                  intro i' hi'
                  obtain rfl : i' = 16 := by simpa using hi'
                  unfold wpOp
                  go_simp
                  have k16 := keep5K (W := X20) (g := g17) (v0 := .int .u64 Rk.u) (v1 := .string (strOfNums Rk.t)) (v2 := .slice aY18 nl cY18) (v3 := .int .i64 (Rk.nx : Int)) (v4 := .int .i64 (Rk.e : Int))
                  have e22 := look_put5K (v0 := .int .u64 Rk.u) (v1 := .string (strOfNums Rk.t)) (v2 := .slice aY18 nl cY18) (v3 := .int .i64 (Rk.nx : Int)) (v4 := .int .i64 (Rk.e : Int)) h22_20
                  obtain ⟨W16, hW16⟩ : ∃ W', W' = (((((X20.setCell ⟨g17, 0, none⟩ (.int .u64 Rk.u)).setCell ⟨g17, 1, none⟩ (.string (strOfNums Rk.t))).setCell ⟨g17, 2, none⟩ (.slice aY18 nl cY18)).setCell ⟨g17, 3, none⟩ (.int .i64 (Rk.nx : Int))).setCell ⟨g17, 4, none⟩ (.int .i64 (Rk.e : Int))) := ⟨_, rfl⟩
                  rw [← hW16] at k16 e22 ⊢
                  have S16 := S20.trans k16 (fun q f => .inr (by have f2 : q = g17 := f; omega))
                  first | refine Or.inl ⟨S16, ?_⟩ | refine ⟨S16, ?_⟩
                  have r16 := r20.keep k16 (fun q f _ => by have f2 : q = g17 := f; rw [f2, c22_20]; decide) o120 (fun _ _ => rfl)
                  have b16 := b20.keep k16 (fun q f _ => by have f2 : q = g17 := f; rw [f2, c22_20]; decide) o120 (fun _ _ => rfl)
                  have Y16 := ints_keepK IY20 k16 (fun h b off e f => DY22_18 h b off e f)
                  have T16 := ints_keepK IT20 k16 (fun h b off e f => DT22_19 h b off e f)
                  have e23 := k16.heap hg20 (fun f => hn0 f.symm)
                  clear hW16 p0 p1 p2 p3 p4 pf
                  have p0 : W16.cell? ⟨g20, 0, none⟩ = some (.int .u64 0) := by rw [cell_of_row _ _ 0 _ _ _ e23]; rfl
                  have p1 : W16.cell? ⟨g20, 1, none⟩ = some (.string ⟨#[]⟩) := by rw [cell_of_row _ _ 1 _ _ _ e23]; rfl
                  have p2 : W16.cell? ⟨g20, 2, none⟩ = some (.slice none 0 0) := by rw [cell_of_row _ _ 2 _ _ _ e23]; rfl
                  have p3 : W16.cell? ⟨g20, 3, none⟩ = some (.int .i64 0) := by rw [cell_of_row _ _ 3 _ _ _ e23]; rfl
                  have p4 : W16.cell? ⟨g20, 4, none⟩ = some (.int .i64 0) := by rw [cell_of_row _ _ 4 _ _ _ e23]; rfl
                  have pf : ∀ j, W16.frozen? ⟨g20, j, none⟩ = false := fun j => by simp [World.frozen?, e23]

                  refine wpAnyH_all (rs := [17]) (by kernel_rfl) (by simp) ?_
                  intro i' hi'
                  obtain rfl : i' = 17 := by simpa using hi'
                  unfold wpOp
                  go_simp
                  have k17 := keep5K (W := W16) (g := g20) (v0 := .int .u64 Rk.u) (v1 := .string (strOfNums Rk.t)) (v2 := .slice aT19 nl cT19) (v3 := .int .i64 (Rk.nx : Int)) (v4 := .int .i64 (Rk.e : Int))
                  have e23b := look_put5K (v0 := .int .u64 Rk.u) (v1 := .string (strOfNums Rk.t)) (v2 := .slice aT19 nl cT19) (v3 := .int .i64 (Rk.nx : Int)) (v4 := .int .i64 (Rk.e : Int)) e23
                  obtain ⟨W17, hW17⟩ : ∃ W', W' = (((((W16.setCell ⟨g20, 0, none⟩ (.int .u64 Rk.u)).setCell ⟨g20, 1, none⟩ (.string (strOfNums Rk.t))).setCell ⟨g20, 2, none⟩ (.slice aT19 nl cT19)).setCell ⟨g20, 3, none⟩ (.int .i64 (Rk.nx : Int))).setCell ⟨g20, 4, none⟩ (.int .i64 (Rk.e : Int))) := ⟨_, rfl⟩
                  rw [← hW17] at k17 e23b ⊢
                  have S17 := S16.trans k17 (fun q f => .inr (by have f2 : q = g20 := f; omega))
                  first | refine Or.inl ⟨S17, ?_⟩ | refine ⟨S17, ?_⟩
                  have HA9 : Hid (AskD w W17 k bR rv l (upK pR 0 Rk.nx) pR gr gd vd ga kb Rk nl g17 g20) := hideH ⟨_, _, _, _, o120, _, _, _, _, _, _, k17.heap e22 (fun f => hn0 f), e23b, ints_keepK Y16 k17 (fun h b off e f => DY20 h b off e f), ints_keepK T16 k17 (fun h b off e f => DT20 h b off e f), r16.keep k17 (fun q f _ => by have f2 : q = g20 := f; rw [f2, cg20]; decide) o120 (fun _ _ => rfl), b16.keep k17 (fun q f _ => by have f2 : q = g20 := f; rw [f2, cg20]; decide) o120 (fun _ _ => rfl), lv18, li18⟩
                  clear hW17 p0 p1 p2 p3 p4 pf
                  refine wpAnyH_done (by kernel_rfl) ?_ _
                  go_wp2_with fail
                  go_meet
                  case rel => exact ⟨_, _, rfl, rfl, HA9⟩
                · unfold wpOp
                  go_simp
                  obtain ⟨X21, hX21⟩ : ∃ W', W' = X18.alloc (.cells #[.int .u64 0, .string ⟨#[]⟩, .slice none 0 0, .int .i64 0, .int .i64 0] 60) := ⟨_, rfl⟩
                  have kA21 : Kept (fun _ => False) X18 X21 := by rw [hX21]; exact Kept.alloc _ _
                  have hg21 : X21.heap[X18.heap.size]? = some (.cells #[.int .u64 0, .string ⟨#[]⟩, .slice none 0 0, .int .i64 0, .int .i64 0] 60 (0, 0)) := by rw [hX21]; exact heap_alloc_new X18 _
                  have S21 := S18.trans kA21 (fun _ f => f.elim)
                  rw [← hX21]
                  obtain ⟨g21, hq21⟩ : ∃ g, g = X18.heap.size := ⟨_, rfl⟩
                  rw [← hq21] at hg21 ⊢
                  have lb21 : Wb.heap.size ≤ g21 := by have := S18.size; omega
                  first | refine Or.inl ⟨S21, ?_⟩ | refine ⟨S21, ?_⟩
                  have r21 := r18.keep kA21 (fun _ f => f.elim) (newK X18.heap.size 8 o118) (fun _ hq => newK_old hq)
                  have b21 := b18.keep kA21 (fun _ f => f.elim) (newK X18.heap.size 8 o118) (fun _ hq => newK_old hq)
                  have cg21 : newK X18.heap.size 8 o118 g21 = 8 := newK_new (by omega)
                  have h22_21 := kA21.heap h22_18 (fun f => f)
                  have c22_21 : newK X18.heap.size 8 o118 g17 = 8 := (newK_old (lt_of_block h22_18)).trans c22_18
                  have ne_21 : g17 ≠ g21 := by have := lt_of_block h22_18; omega
                  have IY21 := ints_laterK IY18 kA21
                  have DY21 : Rk.ls ≠ [] → ∀ b off, aY18 = some ⟨b, off, none⟩ → b ≠ g21 := fun h b off e => by have := ints_ltK IY18 h e; omega
                  generalize newK X18.heap.size 8 o118 = o121 at r21 b21 cg21 c22_21
                  clear hX21 hq21

                  refine wpAnyH_all (rs := [13]) (by kernel_rfl) (by simp) ?_
                  intro i' hi'
                  simp only [List.mem_cons, List.not_mem_nil, or_false] at hi'
                  obtain rfl := hi'
                  unfold wpOp
                  go_simp
                  first | refine (CT.out X21 o121 _ r21).mono ?_ | refine Or.inl ((CT.out X21 o121 _ r21).mono ?_)
                  rintro e X22 ⟨aT22, cT22, rfl, HT22⟩
                  obtain ⟨IT22, kT22, NT22⟩ := HT22.out
                  have S22 := S21.trans kT22 (fun _ f => f.elim)
                  first | refine Or.inl ⟨S22, ?_⟩ | refine ⟨S22, ?_⟩
                  have r22 := r21.later kT22
                  have b22 := b21.later kT22
                  have IY22 := ints_laterK IY21 kT22
                  have h22_22 := kT22.heap h22_21 (fun f => f)
                  have DT22_22 : Rk.ls ≠ [] → ∀ b off, aT22 = some ⟨b, off, none⟩ → b ≠ g17 := fun h b off e => by have h1 := NT22 h b off e; have h2 := lt_of_block h22_21; omega
                  have h23_22 := kT22.heap hg21 (fun f => f)
                  have DT23_22 : Rk.ls ≠ [] → ∀ b off, aT22 = some ⟨b, off, none⟩ → b ≠ g21 := fun h b off e => by have h1 := NT22 h b off e; have h2 := lt_of_block hg21; omega

                  have hn0 : g17 ≠ g21 := by exact ne_21
                  have p0 : X22.cell? ⟨g17, 0, none⟩ = some (.int .u64 0) := by rw [cell_of_row _ _ 0 _ _ _ h22_22]; rfl
                  have p1 : X22.cell? ⟨g17, 1, none⟩ = some (.string ⟨#[]⟩) := by rw [cell_of_row _ _ 1 _ _ _ h22_22]; rfl
                  have p2 : X22.cell? ⟨g17, 2, none⟩ = some (.slice none 0 0) := by rw [cell_of_row _ _ 2 _ _ _ h22_22]; rfl
                  have p3 : X22.cell? ⟨g17, 3, none⟩ = some (.int .i64 0) := by rw [cell_of_row _ _ 3 _ _ _ h22_22]; rfl
                  have p4 : X22.cell? ⟨g17, 4, none⟩ = some (.int .i64 0) := by rw [cell_of_row _ _ 4 _ _ _ h22_22]; rfl
                  have pf : ∀ j, X22.frozen? ⟨g17, j, none⟩ = false := fun j => by simp [World.frozen?, h22_22]

                  refine wpAnyH_all (rs := [16]) (by kernel_rfl) (by simp) ?_
                  intro i' hi'
                  obtain rfl : i' = 16 := by simpa using hi'
                  unfold wpOp
                  go_simp
                  have k16 := keep5K (W := X22) (g := g17) (v0 := .int .u64 Rk.u) (v1 := .string (strOfNums Rk.t)) (v2 := .slice aY18 nl cY18) (v3 := .int .i64 (Rk.nx : Int)) (v4 := .int .i64 (Rk.e : Int))
                  have e22 := look_put5K (v0 := .int .u64 Rk.u) (v1 := .string (strOfNums Rk.t)) (v2 := .slice aY18 nl cY18) (v3 := .int .i64 (Rk.nx : Int)) (v4 := .int .i64 (Rk.e : Int)) h22_22
                  obtain ⟨W16, hW16⟩ : ∃ W', W' = (((((X22.setCell ⟨g17, 0, none⟩ (.int .u64 Rk.u)).setCell ⟨g17, 1, none⟩ (.string (strOfNums Rk.t))).setCell ⟨g17, 2, none⟩ (.slice aY18 nl cY18)).setCell ⟨g17, 3, none⟩ (.int .i64 (Rk.nx : Int))).setCell ⟨g17, 4, none⟩ (.int .i64 (Rk.e : Int))) := ⟨_, rfl⟩
                  rw [← hW16] at k16 e22 ⊢
                  have S16 := S22.trans k16 (fun q f => .inr (by have f2 : q = g17 := f; omega))
                  first | refine Or.inl ⟨S16, ?_⟩ | refine ⟨S16, ?_⟩
                  have r16 := r22.keep k16 (fun q f _ => by have f2 : q = g17 := f; rw [f2, c22_21]; decide) o121 (fun _ _ => rfl)
                  have b16 := b22.keep k16 (fun q f _ => by have f2 : q = g17 := f; rw [f2, c22_21]; decide) o121 (fun _ _ => rfl)
                  have Y16 := ints_keepK IY22 k16 (fun h b off e f => DY22_18 h b off e f)
                  have T16 := ints_keepK IT22 k16 (fun h b off e f => DT22_22 h b off e f)
                  have e23 := k16.heap h23_22 (fun f => hn0 f.symm)
                  clear hW16 p0 p1 p2 p3 p4 pf
                  have p0 : W16.cell? ⟨g21, 0, none⟩ = some (.int .u64 0) := by rw [cell_of_row _ _ 0 _ _ _ e23]; rfl
                  have p1 : W16.cell? ⟨g21, 1, none⟩ = some (.string ⟨#[]⟩) := by rw [cell_of_row _ _ 1 _ _ _ e23]; rfl
                  have p2 : W16.cell? ⟨g21, 2, none⟩ = some (.slice none 0 0) := by rw [cell_of_row _ _ 2 _ _ _ e23]; rfl
                  have p3 : W16.cell? ⟨g21, 3, none⟩ = some (.int .i64 0) := by rw [cell_of_row _ _ 3 _ _ _ e23]; rfl
                  have p4 : W16.cell? ⟨g21, 4, none⟩ = some (.int .i64 0) := by rw [cell_of_row _ _ 4 _ _ _ e23]; rfl
                  have pf : ∀ j, W16.frozen? ⟨g21, j, none⟩ = false := fun j => by simp [World.frozen?, e23]

                  refine wpAnyH_all (rs := [17]) (by kernel_rfl) (by simp) ?_
                  intro i' hi'
                  obtain rfl : i' = 17 := by simpa using hi'
                  unfold wpOp
                  go_simp
                  have k17 := keep5K (W := W16) (g := g21) (v0 := .int .u64 Rk.u) (v1 := .string (strOfNums Rk.t)) (v2 := .slice aT22 nl cT22) (v3 := .int .i64 (Rk.nx : Int)) (v4 := .int .i64 (Rk.e : Int))
                  have e23b := look_put5K (v0 := .int .u64 Rk.u) (v1 := .string (strOfNums Rk.t)) (v2 := .slice aT22 nl cT22) (v3 := .int .i64 (Rk.nx : Int)) (v4 := .int .i64 (Rk.e : Int)) e23
                  obtain ⟨W17, hW17⟩ : ∃ W', W' = (((((W16.setCell ⟨g21, 0, none⟩ (.int .u64 Rk.u)).setCell ⟨g21, 1, none⟩ (.string (strOfNums Rk.t))).setCell ⟨g21, 2, none⟩ (.slice aT22 nl cT22)).setCell ⟨g21, 3, none⟩ (.int .i64 (Rk.nx : Int))).setCell ⟨g21, 4, none⟩ (.int .i64 (Rk.e : Int))) := ⟨_, rfl⟩
                  rw [← hW17] at k17 e23b ⊢
                  have S17 := S16.trans k17 (fun q f => .inr (by have f2 : q = g21 := f; omega))
                  first | refine Or.inl ⟨S17, ?_⟩ | refine ⟨S17, ?_⟩
                  have HA9 : Hid (AskD w W17 k bR rv l (upK pR 0 Rk.nx) pR gr gd vd ga kb Rk nl g17 g21) := hideH ⟨_, _, _, _, o121, _, _, _, _, _, _, k17.heap e22 (fun f => hn0 f), e23b, ints_keepK Y16 k17 (fun h b off e f => DY21 h b off e f), ints_keepK T16 k17 (fun h b off e f => DT23_22 h b off e f), r16.keep k17 (fun q f _ => by have f2 : q = g21 := f; rw [f2, cg21]; decide) o121 (fun _ _ => rfl), b16.keep k17 (fun q f _ => by have f2 : q = g21 := f; rw [f2, cg21]; decide) o121 (fun _ _ => rfl), lv18, li18⟩
                  clear hW17 p0 p1 p2 p3 p4 pf
                  refine wpAnyH_done (by kernel_rfl) ?_ _
                  go_wp2_with fail
                  go_meet
                  case rel => exact ⟨_, _, rfl, rfl, HA9⟩
              · unfold wpOp
                go_simp
                obtain ⟨X23, hX23⟩ : ∃ W', W' = X17.alloc (.cells #[.int .u64 0, .string ⟨#[]⟩, .slice none 0 0, .int .i64 0, .int .i64 0] 60) := ⟨_, rfl⟩
                have kA23 : Kept (fun _ => False) X17 X23 := by rw [hX23]; exact Kept.alloc _ _
                have hg23 : X23.heap[X17.heap.size]? = some (.cells #[.int .u64 0, .string ⟨#[]⟩, .slice none 0 0, .int .i64 0, .int .i64 0] 60 (0, 0)) := by rw [hX23]; exact heap_alloc_new X17 _
                have S23 := S17.trans kA23 (fun _ f => f.elim)
                rw [← hX23]
                obtain ⟨g23, hq23⟩ : ∃ g, g = X17.heap.size := ⟨_, rfl⟩
                rw [← hq23] at hg23 ⊢
                have lb23 : Wb.heap.size ≤ g23 := by have := S17.size; omega
                first | refine Or.inl ⟨S23, ?_⟩ | refine ⟨S23, ?_⟩
                have RL23 := RL17.fresh kA23 8
                have key23 : ∀ q, q < Wb.heap.size → newK X17.heap.size 8 o117 q = o1 q := fun q hq => (newK_old (Nat.lt_of_lt_of_le hq S17.size)).trans (key17 q hq)
                have cg23 : newK X17.heap.size 8 o117 g23 = 8 := newK_new (by omega)
                have h22_23 := kA23.heap hg17 (fun f => f)
                have c22_23 : newK X17.heap.size 8 o117 g17 = 8 := (newK_old (lt_of_block hg17)).trans cg17
                have ne_23 : g17 ≠ g23 := by have := lt_of_block hg17; omega
                generalize newK X17.heap.size 8 o117 = o123 at RL23 key23 cg23 c22_23
                clear hX23 hq23

                refine wpAnyH_all (rs := [3]) (by kernel_rfl) (by simp) ?_
                intro i' hi'
                simp only [List.mem_cons, List.not_mem_nil, or_false] at hi'
                obtain rfl := hi'
                unfold wpOp
                go_simp
                first | refine (CA.out X23 o123 RL23).mono ?_ | refine Or.inl ((CA.out X23 o123 RL23).mono ?_)
                rintro e X24 ⟨aY24, cY24, rfl, HY24⟩
                obtain ⟨o124, vB24, vI24, V24, I24, LB24, LI24, IY24, NY24, ke24, r24, b24, lv24, li24, ky24⟩ := HY24.out
                have S24 := S23.trans ky24 (fun q f => by
                  by_cases hq : q < Wb.heap.size
                  · have f2 : o123 q = 0 ∨ o123 q = 7 := f
                    rw [key23 q hq] at f2
                    exact .inl f2
                  · exact .inr (by omega))
                first | refine Or.inl ⟨S24, ?_⟩ | refine ⟨S24, ?_⟩
                have h22_24 := ky24.heap h22_23 (fun f => by have f2 : o123 g17 = 0 ∨ o123 g17 = 7 := f; omega)
                have c22_24 : o124 g17 = 8 := (ke24 _ (lt_of_block h22_23)).trans c22_23
                have DY22_24 : Rk.ls ≠ [] → ∀ b off, aY24 = some ⟨b, off, none⟩ → b ≠ g17 := fun h b off e => by have h1 := NY24 h b off e; have h2 := lt_of_block h22_23; omega
                have h23_24 := ky24.heap hg23 (fun f => by have f2 : o123 g23 = 0 ∨ o123 g23 = 7 := f; omega)
                have c23_24 : o124 g23 = 8 := (ke24 _ (lt_of_block hg23)).trans cg23
                have DY23_24 : Rk.ls ≠ [] → ∀ b off, aY24 = some ⟨b, off, none⟩ → b ≠ g23 := fun h b off e => by have h1 := NY24 h b off e; have h2 := lt_of_block hg23; omega

                refine wpAnyH_all (rs := [13]) (by kernel_rfl) (by simp) ?_
                intro i' hi'
                simp only [List.mem_cons, List.not_mem_nil, or_false] at hi'
                obtain rfl := hi'
                unfold wpOp
                go_simp
                first | refine (CT.out X24 o124 _ r24).mono ?_ | refine Or.inl ((CT.out X24 o124 _ r24).mono ?_)
                rintro e X25 ⟨aT25, cT25, rfl, HT25⟩
                obtain ⟨IT25, kT25, NT25⟩ := HT25.out
                have S25 := S24.trans kT25 (fun _ f => f.elim)
                first | refine Or.inl ⟨S25, ?_⟩ | refine ⟨S25, ?_⟩
                have r25 := r24.later kT25
                have b25 := b24.later kT25
                have IY25 := ints_laterK IY24 kT25
                have h22_25 := kT25.heap h22_24 (fun f => f)
                have DT22_25 : Rk.ls ≠ [] → ∀ b off, aT25 = some ⟨b, off, none⟩ → b ≠ g17 := fun h b off e => by have h1 := NT25 h b off e; have h2 := lt_of_block h22_24; omega
                have h23_25 := kT25.heap h23_24 (fun f => f)
                have DT23_25 : Rk.ls ≠ [] → ∀ b off, aT25 = some ⟨b, off, none⟩ → b ≠ g23 := fun h b off e => by have h1 := NT25 h b off e; have h2 := lt_of_block h23_24; omega

                have hn0 : g17 ≠ g23 := by exact ne_23
                have p0 : X25.cell? ⟨g17, 0, none⟩ = some (.int .u64 0) := by rw [cell_of_row _ _ 0 _ _ _ h22_25]; rfl
                have p1 : X25.cell? ⟨g17, 1, none⟩ = some (.string ⟨#[]⟩) := by rw [cell_of_row _ _ 1 _ _ _ h22_25]; rfl
                have p2 : X25.cell? ⟨g17, 2, none⟩ = some (.slice none 0 0) := by rw [cell_of_row _ _ 2 _ _ _ h22_25]; rfl
                have p3 : X25.cell? ⟨g17, 3, none⟩ = some (.int .i64 0) := by rw [cell_of_row _ _ 3 _ _ _ h22_25]; rfl
                have p4 : X25.cell? ⟨g17, 4, none⟩ = some (.int .i64 0) := by rw [cell_of_row _ _ 4 _ _ _ h22_25]; rfl
                have pf : ∀ j, X25.frozen? ⟨g17, j, none⟩ = false := fun j => by simp [World.frozen?, h22_25]

                refine wpAnyH_all (rs := [16]) (by kernel_rfl) (by simp) ?_
                intro i' hi'
                obtain rfl : i' = 16 := by simpa using hi'
                unfold wpOp
                go_simp
                have k16 := keep5K (W := X25) (g := g17) (v0 := .int .u64 Rk.u) (v1 := .string (strOfNums Rk.t)) (v2 := .slice aY24 nl cY24) (v3 := .int .i64 (Rk.nx : Int)) (v4 := .int .i64 (Rk.e : Int))
                have e22 := look_put5K (v0 := .int .u64 Rk.u) (v1 := .string (strOfNums Rk.t)) (v2 := .slice aY24 nl cY24) (v3 := .int .i64 (Rk.nx : Int)) (v4 := .int .i64 (Rk.e : Int)) h22_25
                obtain ⟨W16, hW16⟩ : ∃ W', W' = (((((X25.setCell ⟨g17, 0, none⟩ (.int .u64 Rk.u)).setCell ⟨g17, 1, none⟩ (.string (strOfNums Rk.t))).setCell ⟨g17, 2, none⟩ (.slice aY24 nl cY24)).setCell ⟨g17, 3, none⟩ (.int .i64 (Rk.nx : Int))).setCell ⟨g17, 4, none⟩ (.int .i64 (Rk.e : Int))) := ⟨_, rfl⟩
                rw [← hW16] at k16 e22 ⊢
                have S16 := S25.trans k16 (fun q f => .inr (by have f2 : q = g17 := f; omega))
                first | refine Or.inl ⟨S16, ?_⟩ | refine ⟨S16, ?_⟩
                have r16 := r25.keep k16 (fun q f _ => by have f2 : q = g17 := f; rw [f2, c22_24]; decide) o124 (fun _ _ => rfl)
                have b16 := b25.keep k16 (fun q f _ => by have f2 : q = g17 := f; rw [f2, c22_24]; decide) o124 (fun _ _ => rfl)
                have Y16 := ints_keepK IY25 k16 (fun h b off e f => DY22_24 h b off e f)
                have T16 := ints_keepK IT25 k16 (fun h b off e f => DT22_25 h b off e f)
                have e23 := k16.heap h23_25 (fun f => hn0 f.symm)
                clear hW16 p0 p1 p2 p3 p4 pf
                have p0 : W16.cell? ⟨g23, 0, none⟩ = some (.int .u64 0) := by rw [cell_of_row _ _ 0 _ _ _ e23]; rfl
                have p1 : W16.cell? ⟨g23, 1, none⟩ = some (.string ⟨#[]⟩) := by rw [cell_of_row _ _ 1 _ _ _ e23]; rfl
                have p2 : W16.cell? ⟨g23, 2, none⟩ = some (.slice none 0 0) := by rw [cell_of_row _ _ 2 _ _ _ e23]; rfl
                have p3 : W16.cell? ⟨g23, 3, none⟩ = some (.int .i64 0) := by rw [cell_of_row _ _ 3 _ _ _ e23]; rfl
                have p4 : W16.cell? ⟨g23, 4, none⟩ = some (.int .i64 0) := by rw [cell_of_row _ _ 4 _ _ _ e23]; rfl
                have pf : ∀ j, W16.frozen? ⟨g23, j, none⟩ = false := fun j => by simp [World.frozen?, e23]

                refine wpAnyH_all (rs := [17]) (by kernel_rfl) (by simp) ?_
                intro i' hi'
                obtain rfl : i' = 17 := by simpa using hi'
                unfold wpOp
                go_simp
                have k17 := keep5K (W := W16) (g := g23) (v0 := .int .u64 Rk.u) (v1 := .string (strOfNums Rk.t)) (v2 := .slice aT25 nl cT25) (v3 := .int .i64 (Rk.nx : Int)) (v4 := .int .i64 (Rk.e : Int))
                have e23b := look_put5K (v0 := .int .u64 Rk.u) (v1 := .string (strOfNums Rk.t)) (v2 := .slice aT25 nl cT25) (v3 := .int .i64 (Rk.nx : Int)) (v4 := .int .i64 (Rk.e : Int)) e23
                obtain ⟨W17, hW17⟩ : ∃ W', W' = (((((W16.setCell ⟨g23, 0, none⟩ (.int .u64 Rk.u)).setCell ⟨g23, 1, none⟩ (.string (strOfNums Rk.t))).setCell ⟨g23, 2, none⟩ (.slice aT25 nl cT25)).setCell ⟨g23, 3, none⟩ (.int .i64 (Rk.nx : Int))).setCell ⟨g23, 4, none⟩ (.int .i64 (Rk.e : Int))) := ⟨_, rfl⟩
                rw [← hW17] at k17 e23b ⊢
                have S17 := S16.trans k17 (fun q f => .inr (by have f2 : q = g23 := f; omega))
                first | refine Or.inl ⟨S17, ?_⟩ | refine ⟨S17, ?_⟩
                have HA9 : Hid (AskD w W17 k bR rv l (upK pR 0 Rk.nx) pR gr gd vd ga kb Rk nl g17 g23) := hideH ⟨_, _, _, _, o124, _, _, _, _, _, _, k17.heap e22 (fun f => hn0 f), e23b, ints_keepK Y16 k17 (fun h b off e f => DY23_24 h b off e f), ints_keepK T16 k17 (fun h b off e f => DT23_25 h b off e f), r16.keep k17 (fun q f _ => by have f2 : q = g23 := f; rw [f2, c23_24]; decide) o124 (fun _ _ => rfl), b16.keep k17 (fun q f _ => by have f2 : q = g23 := f; rw [f2, c23_24]; decide) o124 (fun _ _ => rfl), lv24, li24⟩
                clear hW17 p0 p1 p2 p3 p4 pf
                refine wpAnyH_done (by kernel_rfl) ?_ _
                go_wp2_with fail
                go_meet
                case rel => exact ⟨_, _, rfl, rfl, HA9⟩
            · unfold wpOp
              go_simp
              obtain ⟨X26, hX26⟩ : ∃ W', W' = Wd.alloc (.cells #[.int .u64 0, .string ⟨#[]⟩, .slice none 0 0, .int .i64 0, .int .i64 0] 60) := ⟨_, rfl⟩
              have kA26 : Kept (fun _ => False) Wd X26 := by rw [hX26]; exact Kept.alloc _ _
              have hg26 : X26.heap[Wd.heap.size]? = some (.cells #[.int .u64 0, .string ⟨#[]⟩, .slice none 0 0, .int .i64 0, .int .i64 0] 60 (0, 0)) := by rw [hX26]; exact heap_alloc_new Wd _
              have S26 := hS.trans kA26 (fun _ f => f.elim)
              rw [← hX26]
              obtain ⟨g26, hq26⟩ : ∃ g, g = Wd.heap.size := ⟨_, rfl⟩
              rw [← hq26] at hg26 ⊢
              have lb26 : Wb.heap.size ≤ g26 := by have := hS.size; omega
              first | refine Or.inl ⟨S26, ?_⟩ | refine ⟨S26, ?_⟩
              have RL26 := hRL.fresh kA26 8
              have key26 : ∀ q, q < Wb.heap.size → newK Wd.heap.size 8 o1 q = o1 q := fun q hq => (newK_old (Nat.lt_of_lt_of_le hq hS.size)).trans (key0 q hq)
              have cg26 : newK Wd.heap.size 8 o1 g26 = 8 := newK_new (by omega)
              generalize newK Wd.heap.size 8 o1 = o126 at RL26 key26 cg26
              clear hX26 hq26

              refine wpAnyH_all (rs := [3, 14]) (by kernel_rfl) (by simp) ?_
              intro i' hi'
              simp only [List.mem_cons, List.not_mem_nil, or_false] at hi'
              rcases hi' with rfl | rfl
              · unfold wpOp
                go_simp
                first | refine (CA.out X26 o126 RL26).mono ?_ | refine Or.inl ((CA.out X26 o126 RL26).mono ?_)
                rintro e X27 ⟨aY27, cY27, rfl, HY27⟩
                obtain ⟨o127, vB27, vI27, V27, I27, LB27, LI27, IY27, NY27, ke27, r27, b27, lv27, li27, ky27⟩ := HY27.out
                have S27 := S26.trans ky27 (fun q f => by
                  by_cases hq : q < Wb.heap.size
                  · have f2 : o126 q = 0 ∨ o126 q = 7 := f
                    rw [key26 q hq] at f2
                    exact .inl f2
                  · exact .inr (by omega))
                first | refine Or.inl ⟨S27, ?_⟩ | refine ⟨S27, ?_⟩
                have h23_27 := ky27.heap hg26 (fun f => by have f2 : o126 g26 = 0 ∨ o126 g26 = 7 := f; omega)
                have c23_27 : o127 g26 = 8 := (ke27 _ (lt_of_block hg26)).trans cg26
                have DY23_27 : Rk.ls ≠ [] → ∀ b off, aY27 = some ⟨b, off, none⟩ → b ≠ g26 := fun h b off e => by have h1 := NY27 h b off e; have h2 := lt_of_block hg26; omega

                refine wpAnyH_all (rs := [13, 14]) (by kernel_rfl) (by simp) ?_
                intro i' hi'
                simp only [List.mem_cons, List.not_mem_nil, or_false] at hi'
                rcases hi' with rfl | rfl
                · unfold wpOp
                  go_simp
                  first | refine (CT.out X27 o127 _ r27).mono ?_ | refine Or.inl ((CT.out X27 o127 _ r27).mono ?_)
                  rintro e X28 ⟨aT28, cT28, rfl, HT28⟩
                  obtain ⟨IT28, kT28, NT28⟩ := HT28.out
                  have S28 := S27.trans kT28 (fun _ f => f.elim)
                  first | refine Or.inl ⟨S28, ?_⟩ | refine ⟨S28, ?_⟩
                  have r28 := r27.later kT28
                  have b28 := b27.later kT28
                  have IY28 := ints_laterK IY27 kT28
                  have h23_28 := kT28.heap h23_27 (fun f => f)
                  have DT23_28 : Rk.ls ≠ [] → ∀ b off, aT28 = some ⟨b, off, none⟩ → b ≠ g26 := fun h b off e => by have h1 := NT28 h b off e; have h2 := lt_of_block h23_27; omega

                  refine wpAnyH_all (rs := [14]) (by kernel_rfl) (by simp) ?_
                  intro i' hi'
                  simp only [List.mem_cons, List.not_mem_nil, or_false] at hi'
                  obtain rfl := hi'
                  unfold wpOp
                  go_simp
                  obtain ⟨X29, hX29⟩ : ∃ W', W' = X28.alloc (.cells #[.int .u64 0, .string ⟨#[]⟩, .slice none 0 0, .int .i64 0, .int .i64 0] 60) := ⟨_, rfl⟩
                  have kA29 : Kept (fun _ => False) X28 X29 := by rw [hX29]; exact Kept.alloc _ _
                  have hg29 : X29.heap[X28.heap.size]? = some (.cells #[.int .u64 0, .string ⟨#[]⟩, .slice none 0 0, .int .i64 0, .int .i64 0] 60 (0, 0)) := by rw [hX29]; exact heap_alloc_new X28 _
                  have S29 := S28.trans kA29 (fun _ f => f.elim)
                  rw [← hX29]
                  obtain ⟨g29, hq29⟩ : ∃ g, g = X28.heap.size := ⟨_, rfl⟩
                  rw [← hq29] at hg29 ⊢
                  have lb29 : Wb.heap.size ≤ g29 := by have := S28.size; omega
                  first | refine Or.inl ⟨S29, ?_⟩ | refine ⟨S29, ?_⟩
                  have r29 := r28.keep kA29 (fun _ f => f.elim) (newK X28.heap.size 8 o127) (fun _ hq => newK_old hq)
                  have b29 := b28.keep kA29 (fun _ f => f.elim) (newK X28.heap.size 8 o127) (fun _ hq => newK_old hq)
                  have cg29 : newK X28.heap.size 8 o127 g29 = 8 := newK_new (by omega)
                  have h23_29 := kA29.heap h23_28 (fun f => f)
                  have c23_29 : newK X28.heap.size 8 o127 g26 = 8 := (newK_old (lt_of_block h23_28)).trans c23_27
                  have ne_29 : g26 ≠ g29 := by have := lt_of_block h23_28; omega
                  have IY29 := ints_laterK IY28 kA29
                  have DY29 : Rk.ls ≠ [] → ∀ b off, aY27 = some ⟨b, off, none⟩ → b ≠ g29 := fun h b off e => by have := ints_ltK IY28 h e; omega
                  have IT29 := ints_laterK IT28 kA29
                  have DT29 : Rk.ls ≠ [] → ∀ b off, aT28 = some ⟨b, off, none⟩ → b ≠ g29 := fun h b off e => by have := ints_ltK IT28 h e; omega
                  generalize newK X28.heap.size 8 o127 = o129 at r29 b29 cg29 c23_29
                  clear hX29 hq29

                  have hn0 : g29 ≠ g26 := by exact fun e => ne_29 e.symm
                  have p0 : X29.cell? ⟨g29, 0, none⟩ = some (.int .u64 0) := by rw [cell_of_row _ _ 0 _ _ _ hg29]; rfl
                  have p1 : X29.cell? ⟨g29, 1, none⟩ = some (.string ⟨#[]⟩) := by rw [cell_of_row _ _ 1 _ _ _ hg29]; rfl
                  have p2 : X29.cell? ⟨g29, 2, none⟩ = some (.slice none 0 0) := by rw [cell_of_row _ _ 2 _ _ _ hg29]; rfl
                  have p3 : X29.cell? ⟨g29, 3, none⟩ = some (.int .i64 0) := by rw [cell_of_row _ _ 3 _ _ _ hg29]; rfl
                  have p4 : X29.cell? ⟨g29, 4, none⟩ = some (.int .i64 0) := by rw [cell_of_row _ _ 4 _ _ _ hg29]; rfl
                  have pf : ∀ j, X29.frozen? ⟨g29, j, none⟩ = false := fun j => by simp [World.frozen?, hg29]

                  refine wpAnyH_all (rs := [16]) (by kernel_rfl) (by simp) ?_
                  intro i' hi'
                  obtain rfl : i' = 16 := by simpa using hi'
                  unfold wpOp
                  go_simp
                  have k16 := keep5K (W := X29) (g := g29) (v0 := .int .u64 Rk.u) (v1 := .string (strOfNums Rk.t)) (v2 := .slice aY27 nl cY27) (v3 := .int .i64 (Rk.nx : Int)) (v4 := .int .i64 (Rk.e : Int))
                  have e22 := look_put5K (v0 := .int .u64 Rk.u) (v1 := .string (strOfNums Rk.t)) (v2 := .slice aY27 nl cY27) (v3 := .int .i64 (Rk.nx : Int)) (v4 := .int .i64 (Rk.e : Int)) hg29
                  obtain ⟨W16, hW16⟩ : ∃ W', W' = (((((X29.setCell ⟨g29, 0, none⟩ (.int .u64 Rk.u)).setCell ⟨g29, 1, none⟩ (.string (strOfNums Rk.t))).setCell ⟨g29, 2, none⟩ (.slice aY27 nl cY27)).setCell ⟨g29, 3, none⟩ (.int .i64 (Rk.nx : Int))).setCell ⟨g29, 4, none⟩ (.int .i64 (Rk.e : Int))) := ⟨_, rfl⟩
                  rw [← hW16] at k16 e22 ⊢
                  have S16 := S29.trans k16 (fun q f => .inr (by have f2 : q = g29 := f; omega))
                  first | refine Or.inl ⟨S16, ?_⟩ | refine ⟨S16, ?_⟩
                  have r16 := r29.keep k16 (fun q f _ => by have f2 : q = g29 := f; rw [f2, cg29]; decide) o129 (fun _ _ => rfl)
                  have b16 := b29.keep k16 (fun q f _ => by have f2 : q = g29 := f; rw [f2, cg29]; decide) o129 (fun _ _ => rfl)
                  have Y16 := ints_keepK IY29 k16 (fun h b off e f => DY29 h b off e f)
                  have T16 := ints_keepK IT29 k16 (fun h b off e f => DT29 h b off e f)
                  have e23 := k16.heap h23_29 (fun f => hn0 f.symm)
                  clear hW16 p0 p1 p2 p3 p4 pf
                  have p0 : W16.cell? ⟨g26, 0, none⟩ = some (.int .u64 0) := by rw [cell_of_row _ _ 0 _ _ _ e23]; rfl
                  have p1 : W16.cell? ⟨g26, 1, none⟩ = some (.string ⟨#[]⟩) := by rw [cell_of_row _ _ 1 _ _ _ e23]; rfl
                  have p2 : W16.cell? ⟨g26, 2, none⟩ = some (.slice none 0 0) := by rw [cell_of_row _ _ 2 _ _ _ e23]; rfl
                  have p3 : W16.cell? ⟨g26, 3, none⟩ = some (.int .i64 0) := by rw [cell_of_row _ _ 3 _ _ _ e23]; rfl
                  have p4 : W16.cell? ⟨g26, 4, none⟩ = some (.int .i64 0) := by rw [cell_of_row _ _ 4 _ _ _ e23]; rfl
                  have pf : ∀ j, W16.frozen? ⟨g26, j, none⟩ = false := fun j => by simp [World.frozen?, e23]

                  refine wpAnyH_all (rs := [17]) (by kernel_rfl) (by simp) ?_
                  intro i' hi'
                  obtain rfl : i' = 17 := by simpa using hi'
                  unfold wpOp
                  go_simp
                  have k17 := keep5K (W := W16) (g := g26) (v0 := .int .u64 Rk.u) (v1 := .string (strOfNums Rk.t)) (v2 := .slice aT28 nl cT28) (v3 := .int .i64 (Rk.nx : Int)) (v4 := .int .i64 (Rk.e : Int))
                  have e23b := look_put5K (v0 := .int .u64 Rk.u) (v1 := .string (strOfNums Rk.t)) (v2 := .slice aT28 nl cT28) (v3 := .int .i64 (Rk.nx : Int)) (v4 := .int .i64 (Rk.e : Int)) e23
                  obtain ⟨W17, hW17⟩ : ∃ W', W' = (((((W16.setCell ⟨g26, 0, none⟩ (.int .u64 Rk.u)).setCell ⟨g26, 1, none⟩ (.string (strOfNums Rk.t))).setCell ⟨g26, 2, none⟩ (.slice aT28 nl cT28)).setCell ⟨g26, 3, none⟩ (.int .i64 (Rk.nx : Int))).setCell ⟨g26, 4, none⟩ (.int .i64 (Rk.e : Int))) := ⟨_, rfl⟩
                  rw [← hW17] at k17 e23b ⊢
                  have S17 := S16.trans k17 (fun q f => .inr (by have f2 : q = g26 := f; omega))
                  first | refine Or.inl ⟨S17, ?_⟩ | refine ⟨S17, ?_⟩
                  have HA9 : Hid (AskD w W17 k bR rv l (upK pR 0 Rk.nx) pR gr gd vd ga kb Rk nl g29 g26) := hideH ⟨_, _, _, _, o129, _, _, _, _, _, _, k17.heap e22 (fun f => hn0 f), e23b, ints_keepK Y16 k17 (fun h b off e f => DY23_27 h b off e f), ints_keepK T16 k17 (fun h b off e f => DT23_28 h b off e f), r16.keep k17 (fun q f _ => by have f2 : q = g26 := f; rw [f2, c23_29]; decide) o129 (fun _ _ => rfl), b16.keep k17 (fun q f _ => by have f2 : q = g26 := f; rw [f2, c23_29]; decide) o129 (fun _ _ => rfl), lv27, li27⟩
                  clear hW17 p0 p1 p2 p3 p4 pf
                  refine wpAnyH_done (by kernel_rfl) ?_ _
                  go_wp2_with fail
                  go_meet
                  case rel => exact ⟨_, _, rfl, rfl, HA9⟩
                · unfold wpOp
                  go_simp
                  obtain ⟨X30, hX30⟩ : ∃ W', W' = X27.alloc (.cells #[.int .u64 0, .string ⟨#[]⟩, .slice none 0 0, .int .i64 0, .int .i64 0] 60) := ⟨_, rfl⟩
                  have kA30 : Kept (fun _ => False) X27 X30 := by rw [hX30]; exact Kept.alloc _ _
                  have hg30 : X30.heap[X27.heap.size]? = some (.cells #[.int .u64 0, .string ⟨#[]⟩, .slice none 0 0, .int .i64 0, .int .i64 0] 60 (0, 0)) := by rw [hX30]; exact heap_alloc_new X27 _
                  have S30 := S27.trans kA30 (fun _ f => f.elim)
                  rw [← hX30]
                  obtain ⟨g30, hq30⟩ : ∃ g, g = X27.heap.size := ⟨_, rfl⟩
                  rw [← hq30] at hg30 ⊢
                  have lb30 : Wb.heap.size ≤ g30 := by have := S27.size; omega
                  first | refine Or.inl ⟨S30, ?_⟩ | refine ⟨S30, ?_⟩
                  have r30 := r27.keep kA30 (fun _ f => f.elim) (newK X27.heap.size 8 o127) (fun _ hq => newK_old hq)
                  have b30 := b27.keep kA30 (fun _ f => f.elim) (newK X27.heap.size 8 o127) (fun _ hq => newK_old hq)
                  have cg30 : newK X27.heap.size 8 o127 g30 = 8 := newK_new (by omega)
                  have h23_30 := kA30.heap h23_27 (fun f => f)
                  have c23_30 : newK X27.heap.size 8 o127 g26 = 8 := (newK_old (lt_of_block h23_27)).trans c23_27
                  have ne_30 : g26 ≠ g30 := by have := lt_of_block h23_27; omega
                  have IY30 := ints_laterK IY27 kA30
                  have DY30 : Rk.ls ≠ [] → ∀ b off, aY27 = some ⟨b, off, none⟩ → b ≠ g30 := fun h b off e => by have := ints_ltK IY27 h e; omega
                  generalize newK X27.heap.size 8 o127 = o130 at r30 b30 cg30 c23_30
                  clear hX30 hq30

                  refine wpAnyH_all (rs := [13]) (by kernel_rfl) (by simp) ?_
                  intro i' hi'
                  simp only [List.mem_cons, List.not_mem_nil, or_false] at hi'
                  obtain rfl := hi'
                  unfold wpOp
                  go_simp
                  first | refine (CT.out X30 o130 _ r30).mono ?_ | refine Or.inl ((CT.out X30 o130 _ r30).mono ?_)
                  rintro e X31 ⟨aT31, cT31, rfl, HT31⟩
                  obtain ⟨IT31, kT31, NT31⟩ := HT31.out
                  have S31 := S30.trans kT31 (fun _ f => f.elim)
                  first | refine Or.inl ⟨S31, ?_⟩ | refine ⟨S31, ?_⟩
                  have r31 := r30.later kT31
                  have b31 := b30.later kT31
                  have IY31 := ints_laterK IY30 kT31
                  have h23_31 := kT31.heap h23_30 (fun f => f)
                  have DT23_31 : Rk.ls ≠ [] → ∀ b off, aT31 = some ⟨b, off, none⟩ → b ≠ g26 := fun h b off e => by have h1 := NT31 h b off e; have h2 := lt_of_block h23_30; omega
                  have h22_31 := kT31.heap hg30 (fun f => f)
                  have DT22_31 : Rk.ls ≠ [] → ∀ b off, aT31 = some ⟨b, off, none⟩ → b ≠ g30 := fun h b off e => by have h1 := NT31 h b off e; have h2 := lt_of_block hg30; omega

                  have hn0 : g30 ≠ g26 := by exact fun e => ne_30 e.symm
                  have p0 : X31.cell? ⟨g30, 0, none⟩ = some (.int .u64 0) := by rw [cell_of_row _ _ 0 _ _ _ h22_31]; rfl
                  have p1 : X31.cell? ⟨g30, 1, none⟩ = some (.string ⟨#[]⟩) := by rw [cell_of_row _ _ 1 _ _ _ h22_31]; rfl
                  have p2 : X31.cell? ⟨g30, 2, none⟩ = some (.slice none 0 0) := by rw [cell_of_row _ _ 2 _ _ _ h22_31]; rfl
                  have p3 : X31.cell? ⟨g30, 3, none⟩ = some (.int .i64 0) := by rw [cell_of_row _ _ 3 _ _ _ h22_31]; rfl
                  have p4 : X31.cell? ⟨g30, 4, none⟩ = some (.int .i64 0) := by rw [cell_of_row _ _ 4 _ _ _ h22_31]; rfl
                  have pf : ∀ j, X31.frozen? ⟨g30, j, none⟩ = false := fun j => by simp [World.frozen?, h22_31]

                  refine wpAnyH_all (rs := [16]) (by kernel_rfl) (by simp) ?_
                  intro i' hi'
                  obtain rfl : i' = 16 := by simpa using hi'
                  unfold wpOp
                  go_simp
                  have k16 := keep5K (W := X31) (g := g30) (v0 := .int .u64 Rk.u) (v1 := .string (strOfNums Rk.t)) (v2 := .slice aY27 nl cY27) (v3 := .int .i64 (Rk.nx : Int)) (v4 := .int .i64 (Rk.e : Int))
                  have e22 := look_put5K (v0 := .int .u64 Rk.u) (v1 := .string (strOfNums Rk.t)) (v2 := .slice aY27 nl cY27) (v3 := .int .i64 (Rk.nx : Int)) (v4 := .int .i64 (Rk.e : Int)) h22_31
                  obtain ⟨W16, hW16⟩ : ∃ W', W' = (((((X31.setCell ⟨g30, 0, none⟩ (.int .u64 Rk.u)).setCell ⟨g30, 1, none⟩ (.string (strOfNums Rk.t))).setCell ⟨g30, 2, none⟩ (.slice aY27 nl cY27)).setCell ⟨g30, 3, none⟩ (.int .i64 (Rk.nx : Int))).setCell ⟨g30, 4, none⟩ (.int .i64 (Rk.e : Int))) := ⟨_, rfl⟩
                  rw [← hW16] at k16 e22 ⊢
                  have S16 := S31.trans k16 (fun q f => .inr (by have f2 : q = g30 := f; omega))
                  first | refine Or.inl ⟨S16, ?_⟩ | refine ⟨S16, ?_⟩
                  have r16 := r31.keep k16 (fun q f _ => by have f2 : q = g30 := f; rw [f2, cg30]; decide) o130 (fun _ _ => rfl)
                  have b16 := b31.keep k16 (fun q f _ => by have f2 : q = g30 := f; rw [f2, cg30]; decide) o130 (fun _ _ => rfl)
                  have Y16 := ints_keepK IY31 k16 (fun h b off e f => DY30 h b off e f)
                  have T16 := ints_keepK IT31 k16 (fun h b off e f => DT22_31 h b off e f)
                  have e23 := k16.heap h23_31 (fun f => hn0 f.symm)
                  clear hW16 p0 p1 p2 p3 p4 pf
                  have p0 : W16.cell? ⟨g26, 0, none⟩ = some (.int .u64 0) := by rw [cell_of_row _ _ 0 _ _ _ e23]; rfl
                  have p1 : W16.cell? ⟨g26, 1, none⟩ = some (.string ⟨#[]⟩) := by rw [cell_of_row _ _ 1 _ _ _ e23]; rfl
                  have p2 : W16.cell? ⟨g26, 2, none⟩ = some (.slice none 0 0) := by rw [cell_of_row _ _ 2 _ _ _ e23]; rfl
                  have p3 : W16.cell? ⟨g26, 3, none⟩ = some (.int .i64 0) := by rw [cell_of_row _ _ 3 _ _ _ e23]; rfl
                  have p4 : W16.cell? ⟨g26, 4, none⟩ = some (.int .i64 0) := by rw [cell_of_row _ _ 4 _ _ _ e23]; rfl
                  have pf : ∀ j, W16.frozen? ⟨g26, j, none⟩ = false := fun j => by simp [World.frozen?, e23]

                  refine wpAnyH_all (rs := [17]) (by kernel_rfl) (by simp) ?_
                  intro i' hi'
                  obtain rfl : i' = 17 := by simpa using hi'
                  unfold wpOp
                  go_simp
                  have k17 := keep5K (W := W16) (g := g26) (v0 := .int .u64 Rk.u) (v1 := .string (strOfNums Rk.t)) (v2 := .slice aT31 nl cT31) (v3 := .int .i64 (Rk.nx : Int)) (v4 := .int .i64 (Rk.e : Int))
                  have e23b := look_put5K (v0 := .int .u64 Rk.u) (v1 := .string (strOfNums Rk.t)) (v2 := .slice aT31 nl cT31) (v3 := .int .i64 (Rk.nx : Int)) (v4 := .int .i64 (Rk.e : Int)) e23
                  obtain ⟨W17, hW17⟩ : ∃ W', W' = (((((W16.setCell ⟨g26, 0, none⟩ (.int .u64 Rk.u)).setCell ⟨g26, 1, none⟩ (.string (strOfNums Rk.t))).setCell ⟨g26, 2, none⟩ (.slice aT31 nl cT31)).setCell ⟨g26, 3, none⟩ (.int .i64 (Rk.nx : Int))).setCell ⟨g26, 4, none⟩ (.int .i64 (Rk.e : Int))) := ⟨_, rfl⟩
                  rw [← hW17] at k17 e23b ⊢
                  have S17 := S16.trans k17 (fun q f => .inr (by have f2 : q = g26 := f; omega))
                  first | refine Or.inl ⟨S17, ?_⟩ | refine ⟨S17, ?_⟩
                  have HA9 : Hid (AskD w W17 k bR rv l (upK pR 0 Rk.nx) pR gr gd vd ga kb Rk nl g30 g26) := hideH ⟨_, _, _, _, o130, _, _, _, _, _, _, k17.heap e22 (fun f => hn0 f), e23b, ints_keepK Y16 k17 (fun h b off e f => DY23_27 h b off e f), ints_keepK T16 k17 (fun h b off e f => DT23_31 h b off e f), r16.keep k17 (fun q f _ => by have f2 : q = g26 := f; rw [f2, c23_30]; decide) o130 (fun _ _ => rfl), b16.keep k17 (fun q f _ => by have f2 : q = g26 := f; rw [f2, c23_30]; decide) o130 (fun _ _ => rfl), lv27, li27⟩
                  clear hW17 p0 p1 p2 p3 p4 pf
                  refine wpAnyH_done (by kernel_rfl) ?_ _
                  go_wp2_with fail
                  go_meet
                  case rel => exact ⟨_, _, rfl, rfl, HA9⟩
              · unfold wpOp
                go_simp
                obtain ⟨X32, hX32⟩ : ∃ W', W' = X26.alloc (.cells #[.int .u64 0, .string ⟨#[]⟩, .slice none 0 0, .int .i64 0, .int .i64 0] 60) := ⟨_, rfl⟩
                have kA32 : Kept (fun _ => False) X26 X32 := by rw [hX32]; exact Kept.alloc _ _
                have hg32 : X32.heap[X26.heap.size]? = some (.cells #[.int .u64 0, .string ⟨#[]⟩, .slice none 0 0, .int .i64 0, .int .i64 0] 60 (0, 0)) := by rw [hX32]; exact heap_alloc_new X26 _
                have S32 := S26.trans kA32 (fun _ f => f.elim)
                rw [← hX32]
                obtain ⟨g32, hq32⟩ : ∃ g, g = X26.heap.size := ⟨_, rfl⟩
                rw [← hq32] at hg32 ⊢
                have lb32 : Wb.heap.size ≤ g32 := by have := S26.size; omega
                first | refine Or.inl ⟨S32, ?_⟩ | refine ⟨S32, ?_⟩
                have RL32 := RL26.fresh kA32 8
                have key32 : ∀ q, q < Wb.heap.size → newK X26.heap.size 8 o126 q = o1 q := fun q hq => (newK_old (Nat.lt_of_lt_of_le hq S26.size)).trans (key26 q hq)
                have cg32 : newK X26.heap.size 8 o126 g32 = 8 := newK_new (by omega)
                have h23_32 := kA32.heap hg26 (fun f => f)
                have c23_32 : newK X26.heap.size 8 o126 g26 = 8 := (newK_old (lt_of_block hg26)).trans cg26
                have ne_32 : g26 ≠ g32 := by have := lt_of_block hg26; omega
                generalize newK X26.heap.size 8 o126 = o132 at RL32 key32 cg32 c23_32
                clear hX32 hq32

                refine wpAnyH_all (rs := [3]) (by kernel_rfl) (by simp) ?_
                intro i' hi'
                simp only [List.mem_cons, List.not_mem_nil, or_false] at hi'
                obtain rfl := hi'
                unfold wpOp
                go_simp
                first | refine (CA.out X32 o132 RL32).mono ?_ | refine Or.inl ((CA.out X32 o132 RL32).mono ?_)
                rintro e X33 ⟨aY33, cY33, rfl, HY33⟩
                obtain ⟨o133, vB33, vI33, V33, I33, LB33, LI33, IY33, NY33, ke33, r33, b33, lv33, li33, ky33⟩ := HY33.out
                have S33 := S32.trans ky33 (fun q f => by
                  by_cases hq : q < Wb.heap.size
                  · have f2 : o132 q = 0 ∨ o132 q = 7 := f
                    rw [key32 q hq] at f2
                    exact .inl f2
                  · exact .inr (by omega))
                first | refine Or.inl ⟨S33, ?_⟩ | refine ⟨S33, ?_⟩
                have h23_33 := ky33.heap h23_32 (fun f => by have f2 : o132 g26 = 0 ∨ o132 g26 = 7 := f; omega)
                have c23_33 : o133 g26 = 8 := (ke33 _ (lt_of_block h23_32)).trans c23_32
                have DY23_33 : Rk.ls ≠ [] → ∀ b off, aY33 = some ⟨b, off, none⟩ → b ≠ g26 := fun h b off e => by have h1 := NY33 h b off e; have h2 := lt_of_block h23_32; omega
                have h22_33 := ky33.heap hg32 (fun f => by have f2 : o132 g32 = 0 ∨ o132 g32 = 7 := f; omega)
                have c22_33 : o133 g32 = 8 := (ke33 _ (lt_of_block hg32)).trans cg32
                have DY22_33 : Rk.ls ≠ [] → ∀ b off, aY33 = some ⟨b, off, none⟩ → b ≠ g32 := fun h b off e => by have h1 := NY33 h b off e; have h2 := lt_of_block hg32; omega

                refine wpAnyH_all (rs := [13]) (by kernel_rfl) (by simp) ?_
                intro i' hi'
                simp only [List.mem_cons, List.not_mem_nil, or_false] at hi'
                obtain rfl := hi'
                unfold wpOp
                go_simp
                first | refine (CT.out X33 o133 _ r33).mono ?_ | refine Or.inl ((CT.out X33 o133 _ r33).mono ?_)
                rintro e X34 ⟨aT34, cT34, rfl, HT34⟩
                obtain ⟨IT34, kT34, NT34⟩ := HT34.out
                have S34 := S33.trans kT34 (fun _ f => f.elim)
                first | refine Or.inl ⟨S34, ?_⟩ | refine ⟨S34, ?_⟩
                have r34 := r33.later kT34
                have b34 := b33.later kT34
                have IY34 := ints_laterK IY33 kT34
                have h23_34 := kT34.heap h23_33 (fun f => f)
                have DT23_34 : Rk.ls ≠ [] → ∀ b off, aT34 = some ⟨b, off, none⟩ → b ≠ g26 := fun h b off e => by have h1 := NT34 h b off e; have h2 := lt_of_block h23_33; omega
                have h22_34 := kT34.heap h22_33 (fun f => f)
                have DT22_34 : Rk.ls ≠ [] → ∀ b off, aT34 = some ⟨b, off, none⟩ → b ≠ g32 := fun h b off e => by have h1 := NT34 h b off e; have h2 := lt_of_block h22_33; omega

                have hn0 : g32 ≠ g26 := by exact fun e => ne_32 e.symm
                have p0 : X34.cell? ⟨g32, 0, none⟩ = some (.int .u64 0) := by rw [cell_of_row _ _ 0 _ _ _ h22_34]; rfl
                have p1 : X34.cell? ⟨g32, 1, none⟩ = some (.string ⟨#[]⟩) := by rw [cell_of_row _ _ 1 _ _ _ h22_34]; rfl
                have p2 : X34.cell? ⟨g32, 2, none⟩ = some (.slice none 0 0) := by rw [cell_of_row _ _ 2 _ _ _ h22_34]; rfl
                have p3 : X34.cell? ⟨g32, 3, none⟩ = some (.int .i64 0) := by rw [cell_of_row _ _ 3 _ _ _ h22_34]; rfl
                have p4 : X34.cell? ⟨g32, 4, none⟩ = some (.int .i64 0) := by rw [cell_of_row _ _ 4 _ _ _ h22_34]; rfl
                have pf : ∀ j, X34.frozen? ⟨g32, j, none⟩ = false := fun j => by simp [World.frozen?, h22_34]

                refine wpAnyH_all (rs := [16]) (by kernel_rfl) (by simp) ?_
                intro i' hi'
                obtain rfl : i' = 16 := by simpa using hi'
                unfold wpOp
                go_simp
                have k16 := keep5K (W := X34) (g := g32) (v0 := .int .u64 Rk.u) (v1 := .string (strOfNums Rk.t)) (v2 := .slice aY33 nl cY33) (v3 := .int .i64 (Rk.nx : Int)) (v4 := .int .i64 (Rk.e : Int))
                have e22 := look_put5K (v0 := .int .u64 Rk.u) (v1 := .string (strOfNums Rk.t)) (v2 := .slice aY33 nl cY33) (v3 := .int .i64 (Rk.nx : Int)) (v4 := .int .i64 (Rk.e : Int)) h22_34
                obtain ⟨W16, hW16⟩ : ∃ W', W' = (((((X34.setCell ⟨g32, 0, none⟩ (.int .u64 Rk.u)).setCell ⟨g32, 1, none⟩ (.string (strOfNums Rk.t))).setCell ⟨g32, 2, none⟩ (.slice aY33 nl cY33)).setCell ⟨g32, 3, none⟩ (.int .i64 (Rk.nx : Int))).setCell ⟨g32, 4, none⟩ (.int .i64 (Rk.e : Int))) := ⟨_, rfl⟩
                rw [← hW16] at k16 e22 ⊢
                have S16 := S34.trans k16 (fun q f => .inr (by have f2 : q = g32 := f; omega))
                first | refine Or.inl ⟨S16, ?_⟩ | refine ⟨S16, ?_⟩
                have r16 := r34.keep k16 (fun q f _ => by have f2 : q = g32 := f; rw [f2, c22_33]; decide) o133 (fun _ _ => rfl)
                have b16 := b34.keep k16 (fun q f _ => by have f2 : q = g32 := f; rw [f2, c22_33]; decide) o133 (fun _ _ => rfl)
                have Y16 := ints_keepK IY34 k16 (fun h b off e f => DY22_33 h b off e f)
                have T16 := ints_keepK IT34 k16 (fun h b off e f => DT22_34 h b off e f)
                have e23 := k16.heap h23_34 (fun f => hn0 f.symm)
                clear hW16 p0 p1 p2 p3 p4 pf
                have p0 : W16.cell? ⟨g26, 0, none⟩ = some (.int .u64 0) := by rw [cell_of_row _ _ 0 _ _ _ e23]; rfl
                have p1 : W16.cell? ⟨g26, 1, none⟩ = some (.string ⟨#[]⟩) := by rw [cell_of_row _ _ 1 _ _ _ e23]; rfl
                have p2 : W16.cell? ⟨g26, 2, none⟩ = some (.slice none 0 0) := by rw [cell_of_row _ _ 2 _ _ _ e23]; rfl
                have p3 : W16.cell? ⟨g26, 3, none⟩ = some (.int .i64 0) := by rw [cell_of_row _ _ 3 _ _ _ e23]; rfl
                have p4 : W16.cell? ⟨g26, 4, none⟩ = some (.int .i64 0) := by rw [cell_of_row _ _ 4 _ _ _ e23]; rfl
                have pf : ∀ j, W16.frozen? ⟨g26, j, none⟩ = false := fun j => by simp [World.frozen?, e23]

                refine wpAnyH_all (rs := [17]) (by kernel_rfl) (by simp) ?_
                intro i' hi'
                obtain rfl : i' = 17 := by simpa using hi'
                unfold wpOp
                go_simp
                have k17 := keep5K (W := W16) (g := g26) (v0 := .int .u64 Rk.u) (v1 := .string (strOfNums Rk.t)) (v2 := .slice aT34 nl cT34) (v3 := .int .i64 (Rk.nx : Int)) (v4 := .int .i64 (Rk.e : Int))
                have e23b := look_put5K (v0 := .int .u64 Rk.u) (v1 := .string (strOfNums Rk.t)) (v2 := .slice aT34 nl cT34) (v3 := .int .i64 (Rk.nx : Int)) (v4 := .int .i64 (Rk.e : Int)) e23
                obtain ⟨W17, hW17⟩ : ∃ W', W' = (((((W16.setCell ⟨g26, 0, none⟩ (.int .u64 Rk.u)).setCell ⟨g26, 1, none⟩ (.string (strOfNums Rk.t))).setCell ⟨g26, 2, none⟩ (.slice aT34 nl cT34)).setCell ⟨g26, 3, none⟩ (.int .i64 (Rk.nx : Int))).setCell ⟨g26, 4, none⟩ (.int .i64 (Rk.e : Int))) := ⟨_, rfl⟩
                rw [← hW17] at k17 e23b ⊢
                have S17 := S16.trans k17 (fun q f => .inr (by have f2 : q = g26 := f; omega))
                first | refine Or.inl ⟨S17, ?_⟩ | refine ⟨S17, ?_⟩
                have HA9 : Hid (AskD w W17 k bR rv l (upK pR 0 Rk.nx) pR gr gd vd ga kb Rk nl g32 g26) := hideH ⟨_, _, _, _, o133, _, _, _, _, _, _, k17.heap e22 (fun f => hn0 f), e23b, ints_keepK Y16 k17 (fun h b off e f => DY23_33 h b off e f), ints_keepK T16 k17 (fun h b off e f => DT23_34 h b off e f), r16.keep k17 (fun q f _ => by have f2 : q = g26 := f; rw [f2, c23_33]; decide) o133 (fun _ _ => rfl), b16.keep k17 (fun q f _ => by have f2 : q = g26 := f; rw [f2, c23_33]; decide) o133 (fun _ _ => rfl), lv33, li33⟩
                clear hW17 p0 p1 p2 p3 p4 pf
                refine wpAnyH_done (by kernel_rfl) ?_ _
                go_wp2_with fail
                go_meet
                case rel => exact ⟨_, _, rfl, rfl, HA9⟩
        case rest =>
          as_aux_lemma =>
            obtain ⟨g22, g23, rfl, rfl, HAD⟩ := hcut
            obtain ⟨aY, cY, aT, cT, o2, vB2, vI2, V2, I2, LB2, LI2, hAr, hTr, iY, iT, r2, bq2, lv2, li2⟩ := HAD.out
            have m0 : wc.cell? ⟨g22, 0, none⟩ = some (.int .u64 Rk.u) := by rw [cell_of_row _ _ 0 _ _ _ hAr]; rfl
            have m1 : wc.cell? ⟨g22, 1, none⟩ = some (.string (strOfNums Rk.t)) := by rw [cell_of_row _ _ 1 _ _ _ hAr]; rfl
            have m2 : wc.cell? ⟨g22, 2, none⟩ = some (.slice aY nl cY) := by rw [cell_of_row _ _ 2 _ _ _ hAr]; rfl
            have m3 : wc.cell? ⟨g22, 3, none⟩ = some (.int .i64 (Rk.nx : Int)) := by rw [cell_of_row _ _ 3 _ _ _ hAr]; rfl
            have m4 : wc.cell? ⟨g22, 4, none⟩ = some (.int .i64 (Rk.e : Int)) := by rw [cell_of_row _ _ 4 _ _ _ hAr]; rfl
            have t0 : wc.cell? ⟨g23, 0, none⟩ = some (.int .u64 Rk.u) := by rw [cell_of_row _ _ 0 _ _ _ hTr]; rfl
            have t1 : wc.cell? ⟨g23, 1, none⟩ = some (.string (strOfNums Rk.t)) := by rw [cell_of_row _ _ 1 _ _ _ hTr]; rfl
            have t2 : wc.cell? ⟨g23, 2, none⟩ = some (.slice aT nl cT) := by rw [cell_of_row _ _ 2 _ _ _ hTr]; rfl
            have t3 : wc.cell? ⟨g23, 3, none⟩ = some (.int .i64 (Rk.nx : Int)) := by rw [cell_of_row _ _ 3 _ _ _ hTr]; rfl
            have t4 : wc.cell? ⟨g23, 4, none⟩ = some (.int .i64 (Rk.e : Int)) := by rw [cell_of_row _ _ 4 _ _ _ hTr]; rfl
            have CS : Hid (Calls Tryd.prog 25 #[.agg #[.int .u64 Rk.u, .string (strOfNums Rk.t), .slice aY nl cY, .int .i64 (Rk.nx : Int), .int .i64 (Rk.e : Int)], .agg #[.int .u64 Rk.u, .string (strOfNums Rk.t), .slice aT nl cT, .int .i64 (Rk.nx : Int), .int .i64 (Rk.e : Int)]] wc fun e w' => e = .returned (.bool true) ∧ Kept (fun _ => False) wc w') := hideH (by rw [HNL.out]; exact sameLook_trueK Rk aY aT cY cT wc iY iT (by rw [← HNL.out]; exact hlen))
            have HTR := hideH hTr
            have HR2 := hideH r2
            have HB2 := hideH bq2
            clear hAr hTr iY iT r2 bq2 HAD
            go_wp2_with (go_at_call 25; refine StpH.go ?_)
            refine ⟨?_⟩
            refine CS.out.mono ?_
            clear CS m0 m1 m2 m3 m4 t0 t1 t2 t3 t4
            rintro e Wx ⟨rfl, kx⟩
            have r3 := HR2.out.later kx
            have b3q := HB2.out.later kx
            have t3x : Wx.cell? ⟨g23, 3, none⟩ = some (.int .i64 (Rk.nx : Int)) := by rw [cell_of_row _ _ 3 _ _ _ (kx.heap HTR.out (fun f => f))]; rfl
            obtain ⟨-, -, ⟨a0x, a1x⟩, f0x, f1x⟩ := r3.cells
            have r4 := r3.store 0 (by decide) Rk.nx
            have b4q := b3q.keep (kset1K (W := Wx) (g := ga) (i := 0) (x := .int .i64 (Rk.nx : Int))) (fun q f _ => by have f2 : q = ga := f; rw [f2, r3.oa]; omega) o2 (fun _ _ => rfl)
            have HF : Hid (Rl w _ (k + 1) o2 bR rv l (upK pR 0 Rk.nx) gr gd vd ga kb vB2 vI2 V2 I2 LB2 LI2) := hideH ⟨r4, b4q, lv2, li2⟩
            clear r3 b3q r4 b4q HR2 HB2 HTR kx
            go_wp2_with fail
            go_roundw
            case rel => exact ⟨k + 1, _, upK pR 0 Rk.nx, _, _, _, _, _, _, by omega, by go_num, HF⟩
            case measure => simp [intOf]; omega
    · as_aux_lemma =>
        have w0 : Wb.cell? ⟨Wa.heap.size, 0, none⟩ = some (.int .i64 kd) := by rw [cell_of_row _ _ 0 _ _ _ hrow]; rfl
        have w1 : Wb.cell? ⟨Wa.heap.size, 1, none⟩ = some (.bool true) := by rw [cell_of_row _ _ 1 _ _ _ hrow]; rfl
        have w2 : Wb.cell? ⟨Wa.heap.size, 2, none⟩ = some (.int .i64 nn) := by rw [cell_of_row _ _ 2 _ _ _ hrow]; rfl
        have w3 : Wb.cell? ⟨Wa.heap.size, 3, none⟩ = some (.int .u64 (U : Int)) := by rw [cell_of_row _ _ 3 _ _ _ hrow]; rfl
        have w4 : Wb.cell? ⟨Wa.heap.size, 4, none⟩ = some (.int .i64 ii) := by rw [cell_of_row _ _ 4 _ _ _ hrow]; rfl
        have w5 : Wb.cell? ⟨Wa.heap.size, 5, none⟩ = some (.slice ba2 n5 bc2) := by rw [cell_of_row _ _ 5 _ _ _ hrow]; rfl
        have w6 : Wb.cell? ⟨Wa.heap.size, 6, none⟩ = some (.string s) := by rw [cell_of_row _ _ 6 _ _ _ hrow]; rfl
        have w7 : Wb.cell? ⟨Wa.heap.size, 7, none⟩ = some (.slice la n7 lc) := by rw [cell_of_row _ _ 7 _ _ _ hrow]; rfl
        obtain ⟨⟨r0, r1⟩, ⟨e0, e1⟩, ⟨a0, a1⟩, -, -⟩ := HWb.out.r0.cells
        obtain ⟨bD, cD, eD, -⟩ := HVD.out 1 (by decide)
        obtain ⟨n, hn⟩ : ∃ n, n = (l 1).length := ⟨_, rfl⟩
        rw [← hn] at eD
        rw [eD] at e1
        have hnb : n ≤ 1048576 := by rw [hn]; exact HLS.out 1 (by decide)
        have hrd := HWb.out.r0.rd 1 (by decide)
        obtain ⟨pz, hpz⟩ : ∃ p, p = pR 1 := ⟨_, rfl⟩
        have hple : pz ≤ n := by rw [hn, hpz]; exact hrd.le
        rw [← hpz] at hrd a1
        have HRD := hideH hrd
        have HN2 := hideH hn
        have HPZ := hideH hpz
        have HED := hideH eD
        have HRC := hideH r1
        have HEC := hideH e1
        have HAC := hideH a1
        have HROW := hideH hrow
        have gr1 := r1
        clear hrd hn hpz eD r0 r1 e0 e1 a0 a1 kab hrow
        rw [hWb] at w0 w1 w2 w3 w4 w5 w6 w7 gr1
        by_cases q11 : kd = 11
        · subst q11

          have C : Hid (∀ W, Kept (fun _ => False) Wb W → Calls Tryd.prog 20 #[.pointer (some ⟨bR 1, 0, none⟩)] W fun e w' => e = .returned (.int .i64 (pz : Int)) ∧ w' = W) := hideH (fun W k => at_any (bR 1) (rv 1) (l 1) pz W (HRD.out.kept k (fun f => f) (fun _ _ f => f)))
          go_wp2_with fail
          rw [← hWb]
          clear w0 w1 w2 w3 w4 w5 w6 w7 gr1 hWb

          have hS : Kept (fun _ => False) Wb Wb.drew := Kept.drew Wb

          refine wp_region_held (S := fun W' => Kept (fun _ => False) Wb W') (by kernel_rfl) ?_
          change wpAnyH _ _ _ _ _ _ _ _ (World.drew _)
          refine takeYH (i := 0) (d := 137) (v := .pointer (some ⟨bR 1, 0, none⟩)) rfl rfl (by kernel_rfl) (by kernel_rfl) (by kernel_rfl) (fun _ _ _ h => h) (Or.inl ⟨by rfl, fun W hW => ?_⟩) hS ?_
          · (go_simp)
          simp only [Act.put, List.setIfInBounds_toArray, List.set_cons_zero, List.set_cons_succ]
          refine takeYH (i := 1) (d := 138) (v := .pointer (some ⟨bR 1, 0, none⟩)) rfl rfl (by kernel_rfl) (by kernel_rfl) (by kernel_rfl) (fun _ _ _ h => h) (Or.inl ⟨by rfl, fun W hW => ?_⟩) hS ?_
          · (go_simp)
          simp only [Act.put, List.setIfInBounds_toArray, List.set_cons_zero, List.set_cons_succ]
          refine takeYH (i := 2) (d := 139) (v := .pointer (some ⟨bR 1, 0, none⟩)) rfl rfl (by kernel_rfl) (by kernel_rfl) (by kernel_rfl) (fun _ _ _ h => h) (Or.inl ⟨by rfl, fun W hW => ?_⟩) hS ?_
          · (go_simp)
          simp only [Act.put, List.setIfInBounds_toArray, List.set_cons_zero, List.set_cons_succ]
          refine takeYH (i := 4) (d := 141) (v := .slice (some ⟨ga, 0, none⟩) 2 2) rfl rfl (by kernel_rfl) (by kernel_rfl) (by kernel_rfl) (fun _ _ _ h => h) (Or.inl ⟨by rfl, fun W hW => ?_⟩) hS ?_
          · (go_simp)
          simp only [Act.put, List.setIfInBounds_toArray, List.set_cons_zero, List.set_cons_succ]
          refine takeYH (i := 5) (d := 142) (v := .int .i64 1) rfl rfl (by kernel_rfl) (by kernel_rfl) (by kernel_rfl) (fun _ _ _ h => h) (Or.inl ⟨by rfl, fun W hW => ?_⟩) hS ?_
          · (go_simp)
          simp only [Act.put, List.setIfInBounds_toArray, List.set_cons_zero, List.set_cons_succ]
          refine takeYH (i := 6) (d := 143) (v := .pointer (some ⟨ga, 1, none⟩)) rfl rfl (by kernel_rfl) (by kernel_rfl) (by kernel_rfl) (fun _ _ _ h => h) (Or.inl ⟨by rfl, fun W hW => ?_⟩) hS ?_
          · (go_simp)
          simp only [Act.put, List.setIfInBounds_toArray, List.set_cons_zero, List.set_cons_succ]
          refine takeYH (i := 7) (d := 144) (v := .int .i64 (pz : Int)) rfl rfl (by kernel_rfl) (by kernel_rfl) (by kernel_rfl) (fun _ _ _ h => h) (Or.inl ⟨by rfl, fun W hW => ?_⟩) hS ?_
          · have x0 := Kept.cell (F := fun _ => False) (w := Wb) (w' := W) hW HAC.out (fun f => f)
            (go_simp)
          simp only [Act.put, List.setIfInBounds_toArray, List.set_cons_zero, List.set_cons_succ]

          refine wpAnyH_all (rs := [3]) (by kernel_rfl) (by simp) ?_
          intro i' hi'
          obtain rfl : i' = 3 := by simpa using hi'
          unfold wpOp
          go_simp
          first | refine (C.out Wb.drew hS).mono ?_ | refine Or.inl ((C.out Wb.drew hS).mono ?_)

          rintro e Wy ⟨rfl, rfl⟩
          first | refine ⟨hS, ?_⟩ | skip
          refine takeYH (i := 8) (d := 145) (v := .bool false) rfl rfl (by kernel_rfl) (by kernel_rfl) (by kernel_rfl) (fun _ _ _ h => h) (Or.inl ⟨by rfl, fun W hW => ?_⟩) hS ?_
          · (go_simp)
          simp only [Act.put, List.setIfInBounds_toArray, List.set_cons_zero, List.set_cons_succ]
          refine wpAnyH_done (by kernel_rfl) ?_ _

          have HF := hideH ((HWb.out.later hS).next)
          clear HWb HRC HEC HAC HROW HRD
          go_wp2_with fail
          go_roundw
          case rel => exact ⟨k + 1, _, _, _, _, _, _, _, _, by omega, by go_num, HF⟩
          case measure => simp [intOf]; omega
        by_cases q12 : kd = 12
        · subst q12

          obtain ⟨d, hd⟩ : ∃ d, d = n - pz := ⟨_, rfl⟩
          have HDD := hideH hd
          have C : Hid (∀ W, Kept (fun _ => False) Wb W → Calls Tryd.prog 19 #[.pointer (some ⟨bR 1, 0, none⟩)] W fun e w' => e = .returned (.int .i64 (d : Int)) ∧ ∃ n, w' = W.drewN n) := hideH (fun W k => by rw [hd, HN2.out]; exact left_any (bR 1) (rv 1) (l 1) pz W (HRD.out.kept k (fun f => f) (fun _ _ f => f)))
          clear hd
          go_wp2_with fail
          rw [← hWb]
          clear w0 w1 w2 w3 w4 w5 w6 w7 gr1 hWb

          have hdi : (n : Int) - (pz : Int) = (d : Int) := by have := HDD.out; omega
          have hdw : IntKind.i64.wrap (d : Int) = (d : Int) := by rw [IntKind.wrap_i64]; have := HDD.out; omega
          have hS : Kept (fun _ => False) Wb Wb.drew := Kept.drew Wb

          refine wp_region_held (S := fun W' => Kept (fun _ => False) Wb W') (by kernel_rfl) ?_
          change wpAnyH _ _ _ _ _ _ _ _ (World.drew _)
          refine takeYH (i := 0) (d := 148) (v := .pointer (some ⟨bR 1, 0, none⟩)) rfl rfl (by kernel_rfl) (by kernel_rfl) (by kernel_rfl) (fun _ _ _ h => h) (Or.inl ⟨by rfl, fun W hW => ?_⟩) hS ?_
          · (go_simp)
          simp only [Act.put, List.setIfInBounds_toArray, List.set_cons_zero, List.set_cons_succ]
          refine takeYH (i := 1) (d := 149) (v := .pointer (some ⟨bR 1, 0, none⟩)) rfl rfl (by kernel_rfl) (by kernel_rfl) (by kernel_rfl) (fun _ _ _ h => h) (Or.inl ⟨by rfl, fun W hW => ?_⟩) hS ?_
          · (go_simp)
          simp only [Act.put, List.setIfInBounds_toArray, List.set_cons_zero, List.set_cons_succ]
          refine takeYH (i := 2) (d := 150) (v := .pointer (some ⟨bR 1, 0, none⟩)) rfl rfl (by kernel_rfl) (by kernel_rfl) (by kernel_rfl) (fun _ _ _ h => h) (Or.inl ⟨by rfl, fun W hW => ?_⟩) hS ?_
          · (go_simp)
          simp only [Act.put, List.setIfInBounds_toArray, List.set_cons_zero, List.set_cons_succ]
          refine takeYH (i := 4) (d := 152) (v := .slice (some ⟨gd, 0, none⟩) 2 2) rfl rfl (by kernel_rfl) (by kernel_rfl) (by kernel_rfl) (fun _ _ _ h => h) (Or.inl ⟨by rfl, fun W hW => ?_⟩) hS ?_
          · (go_simp)
          simp only [Act.put, List.setIfInBounds_toArray, List.set_cons_zero, List.set_cons_succ]
          refine takeYH (i := 5) (d := 153) (v := .int .i64 1) rfl rfl (by kernel_rfl) (by kernel_rfl) (by kernel_rfl) (fun _ _ _ h => h) (Or.inl ⟨by rfl, fun W hW => ?_⟩) hS ?_
          · (go_simp)
          simp only [Act.put, List.setIfInBounds_toArray, List.set_cons_zero, List.set_cons_succ]
          refine takeYH (i := 6) (d := 154) (v := .pointer (some ⟨gd, 1, none⟩)) rfl rfl (by kernel_rfl) (by kernel_rfl) (by kernel_rfl) (fun _ _ _ h => h) (Or.inl ⟨by rfl, fun W hW => ?_⟩) hS ?_
          · (go_simp)
          simp only [Act.put, List.setIfInBounds_toArray, List.set_cons_zero, List.set_cons_succ]
          refine takeYH (i := 7) (d := 155) (v := .slice (some ⟨bD, 0, none⟩) n cD) rfl rfl (by kernel_rfl) (by kernel_rfl) (by kernel_rfl) (fun _ _ _ h => h) (Or.inl ⟨by rfl, fun W hW => ?_⟩) hS ?_
          · have x0 := Kept.cell (F := fun _ => False) (w := Wb) (w' := W) hW HEC.out (fun f => f)
            (go_simp)
          simp only [Act.put, List.setIfInBounds_toArray, List.set_cons_zero, List.set_cons_succ]
          refine takeYH (i := 8) (d := 156) (v := .int .i64 (n : Int)) rfl rfl (by kernel_rfl) (by kernel_rfl) (by kernel_rfl) (fun _ _ _ h => h) (Or.inl ⟨by rfl, fun W hW => ?_⟩) hS ?_
          · (go_simp)
          simp only [Act.put, List.setIfInBounds_toArray, List.set_cons_zero, List.set_cons_succ]
          refine takeYH (i := 9) (d := 157) (v := .slice (some ⟨ga, 0, none⟩) 2 2) rfl rfl (by kernel_rfl) (by kernel_rfl) (by kernel_rfl) (fun _ _ _ h => h) (Or.inl ⟨by rfl, fun W hW => ?_⟩) hS ?_
          · (go_simp)
          simp only [Act.put, List.setIfInBounds_toArray, List.set_cons_zero, List.set_cons_succ]
          refine takeYH (i := 10) (d := 158) (v := .int .i64 1) rfl rfl (by kernel_rfl) (by kernel_rfl) (by kernel_rfl) (fun _ _ _ h => h) (Or.inl ⟨by rfl, fun W hW => ?_⟩) hS ?_
          · (go_simp)
          simp only [Act.put, List.setIfInBounds_toArray, List.set_cons_zero, List.set_cons_succ]
          refine takeYH (i := 11) (d := 159) (v := .pointer (some ⟨ga, 1, none⟩)) rfl rfl (by kernel_rfl) (by kernel_rfl) (by kernel_rfl) (fun _ _ _ h => h) (Or.inl ⟨by rfl, fun W hW => ?_⟩) hS ?_
          · (go_simp)
          simp only [Act.put, List.setIfInBounds_toArray, List.set_cons_zero, List.set_cons_succ]
          refine takeYH (i := 12) (d := 160) (v := .int .i64 (pz : Int)) rfl rfl (by kernel_rfl) (by kernel_rfl) (by kernel_rfl) (fun _ _ _ h => h) (Or.inl ⟨by rfl, fun W hW => ?_⟩) hS ?_
          · have x0 := Kept.cell (F := fun _ => False) (w := Wb) (w' := W) hW HAC.out (fun f => f)
            (go_simp)
          simp only [Act.put, List.setIfInBounds_toArray, List.set_cons_zero, List.set_cons_succ]
          refine takeYH (i := 13) (d := 161) (v := .int .i64 (d : Int)) rfl rfl (by kernel_rfl) (by kernel_rfl) (by kernel_rfl) (fun _ _ _ h => h) (Or.inl ⟨by rfl, fun W hW => ?_⟩) hS ?_
          · (go_simp)
          simp only [Act.put, List.setIfInBounds_toArray, List.set_cons_zero, List.set_cons_succ]

          refine wpAnyH_all (rs := [3]) (by kernel_rfl) (by simp) ?_
          intro i' hi'
          obtain rfl : i' = 3 := by simpa using hi'
          unfold wpOp
          go_simp
          first | refine (C.out Wb.drew hS).mono ?_ | refine Or.inl ((C.out Wb.drew hS).mono ?_)

          rintro e Wy ⟨rfl, n9, rfl⟩
          have hS2 : Kept (fun _ => False) Wb (Wb.drew.drewN n9) := hS.trans (Kept.drewN _ _) (fun _ f => f.elim)
          first | refine ⟨hS2, ?_⟩ | skip
          refine takeYH (i := 14) (d := 162) (v := .bool false) rfl rfl (by kernel_rfl) (by kernel_rfl) (by kernel_rfl) (fun _ _ _ h => h) (Or.inl ⟨by rfl, fun W hW => ?_⟩) hS2 ?_
          · (go_simp)
          simp only [Act.put, List.setIfInBounds_toArray, List.set_cons_zero, List.set_cons_succ]
          refine wpAnyH_done (by kernel_rfl) ?_ _
          clear hdi hdw
          obtain ⟨Wz, hWz⟩ : ∃ W, W = Wb.drew.drewN n9 := ⟨_, rfl⟩
          rw [← hWz] at hS2 ⊢
          clear hWz hS

          have HF := hideH ((HWb.out.later hS2).next)
          clear HWb HRC HEC HAC HROW HRD
          go_wp2_with fail
          go_roundw
          case rel => exact ⟨k + 1, _, _, _, _, _, _, _, _, by omega, by go_num, HF⟩
          case measure => simp [intOf]; omega
        by_cases q13 : kd = 13
        · subst q13
          by_cases hpl : pz < n
          · have i3 : (pz : Int) < (n : Int) := by omega
            have CD := hideH (done_tailK (bR 1) (rv 1) (l 1) pz (ad 4) Wb HRD.out (by rw [← HN2.out]; exact hpl) (HE.out.kept HWb.out.r0.kp).s4.var)
            have CN : Hid (∀ W, Kept (fun _ => False) Wb W → Calls Tryd.prog 22 #[errV (ad 4)] W fun e w' => e = .returned (.int .i64 5) ∧ w' = W) := hideH (fun W k => num_tailK (HE.out.kept (HWb.out.r0.kp.trans k (fun _ f => f.elim))))
            unfold errV at CD CN
            go_wp2_with (go_at_call 21; refine StpH.go ?_)
            rw [← hWb]
            refine ⟨?_⟩
            refine CD.out.mono ?_
            clear CD
            clear w0 w1 w2 w3 w4 w5 w6 w7 gr1 hWb
            rintro e Wc ⟨rfl, n4, rfl⟩
            have kbc : Kept (fun _ => False) Wb (Wb.drewN n4) := Kept.drewN _ _
            obtain ⟨Wc, hWc⟩ : ∃ W, W = Wb.drewN n4 := ⟨_, rfl⟩
            rw [← hWc] at kbc ⊢
            clear hWc
            have ec := kbc.cell HEC.out (fun f => f)
            have ac := kbc.cell HAC.out (fun f => f)
            go_wp2_with fail
            have hS : Kept (fun _ => False) Wc Wc.drew := Kept.drew Wc

            refine wp_region_held (S := fun W' => Kept (fun _ => False) Wc W') (by kernel_rfl) ?_
            change wpAnyH _ _ _ _ _ _ _ _ (World.drew _)
            refine takeYH (i := 0) (d := 169) (v := .iface 139 (.pointer (some (ad 4)))) rfl rfl (by kernel_rfl) (by kernel_rfl) (by kernel_rfl) (fun _ _ _ h => h) (Or.inl ⟨by rfl, fun W hW => ?_⟩) hS ?_
            · (go_simp)
            simp only [Act.put, List.setIfInBounds_toArray, List.set_cons_zero, List.set_cons_succ]
            refine takeYH (i := 3) (d := 172) (v := .slice (some ⟨ga, 0, none⟩) 2 2) rfl rfl (by kernel_rfl) (by kernel_rfl) (by kernel_rfl) (fun _ _ _ h => h) (Or.inl ⟨by rfl, fun W hW => ?_⟩) hS ?_
            · (go_simp)
            simp only [Act.put, List.setIfInBounds_toArray, List.set_cons_zero, List.set_cons_succ]
            refine takeYH (i := 4) (d := 173) (v := .int .i64 1) rfl rfl (by kernel_rfl) (by kernel_rfl) (by kernel_rfl) (fun _ _ _ h => h) (Or.inl ⟨by rfl, fun W hW => ?_⟩) hS ?_
            · (go_simp)
            simp only [Act.put, List.setIfInBounds_toArray, List.set_cons_zero, List.set_cons_succ]
            refine takeYH (i := 5) (d := 174) (v := .pointer (some ⟨ga, 1, none⟩)) rfl rfl (by kernel_rfl) (by kernel_rfl) (by kernel_rfl) (fun _ _ _ h => h) (Or.inl ⟨by rfl, fun W hW => ?_⟩) hS ?_
            · (go_simp)
            simp only [Act.put, List.setIfInBounds_toArray, List.set_cons_zero, List.set_cons_succ]
            refine takeYH (i := 6) (d := 175) (v := .int .i64 (pz : Int)) rfl rfl (by kernel_rfl) (by kernel_rfl) (by kernel_rfl) (fun _ _ _ h => h) (Or.inl ⟨by rfl, fun W hW => ?_⟩) hS ?_
            · have x0 := Kept.cell (F := fun _ => False) (w := Wc) (w' := W) hW ac (fun f => f)
              (go_simp)
            simp only [Act.put, List.setIfInBounds_toArray, List.set_cons_zero, List.set_cons_succ]
            refine takeYH (i := 7) (d := 176) (v := .slice (some ⟨gd, 0, none⟩) 2 2) rfl rfl (by kernel_rfl) (by kernel_rfl) (by kernel_rfl) (fun _ _ _ h => h) (Or.inl ⟨by rfl, fun W hW => ?_⟩) hS ?_
            · (go_simp)
            simp only [Act.put, List.setIfInBounds_toArray, List.set_cons_zero, List.set_cons_succ]
            refine takeYH (i := 8) (d := 177) (v := .int .i64 1) rfl rfl (by kernel_rfl) (by kernel_rfl) (by kernel_rfl) (fun _ _ _ h => h) (Or.inl ⟨by rfl, fun W hW => ?_⟩) hS ?_
            · (go_simp)
            simp only [Act.put, List.setIfInBounds_toArray, List.set_cons_zero, List.set_cons_succ]
            refine takeYH (i := 9) (d := 178) (v := .pointer (some ⟨gd, 1, none⟩)) rfl rfl (by kernel_rfl) (by kernel_rfl) (by kernel_rfl) (fun _ _ _ h => h) (Or.inl ⟨by rfl, fun W hW => ?_⟩) hS ?_
            · (go_simp)
            simp only [Act.put, List.setIfInBounds_toArray, List.set_cons_zero, List.set_cons_succ]
            refine takeYH (i := 10) (d := 179) (v := .slice (some ⟨bD, 0, none⟩) n cD) rfl rfl (by kernel_rfl) (by kernel_rfl) (by kernel_rfl) (fun _ _ _ h => h) (Or.inl ⟨by rfl, fun W hW => ?_⟩) hS ?_
            · have x0 := Kept.cell (F := fun _ => False) (w := Wc) (w' := W) hW ec (fun f => f)
              (go_simp)
            simp only [Act.put, List.setIfInBounds_toArray, List.set_cons_zero, List.set_cons_succ]
            refine takeYH (i := 11) (d := 180) (v := .int .i64 (n : Int)) rfl rfl (by kernel_rfl) (by kernel_rfl) (by kernel_rfl) (fun _ _ _ h => h) (Or.inl ⟨by rfl, fun W hW => ?_⟩) hS ?_
            · (go_simp)
            simp only [Act.put, List.setIfInBounds_toArray, List.set_cons_zero, List.set_cons_succ]
            refine takeYH (i := 12) (d := 181) (v := .bool true) rfl rfl (by kernel_rfl) (by kernel_rfl) (by kernel_rfl) (fun _ _ _ h => h) (Or.inl ⟨by rfl, fun W hW => ?_⟩) hS ?_
            · (go_simp)
            simp only [Act.put, List.setIfInBounds_toArray, List.set_cons_zero, List.set_cons_succ]

            refine wpAnyH_all (rs := [1]) (by kernel_rfl) (by simp) ?_
            intro i' hi'
            obtain rfl : i' = 1 := by simpa using hi'
            unfold wpOp
            go_simp
            first | refine (CN.out Wc.drew (kbc.trans hS (fun _ f => f.elim))).mono ?_ | refine Or.inl ((CN.out Wc.drew (kbc.trans hS (fun _ f => f.elim))).mono ?_)

            rintro e Wy ⟨rfl, rfl⟩
            first | refine ⟨hS, ?_⟩ | skip
            refine takeYH (i := 2) (d := 171) (v := .bool true) rfl rfl (by kernel_rfl) (by kernel_rfl) (by kernel_rfl) (fun _ _ _ h => h) (Or.inl ⟨by rfl, fun W hW => ?_⟩) hS ?_
            · (go_simp)
            simp only [Act.put, List.setIfInBounds_toArray, List.set_cons_zero, List.set_cons_succ]
            refine takeYH (i := 13) (d := 182) (v := .bool false) rfl rfl (by kernel_rfl) (by kernel_rfl) (by kernel_rfl) (fun _ _ _ h => h) (Or.inl ⟨by rfl, fun W hW => ?_⟩) hS ?_
            · (go_simp)
            simp only [Act.put, List.setIfInBounds_toArray, List.set_cons_zero, List.set_cons_succ]
            refine takeYH (i := 14) (d := 183) (v := .bool false) rfl rfl (by kernel_rfl) (by kernel_rfl) (by kernel_rfl) (fun _ _ _ h => h) (Or.inl ⟨by rfl, fun W hW => ?_⟩) hS ?_
            · (go_simp)
            simp only [Act.put, List.setIfInBounds_toArray, List.set_cons_zero, List.set_cons_succ]
            refine takeYH (i := 15) (d := 184) (v := .iface 139 (.pointer (some (ad 4)))) rfl rfl (by kernel_rfl) (by kernel_rfl) (by kernel_rfl) (fun _ _ _ h => h) (Or.inl ⟨by rfl, fun W hW => ?_⟩) hS ?_
            · (go_simp)
            simp only [Act.put, List.setIfInBounds_toArray, List.set_cons_zero, List.set_cons_succ]
            refine takeYH (i := 16) (d := 185) (v := .bool true) rfl rfl (by kernel_rfl) (by kernel_rfl) (by kernel_rfl) (fun _ _ _ h => h) (Or.inl ⟨by rfl, fun W hW => ?_⟩) hS ?_
            · (go_simp)
            simp only [Act.put, List.setIfInBounds_toArray, List.set_cons_zero, List.set_cons_succ]
            refine takeYH (i := 17) (d := 186) (v := .bool true) rfl rfl (by kernel_rfl) (by kernel_rfl) (by kernel_rfl) (fun _ _ _ h => h) (Or.inl ⟨by rfl, fun W hW => ?_⟩) hS ?_
            · (go_simp)
            simp only [Act.put, List.setIfInBounds_toArray, List.set_cons_zero, List.set_cons_succ]
            refine takeYH (i := 18) (d := 187) (v := .iface 139 (.pointer (some (ad 4)))) rfl rfl (by kernel_rfl) (by kernel_rfl) (by kernel_rfl) (fun _ _ _ h => h) (Or.inl ⟨by rfl, fun W hW => ?_⟩) hS ?_
            · (go_simp)
            simp only [Act.put, List.setIfInBounds_toArray, List.set_cons_zero, List.set_cons_succ]

            refine wpAnyH_all (rs := [19]) (by kernel_rfl) (by simp) ?_
            intro i' hi'
            obtain rfl : i' = 19 := by simpa using hi'
            unfold wpOp
            go_simp
            first | refine (CN.out Wc.drew (kbc.trans hS (fun _ f => f.elim))).mono ?_ | refine Or.inl ((CN.out Wc.drew (kbc.trans hS (fun _ f => f.elim))).mono ?_)

            rintro e Wy ⟨rfl, rfl⟩
            first | refine ⟨hS, ?_⟩ | skip
            refine takeYH (i := 20) (d := 189) (v := .bool false) rfl rfl (by kernel_rfl) (by kernel_rfl) (by kernel_rfl) (fun _ _ _ h => h) (Or.inl ⟨by rfl, fun W hW => ?_⟩) hS ?_
            · (go_simp)
            simp only [Act.put, List.setIfInBounds_toArray, List.set_cons_zero, List.set_cons_succ]
            refine takeYH (i := 21) (d := 190) (v := .bool false) rfl rfl (by kernel_rfl) (by kernel_rfl) (by kernel_rfl) (fun _ _ _ h => h) (Or.inl ⟨by rfl, fun W hW => ?_⟩) hS ?_
            · (go_simp)
            simp only [Act.put, List.setIfInBounds_toArray, List.set_cons_zero, List.set_cons_succ]
            refine takeYH (i := 22) (d := 191) (v := .bool false) rfl rfl (by kernel_rfl) (by kernel_rfl) (by kernel_rfl) (fun _ _ _ h => h) (Or.inl ⟨by rfl, fun W hW => ?_⟩) hS ?_
            · (go_simp)
            simp only [Act.put, List.setIfInBounds_toArray, List.set_cons_zero, List.set_cons_succ]
            refine wpAnyH_done (by kernel_rfl) ?_ _
            have kbd := kbc.trans hS (fun _ f => f.elim)
            clear ec ac

            have HF := hideH ((HWb.out.later kbd).next)
            clear HWb HRC HEC HAC HROW HRD
            go_wp2_with fail
            go_roundw
            case rel => exact ⟨k + 1, _, _, _, _, _, _, _, _, by omega, by go_num, HF⟩
            case measure => simp [intOf]; omega
          · have hpe : pz = (l 1).length := by rw [← HN2.out]; omega
            have i3 : ¬ (pz : Int) < (n : Int) := by omega
            have CD := hideH (done_anyK (bR 1) (rv 1) (l 1) Wb (by rw [← hpe]; exact HRD.out))
            clear hpe
            have CN : Hid (∀ W, Kept (fun _ => False) Wb W → Calls Tryd.prog 22 #[.nilIface] W fun e w' => e = .returned (.int .i64 0) ∧ w' = W) := hideH (fun W k => num_nilK W)
            go_wp2_with (go_at_call 21; refine StpH.go ?_)
            rw [← hWb]
            refine ⟨?_⟩
            refine CD.out.mono ?_
            clear CD
            clear w0 w1 w2 w3 w4 w5 w6 w7 gr1 hWb
            rintro e Wc ⟨rfl, n4, rfl⟩
            have kbc : Kept (fun _ => False) Wb (Wb.drewN n4) := Kept.drewN _ _
            obtain ⟨Wc, hWc⟩ : ∃ W, W = Wb.drewN n4 := ⟨_, rfl⟩
            rw [← hWc] at kbc ⊢
            clear hWc
            have ec := kbc.cell HEC.out (fun f => f)
            have ac := kbc.cell HAC.out (fun f => f)
            go_wp2_with fail
            have hS : Kept (fun _ => False) Wc Wc.drew := Kept.drew Wc

            refine wp_region_held (S := fun W' => Kept (fun _ => False) Wc W') (by kernel_rfl) ?_
            change wpAnyH _ _ _ _ _ _ _ _ (World.drew _)
            refine takeYH (i := 0) (d := 169) (v := .nilIface) rfl rfl (by kernel_rfl) (by kernel_rfl) (by kernel_rfl) (fun _ _ _ h => h) (Or.inl ⟨by rfl, fun W hW => ?_⟩) hS ?_
            · (go_simp)
            simp only [Act.put, List.setIfInBounds_toArray, List.set_cons_zero, List.set_cons_succ]
            refine takeYH (i := 3) (d := 172) (v := .slice (some ⟨ga, 0, none⟩) 2 2) rfl rfl (by kernel_rfl) (by kernel_rfl) (by kernel_rfl) (fun _ _ _ h => h) (Or.inl ⟨by rfl, fun W hW => ?_⟩) hS ?_
            · (go_simp)
            simp only [Act.put, List.setIfInBounds_toArray, List.set_cons_zero, List.set_cons_succ]
            refine takeYH (i := 4) (d := 173) (v := .int .i64 1) rfl rfl (by kernel_rfl) (by kernel_rfl) (by kernel_rfl) (fun _ _ _ h => h) (Or.inl ⟨by rfl, fun W hW => ?_⟩) hS ?_
            · (go_simp)
            simp only [Act.put, List.setIfInBounds_toArray, List.set_cons_zero, List.set_cons_succ]
            refine takeYH (i := 5) (d := 174) (v := .pointer (some ⟨ga, 1, none⟩)) rfl rfl (by kernel_rfl) (by kernel_rfl) (by kernel_rfl) (fun _ _ _ h => h) (Or.inl ⟨by rfl, fun W hW => ?_⟩) hS ?_
            · (go_simp)
            simp only [Act.put, List.setIfInBounds_toArray, List.set_cons_zero, List.set_cons_succ]
            refine takeYH (i := 6) (d := 175) (v := .int .i64 (pz : Int)) rfl rfl (by kernel_rfl) (by kernel_rfl) (by kernel_rfl) (fun _ _ _ h => h) (Or.inl ⟨by rfl, fun W hW => ?_⟩) hS ?_
            · have x0 := Kept.cell (F := fun _ => False) (w := Wc) (w' := W) hW ac (fun f => f)
              (go_simp)
            simp only [Act.put, List.setIfInBounds_toArray, List.set_cons_zero, List.set_cons_succ]
            refine takeYH (i := 7) (d := 176) (v := .slice (some ⟨gd, 0, none⟩) 2 2) rfl rfl (by kernel_rfl) (by kernel_rfl) (by kernel_rfl) (fun _ _ _ h => h) (Or.inl ⟨by rfl, fun W hW => ?_⟩) hS ?_
            · (go_simp)
            simp only [Act.put, List.setIfInBounds_toArray, List.set_cons_zero, List.set_cons_succ]
            refine takeYH (i := 8) (d := 177) (v := .int .i64 1) rfl rfl (by kernel_rfl) (by kernel_rfl) (by kernel_rfl) (fun _ _ _ h => h) (Or.inl ⟨by rfl, fun W hW => ?_⟩) hS ?_
            · (go_simp)
            simp only [Act.put, List.setIfInBounds_toArray, List.set_cons_zero, List.set_cons_succ]
            refine takeYH (i := 9) (d := 178) (v := .pointer (some ⟨gd, 1, none⟩)) rfl rfl (by kernel_rfl) (by kernel_rfl) (by kernel_rfl) (fun _ _ _ h => h) (Or.inl ⟨by rfl, fun W hW => ?_⟩) hS ?_
            · (go_simp)
            simp only [Act.put, List.setIfInBounds_toArray, List.set_cons_zero, List.set_cons_succ]
            refine takeYH (i := 10) (d := 179) (v := .slice (some ⟨bD, 0, none⟩) n cD) rfl rfl (by kernel_rfl) (by kernel_rfl) (by kernel_rfl) (fun _ _ _ h => h) (Or.inl ⟨by rfl, fun W hW => ?_⟩) hS ?_
            · have x0 := Kept.cell (F := fun _ => False) (w := Wc) (w' := W) hW ec (fun f => f)
              (go_simp)
            simp only [Act.put, List.setIfInBounds_toArray, List.set_cons_zero, List.set_cons_succ]
            refine takeYH (i := 11) (d := 180) (v := .int .i64 (n : Int)) rfl rfl (by kernel_rfl) (by kernel_rfl) (by kernel_rfl) (fun _ _ _ h => h) (Or.inl ⟨by rfl, fun W hW => ?_⟩) hS ?_
            · (go_simp)
            simp only [Act.put, List.setIfInBounds_toArray, List.set_cons_zero, List.set_cons_succ]
            refine takeYH (i := 12) (d := 181) (v := .bool false) rfl rfl (by kernel_rfl) (by kernel_rfl) (by kernel_rfl) (fun _ _ _ h => h) (Or.inl ⟨by rfl, fun W hW => ?_⟩) hS ?_
            · (go_simp)
            simp only [Act.put, List.setIfInBounds_toArray, List.set_cons_zero, List.set_cons_succ]

            refine wpAnyH_all (rs := [1]) (by kernel_rfl) (by simp) ?_
            intro i' hi'
            obtain rfl : i' = 1 := by simpa using hi'
            unfold wpOp
            go_simp
            first | refine (CN.out Wc.drew (kbc.trans hS (fun _ f => f.elim))).mono ?_ | refine Or.inl ((CN.out Wc.drew (kbc.trans hS (fun _ f => f.elim))).mono ?_)

            rintro e Wy ⟨rfl, rfl⟩
            first | refine ⟨hS, ?_⟩ | skip
            refine takeYH (i := 2) (d := 171) (v := .bool false) rfl rfl (by kernel_rfl) (by kernel_rfl) (by kernel_rfl) (fun _ _ _ h => h) (Or.inl ⟨by rfl, fun W hW => ?_⟩) hS ?_
            · (go_simp)
            simp only [Act.put, List.setIfInBounds_toArray, List.set_cons_zero, List.set_cons_succ]
            refine takeYH (i := 13) (d := 182) (v := .bool false) rfl rfl (by kernel_rfl) (by kernel_rfl) (by kernel_rfl) (fun _ _ _ h => h) (Or.inl ⟨by rfl, fun W hW => ?_⟩) hS ?_
            · (go_simp)
            simp only [Act.put, List.setIfInBounds_toArray, List.set_cons_zero, List.set_cons_succ]
            refine takeYH (i := 14) (d := 183) (v := .bool false) rfl rfl (by kernel_rfl) (by kernel_rfl) (by kernel_rfl) (fun _ _ _ h => h) (Or.inl ⟨by rfl, fun W hW => ?_⟩) hS ?_
            · (go_simp)
            simp only [Act.put, List.setIfInBounds_toArray, List.set_cons_zero, List.set_cons_succ]
            refine takeYH (i := 15) (d := 184) (v := .nilIface) rfl rfl (by kernel_rfl) (by kernel_rfl) (by kernel_rfl) (fun _ _ _ h => h) (Or.inl ⟨by rfl, fun W hW => ?_⟩) hS ?_
            · (go_simp)
            simp only [Act.put, List.setIfInBounds_toArray, List.set_cons_zero, List.set_cons_succ]
            refine takeYH (i := 16) (d := 185) (v := .bool false) rfl rfl (by kernel_rfl) (by kernel_rfl) (by kernel_rfl) (fun _ _ _ h => h) (Or.inl ⟨by rfl, fun W hW => ?_⟩) hS ?_
            · (go_simp)
            simp only [Act.put, List.setIfInBounds_toArray, List.set_cons_zero, List.set_cons_succ]
            refine takeYH (i := 17) (d := 186) (v := .bool false) rfl rfl (by kernel_rfl) (by kernel_rfl) (by kernel_rfl) (fun _ _ _ h => h) (Or.inl ⟨by rfl, fun W hW => ?_⟩) hS ?_
            · (go_simp)
            simp only [Act.put, List.setIfInBounds_toArray, List.set_cons_zero, List.set_cons_succ]
            refine takeYH (i := 18) (d := 187) (v := undef) rfl rfl (by kernel_rfl) (by kernel_rfl) (by kernel_rfl) (fun _ _ _ h => h) (Or.inr ⟨by rfl, rfl⟩) hS ?_
            simp only [Act.put, List.setIfInBounds_toArray, List.set_cons_zero, List.set_cons_succ]
            refine takeYH (i := 19) (d := 188) (v := undef) rfl rfl (by kernel_rfl) (by kernel_rfl) (by kernel_rfl) (fun _ _ _ h => h) (Or.inr ⟨by rfl, rfl⟩) hS ?_
            simp only [Act.put, List.setIfInBounds_toArray, List.set_cons_zero, List.set_cons_succ]
            refine takeYH (i := 20) (d := 189) (v := undef) rfl rfl (by kernel_rfl) (by kernel_rfl) (by kernel_rfl) (fun _ _ _ h => h) (Or.inr ⟨by rfl, rfl⟩) hS ?_
            simp only [Act.put, List.setIfInBounds_toArray, List.set_cons_zero, List.set_cons_succ]
            refine takeYH (i := 21) (d := 190) (v := .bool false) rfl rfl (by kernel_rfl) (by kernel_rfl) (by kernel_rfl) (fun _ _ _ h => h) (Or.inl ⟨by rfl, fun W hW => ?_⟩) hS ?_
            · (go_simp)
            simp only [Act.put, List.setIfInBounds_toArray, List.set_cons_zero, List.set_cons_succ]
            refine takeYH (i := 22) (d := 191) (v := .bool false) rfl rfl (by kernel_rfl) (by kernel_rfl) (by kernel_rfl) (fun _ _ _ h => h) (Or.inl ⟨by rfl, fun W hW => ?_⟩) hS ?_
            · (go_simp)
            simp only [Act.put, List.setIfInBounds_toArray, List.set_cons_zero, List.set_cons_succ]
            refine wpAnyH_done (by kernel_rfl) ?_ _
            have kbd := kbc.trans hS (fun _ f => f.elim)
            clear ec ac

            have HF := hideH ((HWb.out.later kbd).next)
            clear HWb HRC HEC HAC HROW HRD
            go_wp2_with fail
            go_roundw
            case rel => exact ⟨k + 1, _, _, _, _, _, _, _, _, by omega, by go_num, HF⟩
            case measure => simp [intOf]; omega

        have d11 : (kd == 11) = false := by rw [beq_eq_false_iff_ne]; exact q11
        have d12 : (kd == 12) = false := by rw [beq_eq_false_iff_ne]; exact q12
        have d13 : (kd == 13) = false := by rw [beq_eq_false_iff_ne]; exact q13
        have kdr : Kept (fun _ => False) Wb Wb.drew := Kept.drew Wb
        obtain ⟨Rk, hRk⟩ : ∃ R, R = rlk kd nn (l 1) pz := ⟨_, rfl⟩
        obtain ⟨nl, hnl⟩ : ∃ n, n = Rk.ls.length := ⟨_, rfl⟩
        have hVn := HWb.out.nV
        have hIn := HWb.out.nI
        have CA : Hid (∀ W (o : Nat → Nat), Rl w W k o bR rv l pR gr gd vd ga kb vB vI V I LB LI → Calls Tryd.prog 23 #[.pointer (some ⟨bR 1, 0, none⟩), .agg #[.int .i64 kd, .bool true, .int .i64 nn, .int .u64 (U : Int), .int .i64 ii, .slice ba2 n5 bc2, .string s, .slice la n7 lc], .pointer (some ⟨kb, 0, none⟩)] W fun e w' => ∃ (a : Option Addr) (c : Nat), e = .returned (.agg #[.int .u64 Rk.u, .string (strOfNums Rk.t), .slice a nl c, .int .i64 (Rk.nx : Int), .int .i64 (Rk.e : Int)]) ∧ Hid (∃ o' vB' vI' V' I' LB' LI', IntsAt w' a Rk.ls ∧ (Rk.ls ≠ [] → ∀ b off, a = some ⟨b, off, none⟩ → W.heap.size ≤ b) ∧ (∀ q, q < W.heap.size → o' q = o q) ∧ R0 w w' o' bR rv l (upK pR 1 Rk.nx) gr gd vd ga pR ∧ Bq w' o' kb vB' vI' V' I' LB' LI' ∧ V'.length ≤ k + 1 ∧ I'.length ≤ k + 1 ∧ Kept (fun q => o q = 1 ∨ o q = 7) W w')) := hideH (fun W o h9 => by
          have hin := rr_in (ad := ad) 1 (by decide) h9.r0 h9.bq HE.out (by omega) (by omega) (HLS.out 1 (by decide))
          rw [← HPZ.out] at hin
          refine (asked_allK true nn (U : Int) ii (.slice ba2 n5 bc2) s (.slice la n7 lc) kd hin hn0 hn1).mono (fun e w' q => ?_)
          rw [← hRk] at q
          obtain ⟨a, c, o', vB', vI', V', I', LB', LI', he, x1, x7, x8, x2, x3, x4, x5, x6⟩ := rr_asked 1 (by decide) h9.r0 h9.bq q
          rw [lkV, ← hnl] at he
          exact ⟨a, c, he, o', vB', vI', V', I', LB', LI', x1, x7, x8, x2, x3, by omega, by omega, x6⟩)
        have CT : Hid (∀ W (o' : Nat → Nat) (pX : Nat → Nat), R0 w W o' bR rv l pX gr gd vd ga pR → Calls Tryd.prog 24 #[.slice (some ⟨bD, 0, none⟩) n cD, .int .i64 (pz : Int), .agg #[.int .i64 kd, .bool true, .int .i64 nn, .int .u64 (U : Int), .int .i64 ii, .slice ba2 n5 bc2, .string s, .slice la n7 lc]] W fun e w' => ∃ (a : Option Addr) (c : Nat), e = .returned (.agg #[.int .u64 Rk.u, .string (strOfNums Rk.t), .slice a nl c, .int .i64 (Rk.nx : Int), .int .i64 (Rk.e : Int)]) ∧ Hid (IntsAt w' a Rk.ls ∧ Kept (fun _ => False) W w' ∧ (Rk.ls ≠ [] → ∀ b off, a = some ⟨b, off, none⟩ → W.heap.size ≤ b))) := hideH (fun W o' pX h9 => by
          have hld := h9.ld 1 (by decide)
          rw [HED.out] at hld
          have hlib : Lib W (.slice (some ⟨bD, 0, none⟩) n cD) (l 1) := Lib.of_own hld
          obtain ⟨a8, c8, e8, hb8⟩ := hlib.bytes
          rw [← HN2.out] at e8
          simp only [Value.slice.injEq] at e8
          obtain ⟨rfl, -, rfl⟩ := e8
          obtain ⟨a9, c9, e9, -, hcap⟩ := hlib.shape
          simp only [Value.slice.injEq] at e9
          refine (told_allK kd true nn (U : Int) ii (.slice ba2 n5 bc2) s (.slice la n7 lc) (l 1) bD 0 n cD pz W HN2.out hb8 (HIS.out 1 (by decide)) (by rw [← HN2.out]; exact hple) (by rw [← HN2.out]; exact hnb) (by rw [← HN2.out] at hcap; omega) hn0 hn1).mono ?_
          rintro e w' ⟨a, c, he, hi, hk9, hnw⟩
          rw [← hRk] at he hi hnw
          rw [lkV, ← hnl] at he
          exact ⟨a, c, he, hi, hk9, hnw⟩)
        have hlen : nl ≤ 33554432 := by
          rw [hnl, hRk]
          exact rlk_lenK kd nn (l 1) pz (HLS.out 1 (by decide))
        have HNL := hideH hnl
        have nF1 : ¬ (o1 gd = 1 ∨ o1 gd = 7) := by have := HWb.out.r0.oh; omega
        have nF2 : ¬ (o1 ga = 1 ∨ o1 ga = 7) := by have := HWb.out.r0.oa; omega
        have nF3 : ¬ (o1 Wa.heap.size = 1 ∨ o1 Wa.heap.size = 7) := by omega
        clear hRk hnl
        go_upto_region 28 with fail
        rw [← hWb]
        clear w0 w1 w2 w3 w4 w5 w6 w7 gr1 hWb

        go_cut [22, 23] (fun s22 s23 wx => ∃ (g22 g23 : Nat), s22 = .pointer (some ⟨g22, 0, none⟩) ∧ s23 = .pointer (some ⟨g23, 0, none⟩) ∧ Hid (AskD w wx k bR rv l (upK pR 1 Rk.nx) pR gr gd vd ga kb Rk nl g22 g23))
        case first =>
          as_aux_lemma =>
            have hS : Kept (fun q => o1 q = 1 ∨ o1 q = 7) Wb Wb.drew := kdr.mono (fun _ f => f.elim)

            refine wp_region_held (S := fun W' => Kept (fun q => o1 q = 1 ∨ o1 q = 7) Wb W') (by kernel_rfl) ?_
            change wpAnyH _ _ _ _ _ _ _ _ (World.drew _)
            refine takeYH (i := 0) (d := 111) (v := .pointer (some ⟨bR 1, 0, none⟩)) rfl rfl (by kernel_rfl) (by kernel_rfl) (by kernel_rfl) (fun _ _ _ h => h) (Or.inl ⟨by rfl, fun W hW => ?_⟩) hS ?_
            · (go_simp)
            simp only [Act.put, List.setIfInBounds_toArray, List.set_cons_zero, List.set_cons_succ]
            refine takeYH (i := 1) (d := 112) (v := .agg #[.int .i64 kd, .bool true, .int .i64 nn, .int .u64 (U : Int), .int .i64 ii, .slice ba2 n5 bc2, .string s, .slice la n7 lc]) rfl rfl (by kernel_rfl) (by kernel_rfl) (by kernel_rfl) (fun _ _ _ h => h) (Or.inl ⟨by rfl, fun W hW => ?_⟩) hS ?_
            · have hro := Kept.heap (F := fun q => o1 q = 1 ∨ o1 q = 7) (w := Wb) (w' := W) hW HROW.out nF3
              have y0 : W.cell? ⟨Wa.heap.size, 0, none⟩ = some (.int .i64 kd) := by rw [cell_of_row _ _ 0 _ _ _ hro]; rfl
              have y1 : W.cell? ⟨Wa.heap.size, 1, none⟩ = some (.bool true) := by rw [cell_of_row _ _ 1 _ _ _ hro]; rfl
              have y2 : W.cell? ⟨Wa.heap.size, 2, none⟩ = some (.int .i64 nn) := by rw [cell_of_row _ _ 2 _ _ _ hro]; rfl
              have y3 : W.cell? ⟨Wa.heap.size, 3, none⟩ = some (.int .u64 (U : Int)) := by rw [cell_of_row _ _ 3 _ _ _ hro]; rfl
              have y4 : W.cell? ⟨Wa.heap.size, 4, none⟩ = some (.int .i64 ii) := by rw [cell_of_row _ _ 4 _ _ _ hro]; rfl
              have y5 : W.cell? ⟨Wa.heap.size, 5, none⟩ = some (.slice ba2 n5 bc2) := by rw [cell_of_row _ _ 5 _ _ _ hro]; rfl
              have y6 : W.cell? ⟨Wa.heap.size, 6, none⟩ = some (.string s) := by rw [cell_of_row _ _ 6 _ _ _ hro]; rfl
              have y7 : W.cell? ⟨Wa.heap.size, 7, none⟩ = some (.slice la n7 lc) := by rw [cell_of_row _ _ 7 _ _ _ hro]; rfl
              (go_simp)
            simp only [Act.put, List.setIfInBounds_toArray, List.set_cons_zero, List.set_cons_succ]
            refine takeYH (i := 2) (d := 113) (v := .pointer (some ⟨kb, 0, none⟩)) rfl rfl (by kernel_rfl) (by kernel_rfl) (by kernel_rfl) (fun _ _ _ h => h) (Or.inl ⟨by rfl, fun W hW => ?_⟩) hS ?_
            · (go_simp)
            simp only [Act.put, List.setIfInBounds_toArray, List.set_cons_zero, List.set_cons_succ]
            refine takeYH (i := 4) (d := 115) (v := .slice (some ⟨gd, 0, none⟩) 2 2) rfl rfl (by kernel_rfl) (by kernel_rfl) (by kernel_rfl) (fun _ _ _ h => h) (Or.inl ⟨by rfl, fun W hW => ?_⟩) hS ?_
            · (go_simp)
            simp only [Act.put, List.setIfInBounds_toArray, List.set_cons_zero, List.set_cons_succ]
            refine takeYH (i := 5) (d := 116) (v := .int .i64 1) rfl rfl (by kernel_rfl) (by kernel_rfl) (by kernel_rfl) (fun _ _ _ h => h) (Or.inl ⟨by rfl, fun W hW => ?_⟩) hS ?_
            · (go_simp)
            simp only [Act.put, List.setIfInBounds_toArray, List.set_cons_zero, List.set_cons_succ]
            refine takeYH (i := 6) (d := 117) (v := .pointer (some ⟨gd, 1, none⟩)) rfl rfl (by kernel_rfl) (by kernel_rfl) (by kernel_rfl) (fun _ _ _ h => h) (Or.inl ⟨by rfl, fun W hW => ?_⟩) hS ?_
            · (go_simp)
            simp only [Act.put, List.setIfInBounds_toArray, List.set_cons_zero, List.set_cons_succ]
            refine takeYH (i := 7) (d := 118) (v := .slice (some ⟨bD, 0, none⟩) n cD) rfl rfl (by kernel_rfl) (by kernel_rfl) (by kernel_rfl) (fun _ _ _ h => h) (Or.inl ⟨by rfl, fun W hW => ?_⟩) hS ?_
            · have x0 := Kept.cell (F := fun q => o1 q = 1 ∨ o1 q = 7) (w := Wb) (w' := W) hW HEC.out nF1
              (go_simp)
            simp only [Act.put, List.setIfInBounds_toArray, List.set_cons_zero, List.set_cons_succ]
            refine takeYH (i := 8) (d := 119) (v := .slice (some ⟨ga, 0, none⟩) 2 2) rfl rfl (by kernel_rfl) (by kernel_rfl) (by kernel_rfl) (fun _ _ _ h => h) (Or.inl ⟨by rfl, fun W hW => ?_⟩) hS ?_
            · (go_simp)
            simp only [Act.put, List.setIfInBounds_toArray, List.set_cons_zero, List.set_cons_succ]
            refine takeYH (i := 9) (d := 120) (v := .int .i64 1) rfl rfl (by kernel_rfl) (by kernel_rfl) (by kernel_rfl) (fun _ _ _ h => h) (Or.inl ⟨by rfl, fun W hW => ?_⟩) hS ?_
            · (go_simp)
            simp only [Act.put, List.setIfInBounds_toArray, List.set_cons_zero, List.set_cons_succ]
            refine takeYH (i := 10) (d := 121) (v := .pointer (some ⟨ga, 1, none⟩)) rfl rfl (by kernel_rfl) (by kernel_rfl) (by kernel_rfl) (fun _ _ _ h => h) (Or.inl ⟨by rfl, fun W hW => ?_⟩) hS ?_
            · (go_simp)
            simp only [Act.put, List.setIfInBounds_toArray, List.set_cons_zero, List.set_cons_succ]
            refine takeYH (i := 11) (d := 122) (v := .int .i64 (pz : Int)) rfl rfl (by kernel_rfl) (by kernel_rfl) (by kernel_rfl) (fun _ _ _ h => h) (Or.inl ⟨by rfl, fun W hW => ?_⟩) hS ?_
            · have x0 := Kept.cell (F := fun q => o1 q = 1 ∨ o1 q = 7) (w := Wb) (w' := W) hW HAC.out nF2
              (go_simp)
            simp only [Act.put, List.setIfInBounds_toArray, List.set_cons_zero, List.set_cons_succ]
            refine takeYH (i := 12) (d := 123) (v := .agg #[.int .i64 kd, .bool true, .int .i64 nn, .int .u64 (U : Int), .int .i64 ii, .slice ba2 n5 bc2, .string s, .slice la n7 lc]) rfl rfl (by kernel_rfl) (by kernel_rfl) (by kernel_rfl) (fun _ _ _ h => h) (Or.inl ⟨by rfl, fun W hW => ?_⟩) hS ?_
            · have hro := Kept.heap (F := fun q => o1 q = 1 ∨ o1 q = 7) (w := Wb) (w' := W) hW HROW.out nF3
              have y0 : W.cell? ⟨Wa.heap.size, 0, none⟩ = some (.int .i64 kd) := by rw [cell_of_row _ _ 0 _ _ _ hro]; rfl
              have y1 : W.cell? ⟨Wa.heap.size, 1, none⟩ = some (.bool true) := by rw [cell_of_row _ _ 1 _ _ _ hro]; rfl
              have y2 : W.cell? ⟨Wa.heap.size, 2, none⟩ = some (.int .i64 nn) := by rw [cell_of_row _ _ 2 _ _ _ hro]; rfl
              have y3 : W.cell? ⟨Wa.heap.size, 3, none⟩ = some (.int .u64 (U : Int)) := by rw [cell_of_row _ _ 3 _ _ _ hro]; rfl
              have y4 : W.cell? ⟨Wa.heap.size, 4, none⟩ = some (.int .i64 ii) := by rw [cell_of_row _ _ 4 _ _ _ hro]; rfl
              have y5 : W.cell? ⟨Wa.heap.size, 5, none⟩ = some (.slice ba2 n5 bc2) := by rw [cell_of_row _ _ 5 _ _ _ hro]; rfl
              have y6 : W.cell? ⟨Wa.heap.size, 6, none⟩ = some (.string s) := by rw [cell_of_row _ _ 6 _ _ _ hro]; rfl
              have y7 : W.cell? ⟨Wa.heap.size, 7, none⟩ = some (.slice la n7 lc) := by rw [cell_of_row _ _ 7 _ _ _ hro]; rfl
              (go_simp)
            simp only [Act.put, List.setIfInBounds_toArray, List.set_cons_zero, List.set_cons_succ]

            have hRL := HWb.out.later kdr
            have key0 : ∀ q, q < Wb.heap.size → o1 q = o1 q := fun _ _ => rfl
            obtain ⟨Wd, hWd⟩ : ∃ W, W = Wb.drew := ⟨_, rfl⟩
            rw [← hWd] at hS hRL ⊢
            clear hWd

            refine wpAnyH_all (rs := [3, 14, 15]) (by kernel_rfl) (by simp) ?_
            intro i' hi'
            simp only [List.mem_cons, List.not_mem_nil, or_false] at hi'
            rcases hi' with rfl | rfl | rfl
            · unfold wpOp
              go_simp
              first | refine (CA.out Wd o1 hRL).mono ?_ | refine Or.inl ((CA.out Wd o1 hRL).mono ?_)
              rintro e X1 ⟨aY1, cY1, rfl, HY1⟩
              obtain ⟨o101, vB1, vI1, V1, I1, LB1, LI1, IY1, NY1, ke1, r1, b1, lv1, li1, ky1⟩ := HY1.out
              have S1 := hS.trans ky1 (fun q f => by
                by_cases hq : q < Wb.heap.size
                · have f2 : o1 q = 1 ∨ o1 q = 7 := f
                  rw [key0 q hq] at f2
                  exact .inl f2
                · exact .inr (by omega))
              first | refine Or.inl ⟨S1, ?_⟩ | refine ⟨S1, ?_⟩

              refine wpAnyH_all (rs := [13, 14, 15]) (by kernel_rfl) (by simp) ?_
              intro i' hi'
              simp only [List.mem_cons, List.not_mem_nil, or_false] at hi'
              rcases hi' with rfl | rfl | rfl
              · unfold wpOp
                go_simp
                first | refine (CT.out X1 o101 _ r1).mono ?_ | refine Or.inl ((CT.out X1 o101 _ r1).mono ?_)
                rintro e X2 ⟨aT2, cT2, rfl, HT2⟩
                obtain ⟨IT2, kT2, NT2⟩ := HT2.out
                have S2 := S1.trans kT2 (fun _ f => f.elim)
                first | refine Or.inl ⟨S2, ?_⟩ | refine ⟨S2, ?_⟩
                have r2 := r1.later kT2
                have b2 := b1.later kT2
                have IY2 := ints_laterK IY1 kT2

                refine wpAnyH_all (rs := [14, 15]) (by kernel_rfl) (by simp) ?_
                intro i' hi'
                simp only [List.mem_cons, List.not_mem_nil, or_false] at hi'
                rcases hi' with rfl | rfl
                · unfold wpOp
                  go_simp
                  obtain ⟨X3, hX3⟩ : ∃ W', W' = X2.alloc (.cells #[.int .u64 0, .string ⟨#[]⟩, .slice none 0 0, .int .i64 0, .int .i64 0] 60) := ⟨_, rfl⟩
                  have kA3 : Kept (fun _ => False) X2 X3 := by rw [hX3]; exact Kept.alloc _ _
                  have hg3 : X3.heap[X2.heap.size]? = some (.cells #[.int .u64 0, .string ⟨#[]⟩, .slice none 0 0, .int .i64 0, .int .i64 0] 60 (0, 0)) := by rw [hX3]; exact heap_alloc_new X2 _
                  have S3 := S2.trans kA3 (fun _ f => f.elim)
                  rw [← hX3]
                  obtain ⟨g3, hq3⟩ : ∃ g, g = X2.heap.size := ⟨_, rfl⟩
                  rw [← hq3] at hg3 ⊢
                  have lb3 : Wb.heap.size ≤ g3 := by have := S2.size; omega
                  first | refine Or.inl ⟨S3, ?_⟩ | refine ⟨S3, ?_⟩
                  have r3 := r2.keep kA3 (fun _ f => f.elim) (newK X2.heap.size 8 o101) (fun _ hq => newK_old hq)
                  have b3 := b2.keep kA3 (fun _ f => f.elim) (newK X2.heap.size 8 o101) (fun _ hq => newK_old hq)
                  have cg3 : newK X2.heap.size 8 o101 g3 = 8 := newK_new (by omega)
                  have IY3 := ints_laterK IY2 kA3
                  have DY3 : Rk.ls ≠ [] → ∀ b off, aY1 = some ⟨b, off, none⟩ → b ≠ g3 := fun h b off e => by have := ints_ltK IY2 h e; omega
                  have IT3 := ints_laterK IT2 kA3
                  have DT3 : Rk.ls ≠ [] → ∀ b off, aT2 = some ⟨b, off, none⟩ → b ≠ g3 := fun h b off e => by have := ints_ltK IT2 h e; omega
                  generalize newK X2.heap.size 8 o101 = o103 at r3 b3 cg3
                  clear hX3 hq3

                  refine wpAnyH_all (rs := [15]) (by kernel_rfl) (by simp) ?_
                  intro i' hi'
                  simp only [List.mem_cons, List.not_mem_nil, or_false] at hi'
                  obtain rfl := hi'
                  unfold wpOp
                  go_simp
                  obtain ⟨X4, hX4⟩ : ∃ W', W' = X3.alloc (.cells #[.int .u64 0, .string ⟨#[]⟩, .slice none 0 0, .int .i64 0, .int .i64 0] 60) := ⟨_, rfl⟩
                  have kA4 : Kept (fun _ => False) X3 X4 := by rw [hX4]; exact Kept.alloc _ _
                  have hg4 : X4.heap[X3.heap.size]? = some (.cells #[.int .u64 0, .string ⟨#[]⟩, .slice none 0 0, .int .i64 0, .int .i64 0] 60 (0, 0)) := by rw [hX4]; exact heap_alloc_new X3 _
                  have S4 := S3.trans kA4 (fun _ f => f.elim)
                  rw [← hX4]
                  obtain ⟨g4, hq4⟩ : ∃ g, g = X3.heap.size := ⟨_, rfl⟩
                  rw [← hq4] at hg4 ⊢
                  have lb4 : Wb.heap.size ≤ g4 := by have := S3.size; omega
                  first | refine Or.inl ⟨S4, ?_⟩ | refine ⟨S4, ?_⟩
                  have r4 := r3.keep kA4 (fun _ f => f.elim) (newK X3.heap.size 8 o103) (fun _ hq => newK_old hq)
                  have b4 := b3.keep kA4 (fun _ f => f.elim) (newK X3.heap.size 8 o103) (fun _ hq => newK_old hq)
                  have cg4 : newK X3.heap.size 8 o103 g4 = 8 := newK_new (by omega)
                  have h22_4 := kA4.heap hg3 (fun f => f)
                  have c22_4 : newK X3.heap.size 8 o103 g3 = 8 := (newK_old (lt_of_block hg3)).trans cg3
                  have ne_4 : g3 ≠ g4 := by have := lt_of_block hg3; omega
                  have IY4 := ints_laterK IY3 kA4
                  have DY4 : Rk.ls ≠ [] → ∀ b off, aY1 = some ⟨b, off, none⟩ → b ≠ g4 := fun h b off e => by have := ints_ltK IY3 h e; omega
                  have IT4 := ints_laterK IT3 kA4
                  have DT4 : Rk.ls ≠ [] → ∀ b off, aT2 = some ⟨b, off, none⟩ → b ≠ g4 := fun h b off e => by have := ints_ltK IT3 h e; omega
                  generalize newK X3.heap.size 8 o103 = o104 at r4 b4 cg4 c22_4
                  clear hX4 hq4

                  have hn0 : g3 ≠ g4 := by exact ne_4
                  have p0 : X4.cell? ⟨g3, 0, none⟩ = some (.int .u64 0) := by rw [cell_of_row _ _ 0 _ _ _ h22_4]; rfl
                  have p1 : X4.cell? ⟨g3, 1, none⟩ = some (.string ⟨#[]⟩) := by rw [cell_of_row _ _ 1 _ _ _ h22_4]; rfl
                  have p2 : X4.cell? ⟨g3, 2, none⟩ = some (.slice none 0 0) := by rw [cell_of_row _ _ 2 _ _ _ h22_4]; rfl
                  have p3 : X4.cell? ⟨g3, 3, none⟩ = some (.int .i64 0) := by rw [cell_of_row _ _ 3 _ _ _ h22_4]; rfl
                  have p4 : X4.cell? ⟨g3, 4, none⟩ = some (.int .i64 0) := by rw [cell_of_row _ _ 4 _ _ _ h22_4]; rfl
                  have pf : ∀ j, X4.frozen? ⟨g3, j, none⟩ = false := fun j => by simp [World.frozen?, h22_4]

                  refine wpAnyH_all (rs := [16]) (by kernel_rfl) (by simp) ?_
                  intro i' hi'
                  obtain rfl : i' = 16 := by simpa using hi'
                  unfold wpOp
                  go_simp
                  have k16 := keep5K (W := X4) (g := g3) (v0 := .int .u64 Rk.u) (v1 := .string (strOfNums Rk.t)) (v2 := .slice aY1 nl cY1) (v3 := .int .i64 (Rk.nx : Int)) (v4 := .int .i64 (Rk.e : Int))
                  have e22 := look_put5K (v0 := .int .u64 Rk.u) (v1 := .string (strOfNums Rk.t)) (v2 := .slice aY1 nl cY1) (v3 := .int .i64 (Rk.nx : Int)) (v4 := .int .i64 (Rk.e : Int)) h22_4
                  obtain ⟨W16, hW16⟩ : ∃ W', W' = (((((X4.setCell ⟨g3, 0, none⟩ (.int .u64 Rk.u)).setCell ⟨g3, 1, none⟩ (.string (strOfNums Rk.t))).setCell ⟨g3, 2, none⟩ (.slice aY1 nl cY1)).setCell ⟨g3, 3, none⟩ (.int .i64 (Rk.nx : Int))).setCell ⟨g3, 4, none⟩ (.int .i64 (Rk.e : Int))) := ⟨_, rfl⟩
                  rw [← hW16] at k16 e22 ⊢
                  have S16 := S4.trans k16 (fun q f => .inr (by have f2 : q = g3 := f; omega))
                  first | refine Or.inl ⟨S16, ?_⟩ | refine ⟨S16, ?_⟩
                  have r16 := r4.keep k16 (fun q f _ => by have f2 : q = g3 := f; rw [f2, c22_4]; decide) o104 (fun _ _ => rfl)
                  have b16 := b4.keep k16 (fun q f _ => by have f2 : q = g3 := f; rw [f2, c22_4]; decide) o104 (fun _ _ => rfl)
                  have Y16 := ints_keepK IY4 k16 (fun h b off e f => DY3 h b off e f)
                  have T16 := ints_keepK IT4 k16 (fun h b off e f => DT3 h b off e f)
                  have e23 := k16.heap hg4 (fun f => hn0 f.symm)
                  clear hW16 p0 p1 p2 p3 p4 pf
                  have p0 : W16.cell? ⟨g4, 0, none⟩ = some (.int .u64 0) := by rw [cell_of_row _ _ 0 _ _ _ e23]; rfl
                  have p1 : W16.cell? ⟨g4, 1, none⟩ = some (.string ⟨#[]⟩) := by rw [cell_of_row _ _ 1 _ _ _ e23]; rfl
                  have p2 : W16.cell? ⟨g4, 2, none⟩ = some (.slice none 0 0) := by rw [cell_of_row _ _ 2 _ _ _ e23]; rfl
                  have p3 : W16.cell? ⟨g4, 3, none⟩ = some (.int .i64 0) := by rw [cell_of_row _ _ 3 _ _ _ e23]; rfl
                  have p4 : W16.cell? ⟨g4, 4, none⟩ = some (.int .i64 0) := by rw [cell_of_row _ _ 4 _ _ _ e23]; rfl
                  have pf : ∀ j, W16.frozen? ⟨g4, j, none⟩ = false := fun j => by simp [World.frozen?, e23]

                  refine wpAnyH_all (rs := [17]) (by kernel_rfl) (by simp) ?_
                  intro i' hi'
                  obtain rfl : i' = 17 := by simpa using hi'
                  unfold wpOp
                  go_simp
                  have k17 := keep5K (W := W16) (g := g4) (v0 := .int .u64 Rk.u) (v1 := .string (strOfNums Rk.t)) (v2 := .slice aT2 nl cT2) (v3 := .int .i64 (Rk.nx : Int)) (v4 := .int .i64 (Rk.e : Int))
                  have e23b := look_put5K (v0 := .int .u64 Rk.u) (v1 := .string (strOfNums Rk.t)) (v2 := .slice aT2 nl cT2) (v3 := .int .i64 (Rk.nx : Int)) (v4 := .int .i64 (Rk.e : Int)) e23
                  obtain ⟨W17, hW17⟩ : ∃ W', W' = (((((W16.setCell ⟨g4, 0, none⟩ (.int .u64 Rk.u)).setCell ⟨g4, 1, none⟩ (.string (strOfNums Rk.t))).setCell ⟨g4, 2, none⟩ (.slice aT2 nl cT2)).setCell ⟨g4, 3, none⟩ (.int .i64 (Rk.nx : Int))).setCell ⟨g4, 4, none⟩ (.int .i64 (Rk.e : Int))) := ⟨_, rfl⟩
                  rw [← hW17] at k17 e23b ⊢
                  have S17 := S16.trans k17 (fun q f => .inr (by have f2 : q = g4 := f; omega))
                  first | refine Or.inl ⟨S17, ?_⟩ | refine ⟨S17, ?_⟩
                  have HA9 : Hid (AskD w W17 k bR rv l (upK pR 1 Rk.nx) pR gr gd vd ga kb Rk nl g3 g4) := hideH ⟨_, _, _, _, o104, _, _, _, _, _, _, k17.heap e22 (fun f => hn0 f), e23b, ints_keepK Y16 k17 (fun h b off e f => DY4 h b off e f), ints_keepK T16 k17 (fun h b off e f => DT4 h b off e f), r16.keep k17 (fun q f _ => by have f2 : q = g4 := f; rw [f2, cg4]; decide) o104 (fun _ _ => rfl), b16.keep k17 (fun q f _ => by have f2 : q = g4 := f; rw [f2, cg4]; decide) o104 (fun _ _ => rfl), lv1, li1⟩
                  clear hW17 p0 p1 p2 p3 p4 pf
                  refine wpAnyH_done (by kernel_rfl) ?_ _
                  go_wp2_with fail
                  go_meet
                  case rel => exact ⟨_, _, rfl, rfl, HA9⟩
                · unfold wpOp
                  go_simp
                  obtain ⟨X5, hX5⟩ : ∃ W', W' = X2.alloc (.cells #[.int .u64 0, .string ⟨#[]⟩, .slice none 0 0, .int .i64 0, .int .i64 0] 60) := ⟨_, rfl⟩
                  have kA5 : Kept (fun _ => False) X2 X5 := by rw [hX5]; exact Kept.alloc _ _
                  have hg5 : X5.heap[X2.heap.size]? = some (.cells #[.int .u64 0, .string ⟨#[]⟩, .slice none 0 0, .int .i64 0, .int .i64 0] 60 (0, 0)) := by rw [hX5]; exact heap_alloc_new X2 _
                  have S5 := S2.trans kA5 (fun _ f => f.elim)
                  rw [← hX5]
                  obtain ⟨g5, hq5⟩ : ∃ g, g = X2.heap.size := ⟨_, rfl⟩
                  rw [← hq5] at hg5 ⊢
                  have lb5 : Wb.heap.size ≤ g5 := by have := S2.size; omega
                  first | refine Or.inl ⟨S5, ?_⟩ | refine ⟨S5, ?_⟩
                  have r5 := r2.keep kA5 (fun _ f => f.elim) (newK X2.heap.size 8 o101) (fun _ hq => newK_old hq)
                  have b5 := b2.keep kA5 (fun _ f => f.elim) (newK X2.heap.size 8 o101) (fun _ hq => newK_old hq)
                  have cg5 : newK X2.heap.size 8 o101 g5 = 8 := newK_new (by omega)
                  have IY5 := ints_laterK IY2 kA5
                  have DY5 : Rk.ls ≠ [] → ∀ b off, aY1 = some ⟨b, off, none⟩ → b ≠ g5 := fun h b off e => by have := ints_ltK IY2 h e; omega
                  have IT5 := ints_laterK IT2 kA5
                  have DT5 : Rk.ls ≠ [] → ∀ b off, aT2 = some ⟨b, off, none⟩ → b ≠ g5 := fun h b off e => by have := ints_ltK IT2 h e; omega
                  generalize newK X2.heap.size 8 o101 = o105 at r5 b5 cg5
                  clear hX5 hq5

                  refine wpAnyH_all (rs := [14]) (by kernel_rfl) (by simp) ?_
                  intro i' hi'
                  simp only [List.mem_cons, List.not_mem_nil, or_false] at hi'
                  obtain rfl := hi'
                  unfold wpOp
                  go_simp
                  obtain ⟨X6, hX6⟩ : ∃ W', W' = X5.alloc (.cells #[.int .u64 0, .string ⟨#[]⟩, .slice none 0 0, .int .i64 0, .int .i64 0] 60) := ⟨_, rfl⟩
                  have kA6 : Kept (fun _ => False) X5 X6 := by rw [hX6]; exact Kept.alloc _ _
                  have hg6 : X6.heap[X5.heap.size]? = some (.cells #[.int .u64 0, .string ⟨#[]⟩, .slice none 0 0, .int .i64 0, .int .i64 0] 60 (0, 0)) := by rw [hX6]; exact heap_alloc_new X5 _
                  have S6 := S5.trans kA6 (fun _ f => f.elim)
                  rw [← hX6]
                  obtain ⟨g6, hq6⟩ : ∃ g, g = X5.heap.size := ⟨_, rfl⟩
                  rw [← hq6] at hg6 ⊢
                  have lb6 : Wb.heap.size ≤ g6 := by have := S5.size; omega
                  first | refine Or.inl ⟨S6, ?_⟩ | refine ⟨S6, ?_⟩
                  have r6 := r5.keep kA6 (fun _ f => f.elim) (newK X5.heap.size 8 o105) (fun _ hq => newK_old hq)
                  have b6 := b5.keep kA6 (fun _ f => f.elim) (newK X5.heap.size 8 o105) (fun _ hq => newK_old hq)
                  have cg6 : newK X5.heap.size 8 o105 g6 = 8 := newK_new (by omega)
                  have h23_6 := kA6.heap hg5 (fun f => f)
                  have c23_6 : newK X5.heap.size 8 o105 g5 = 8 := (newK_old (lt_of_block hg5)).trans cg5
                  have ne_6 : g5 ≠ g6 := by have := lt_of_block hg5; omega
                  have IY6 := ints_laterK IY5 kA6
                  have DY6 : Rk.ls ≠ [] → ∀ b off, aY1 = some ⟨b, off, none⟩ → b ≠ g6 := fun h b off e => by have := ints_ltK IY5 h e; omega
                  have IT6 := ints_laterK IT5 kA6
                  have DT6 : Rk.ls ≠ [] → ∀ b off, aT2 = some ⟨b, off, none⟩ → b ≠ g6 := fun h b off e => by have := ints_ltK IT5 h e; omega
                  generalize newK X5.heap.size 8 o105 = o106 at r6 b6 cg6 c23_6
                  clear hX6 hq6

                  have hn0 : g6 ≠ g5 := by exact fun e => ne_6 e.symm
                  have p0 : X6.cell? ⟨g6, 0, none⟩ = some (.int .u64 0) := by rw [cell_of_row _ _ 0 _ _ _ hg6]; rfl
                  have p1 : X6.cell? ⟨g6, 1, none⟩ = some (.string ⟨#[]⟩) := by rw [cell_of_row _ _ 1 _ _ _ hg6]; rfl
                  have p2 : X6.cell? ⟨g6, 2, none⟩ = some (.slice none 0 0) := by rw [cell_of_row _ _ 2 _ _ _ hg6]; rfl
                  have p3 : X6.cell? ⟨g6, 3, none⟩ = some (.int .i64 0) := by rw [cell_of_row _ _ 3 _ _ _ hg6]; rfl
                  have p4 : X6.cell? ⟨g6, 4, none⟩ = some (.int .i64 0) := by rw [cell_of_row _ _ 4 _ _ _ hg6]; rfl
                  have pf : ∀ j, X6.frozen? ⟨g6, j, none⟩ = false := fun j => by simp [World.frozen?, hg6]

                  refine wpAnyH_all (rs := [16]) (by kernel_rfl) (by simp) ?_
                  intro i' hi'
                  obtain rfl : i' = 16 := by simpa using hi'
                  unfold wpOp
                  go_simp
                  have k16 := keep5K (W := X6) (g := g6) (v0 := .int .u64 Rk.u) (v1 := .string (strOfNums Rk.t)) (v2 := .slice aY1 nl cY1) (v3 := .int .i64 (Rk.nx : Int)) (v4 := .int .i64 (Rk.e : Int))
                  have e22 := look_put5K (v0 := .int .u64 Rk.u) (v1 := .string (strOfNums Rk.t)) (v2 := .slice aY1 nl cY1) (v3 := .int .i64 (Rk.nx : Int)) (v4 := .int .i64 (Rk.e : Int)) hg6
                  obtain ⟨W16, hW16⟩ : ∃ W', W' = (((((X6.setCell ⟨g6, 0, none⟩ (.int .u64 Rk.u)).setCell ⟨g6, 1, none⟩ (.string (strOfNums Rk.t))).setCell ⟨g6, 2, none⟩ (.slice aY1 nl cY1)).setCell ⟨g6, 3, none⟩ (.int .i64 (Rk.nx : Int))).setCell ⟨g6, 4, none⟩ (.int .i64 (Rk.e : Int))) := ⟨_, rfl⟩
                  rw [← hW16] at k16 e22 ⊢
                  have S16 := S6.trans k16 (fun q f => .inr (by have f2 : q = g6 := f; omega))
                  first | refine Or.inl ⟨S16, ?_⟩ | refine ⟨S16, ?_⟩
                  have r16 := r6.keep k16 (fun q f _ => by have f2 : q = g6 := f; rw [f2, cg6]; decide) o106 (fun _ _ => rfl)
                  have b16 := b6.keep k16 (fun q f _ => by have f2 : q = g6 := f; rw [f2, cg6]; decide) o106 (fun _ _ => rfl)
                  have Y16 := ints_keepK IY6 k16 (fun h b off e f => DY6 h b off e f)
                  have T16 := ints_keepK IT6 k16 (fun h b off e f => DT6 h b off e f)
                  have e23 := k16.heap h23_6 (fun f => hn0 f.symm)
                  clear hW16 p0 p1 p2 p3 p4 pf
                  have p0 : W16.cell? ⟨g5, 0, none⟩ = some (.int .u64 0) := by rw [cell_of_row _ _ 0 _ _ _ e23]; rfl
                  have p1 : W16.cell? ⟨g5, 1, none⟩ = some (.string ⟨#[]⟩) := by rw [cell_of_row _ _ 1 _ _ _ e23]; rfl
                  have p2 : W16.cell? ⟨g5, 2, none⟩ = some (.slice none 0 0) := by rw [cell_of_row _ _ 2 _ _ _ e23]; rfl
                  have p3 : W16.cell? ⟨g5, 3, none⟩ = some (.int .i64 0) := by rw [cell_of_row _ _ 3 _ _ _ e23]; rfl
                  have p4 : W16.cell? ⟨g5, 4, none⟩ = some (.int .i64 0) := by rw [cell_of_row _ _ 4 _ _ _ e23]; rfl
                  have pf : ∀ j, W16.frozen? ⟨g5, j, none⟩ = false := fun j => by simp [World.frozen?, e23]

                  refine wpAnyH_all (rs := [17]) (by kernel_rfl) (by simp) ?_
                  intro i' hi'
                  obtain rfl : i' = 17 := by simpa using hi'
                  unfold wpOp
                  go_simp
                  have k17 := keep5K (W := W16) (g := g5) (v0 := .int .u64 Rk.u) (v1 := .string (strOfNums Rk.t)) (v2 := .slice aT2 nl cT2) (v3 := .int .i64 (Rk.nx : Int)) (v4 := .int .i64 (Rk.e : Int))
                  have e23b := look_put5K (v0 := .int .u64 Rk.u) (v1 := .string (strOfNums Rk.t)) (v2 := .slice aT2 nl cT2) (v3 := .int .i64 (Rk.nx : Int)) (v4 := .int .i64 (Rk.e : Int)) e23
                  obtain ⟨W17, hW17⟩ : ∃ W', W' = (((((W16.setCell ⟨g5, 0, none⟩ (.int .u64 Rk.u)).setCell ⟨g5, 1, none⟩ (.string (strOfNums Rk.t))).setCell ⟨g5, 2, none⟩ (.slice aT2 nl cT2)).setCell ⟨g5, 3, none⟩ (.int .i64 (Rk.nx : Int))).setCell ⟨g5, 4, none⟩ (.int .i64 (Rk.e : Int))) := ⟨_, rfl⟩
                  rw [← hW17] at k17 e23b ⊢
                  have S17 := S16.trans k17 (fun q f => .inr (by have f2 : q = g5 := f; omega))
                  first | refine Or.inl ⟨S17, ?_⟩ | refine ⟨S17, ?_⟩
                  have HA9 : Hid (AskD w W17 k bR rv l (upK pR 1 Rk.nx) pR gr gd vd ga kb Rk nl g6 g5) := hideH ⟨_, _, _, _, o106, _, _, _, _, _, _, k17.heap e22 (fun f => hn0 f), e23b, ints_keepK Y16 k17 (fun h b off e f => DY5 h b off e f), ints_keepK T16 k17 (fun h b off e f => DT5 h b off e f), r16.keep k17 (fun q f _ => by have f2 : q = g5 := f; rw [f2, c23_6]; decide) o106 (fun _ _ => rfl), b16.keep k17 (fun q f _ => by have f2 : q = g5 := f; rw [f2, c23_6]; decide) o106 (fun _ _ => rfl), lv1, li1⟩
                  clear hW17 p0 p1 p2 p3 p4 pf
                  refine wpAnyH_done (by kernel_rfl) ?_ _
                  go_wp2_with fail
                  go_meet
                  case rel => exact ⟨_, _, rfl, rfl, HA9⟩
              · unfold wpOp
                go_simp
                obtain ⟨X7, hX7⟩ : ∃ W', W' = X1.alloc (.cells #[.int .u64 0, .string ⟨#[]⟩, .slice none 0 0, .int .i64 0, .int .i64 0] 60) := ⟨_, rfl⟩
                have kA7 : Kept (fun _ => False) X1 X7 := by rw [hX7]; exact Kept.alloc _ _
                have hg7 : X7.heap[X1.heap.size]? = some (.cells #[.int .u64 0, .string ⟨#[]⟩, .slice none 0 0, .int .i64 0, .int .i64 0] 60 (0, 0)) := by rw [hX7]; exact heap_alloc_new X1 _
                have S7 := S1.trans kA7 (fun _ f => f.elim)
                rw [← hX7]
                obtain ⟨g7, hq7⟩ : ∃ g, g = X1.heap.size := ⟨_, rfl⟩
                rw [← hq7] at hg7 ⊢
                have lb7 : Wb.heap.size ≤ g7 := by have := S1.size; omega
                first | refine Or.inl ⟨S7, ?_⟩ | refine ⟨S7, ?_⟩
                have r7 := r1.keep kA7 (fun _ f => f.elim) (newK X1.heap.size 8 o101) (fun _ hq => newK_old hq)
                have b7 := b1.keep kA7 (fun _ f => f.elim) (newK X1.heap.size 8 o101) (fun _ hq => newK_old hq)
                have cg7 : newK X1.heap.size 8 o101 g7 = 8 := newK_new (by omega)
                have IY7 := ints_laterK IY1 kA7
                have DY7 : Rk.ls ≠ [] → ∀ b off, aY1 = some ⟨b, off, none⟩ → b ≠ g7 := fun h b off e => by have := ints_ltK IY1 h e; omega
                generalize newK X1.heap.size 8 o101 = o107 at r7 b7 cg7
                clear hX7 hq7

                refine wpAnyH_all (rs := [13, 15]) (by kernel_rfl) (by simp) ?_
                intro i' hi'
                simp only [List.mem_cons, List.not_mem_nil, or_false] at hi'
                rcases hi' with rfl | rfl
                · unfold wpOp
                  go_simp
                  first | refine (CT.out X7 o107 _ r7).mono ?_ | refine Or.inl ((CT.out X7 o107 _ r7).mono ?_)
                  rintro e X8 ⟨aT8, cT8, rfl, HT8⟩
                  obtain ⟨IT8, kT8, NT8⟩ := HT8.out
                  have S8 := S7.trans kT8 (fun _ f => f.elim)
                  first | refine Or.inl ⟨S8, ?_⟩ | refine ⟨S8, ?_⟩
                  have r8 := r7.later kT8
                  have b8 := b7.later kT8
                  have IY8 := ints_laterK IY7 kT8
                  have h22_8 := kT8.heap hg7 (fun f => f)
                  have DT22_8 : Rk.ls ≠ [] → ∀ b off, aT8 = some ⟨b, off, none⟩ → b ≠ g7 := fun h b off e => by have h1 := NT8 h b off e; have h2 := lt_of_block hg7; omega

                  refine wpAnyH_all (rs := [15]) (by kernel_rfl) (by simp) ?_
                  intro i' hi'
                  simp only [List.mem_cons, List.not_mem_nil, or_false] at hi'
                  obtain rfl := hi'
                  unfold wpOp
                  go_simp
                  obtain ⟨X9, hX9⟩ : ∃ W', W' = X8.alloc (.cells #[.int .u64 0, .string ⟨#[]⟩, .slice none 0 0, .int .i64 0, .int .i64 0] 60) := ⟨_, rfl⟩
                  have kA9 : Kept (fun _ => False) X8 X9 := by rw [hX9]; exact Kept.alloc _ _
                  have hg9 : X9.heap[X8.heap.size]? = some (.cells #[.int .u64 0, .string ⟨#[]⟩, .slice none 0 0, .int .i64 0, .int .i64 0] 60 (0, 0)) := by rw [hX9]; exact heap_alloc_new X8 _
                  have S9 := S8.trans kA9 (fun _ f => f.elim)
                  rw [← hX9]
                  obtain ⟨g9, hq9⟩ : ∃ g, g = X8.heap.size := ⟨_, rfl⟩
                  rw [← hq9] at hg9 ⊢
                  have lb9 : Wb.heap.size ≤ g9 := by have := S8.size; omega
                  first | refine Or.inl ⟨S9, ?_⟩ | refine ⟨S9, ?_⟩
                  have r9 := r8.keep kA9 (fun _ f => f.elim) (newK X8.heap.size 8 o107) (fun _ hq => newK_old hq)
                  have b9 := b8.keep kA9 (fun _ f => f.elim) (newK X8.heap.size 8 o107) (fun _ hq => newK_old hq)
                  have cg9 : newK X8.heap.size 8 o107 g9 = 8 := newK_new (by omega)
                  have h22_9 := kA9.heap h22_8 (fun f => f)
                  have c22_9 : newK X8.heap.size 8 o107 g7 = 8 := (newK_old (lt_of_block h22_8)).trans cg7
                  have ne_9 : g7 ≠ g9 := by have := lt_of_block h22_8; omega
                  have IY9 := ints_laterK IY8 kA9
                  have DY9 : Rk.ls ≠ [] → ∀ b off, aY1 = some ⟨b, off, none⟩ → b ≠ g9 := fun h b off e => by have := ints_ltK IY8 h e; omega
                  have IT9 := ints_laterK IT8 kA9
                  have DT9 : Rk.ls ≠ [] → ∀ b off, aT8 = some ⟨b, off, none⟩ → b ≠ g9 := fun h b off e => by have := ints_ltK IT8 h e; omega
                  generalize newK X8.heap.size 8 o107 = o109 at r9 b9 cg9 c22_9
                  clear hX9 hq9

                  have hn0 : g7 ≠ g9 := by exact ne_9
                  have p0 : X9.cell? ⟨g7, 0, none⟩ = some (.int .u64 0) := by rw [cell_of_row _ _ 0 _ _ _ h22_9]; rfl
                  have p1 : X9.cell? ⟨g7, 1, none⟩ = some (.string ⟨#[]⟩) := by rw [cell_of_row _ _ 1 _ _ _ h22_9]; rfl
                  have p2 : X9.cell? ⟨g7, 2, none⟩ = some (.slice none 0 0) := by rw [cell_of_row _ _ 2 _ _ _ h22_9]; rfl
                  have p3 : X9.cell? ⟨g7, 3, none⟩ = some (.int .i64 0) := by rw [cell_of_row _ _ 3 _ _ _ h22_9]; rfl
                  have p4 : X9.cell? ⟨g7, 4, none⟩ = some (.int .i64 0) := by rw [cell_of_row _ _ 4 _ _ _ h22_9]; rfl
                  have pf : ∀ j, X9.frozen? ⟨g7, j, none⟩ = false := fun j => by simp [World.frozen?, h22_9]

                  refine wpAnyH_all (rs := [16]) (by kernel_rfl) (by simp) ?_
                  intro i' hi'
                  obtain rfl : i' = 16 := by simpa using hi'
                  unfold wpOp
                  go_simp
                  have k16 := keep5K (W := X9) (g := g7) (v0 := .int .u64 Rk.u) (v1 := .string (strOfNums Rk.t)) (v2 := .slice aY1 nl cY1) (v3 := .int .i64 (Rk.nx : Int)) (v4 := .int .i64 (Rk.e : Int))
                  have e22 := look_put5K (v0 := .int .u64 Rk.u) (v1 := .string (strOfNums Rk.t)) (v2 := .slice aY1 nl cY1) (v3 := .int .i64 (Rk.nx : Int)) (v4 := .int .i64 (Rk.e : Int)) h22_9
                  obtain ⟨W16, hW16⟩ : ∃ W', W' = (((((X9.setCell ⟨g7, 0, none⟩ (.int .u64 Rk.u)).setCell ⟨g7, 1, none⟩ (.string (strOfNums Rk.t))).setCell ⟨g7, 2, none⟩ (.slice aY1 nl cY1)).setCell ⟨g7, 3, none⟩ (.int .i64 (Rk.nx : Int))).setCell ⟨g7, 4, none⟩ (.int .i64 (Rk.e : Int))) := ⟨_, rfl⟩
                  rw [← hW16] at k16 e22 ⊢
                  have S16 := S9.trans k16 (fun q f => .inr (by have f2 : q = g7 := f; omega))
                  first | refine Or.inl ⟨S16, ?_⟩ | refine ⟨S16, ?_⟩
                  have r16 := r9.keep k16 (fun q f _ => by have f2 : q = g7 := f; rw [f2, c22_9]; decide) o109 (fun _ _ => rfl)
                  have b16 := b9.keep k16 (fun q f _ => by have f2 : q = g7 := f; rw [f2, c22_9]; decide) o109 (fun _ _ => rfl)
                  have Y16 := ints_keepK IY9 k16 (fun h b off e f => DY7 h b off e f)
                  have T16 := ints_keepK IT9 k16 (fun h b off e f => DT22_8 h b off e f)
                  have e23 := k16.heap hg9 (fun f => hn0 f.symm)
                  clear hW16 p0 p1 p2 p3 p4 pf
                  have p0 : W16.cell? ⟨g9, 0, none⟩ = some (.int .u64 0) := by rw [cell_of_row _ _ 0 _ _ _ e23]; rfl
                  have p1 : W16.cell? ⟨g9, 1, none⟩ = some (.string ⟨#[]⟩) := by rw [cell_of_row _ _ 1 _ _ _ e23]; rfl
                  have p2 : W16.cell? ⟨g9, 2, none⟩ = some (.slice none 0 0) := by rw [cell_of_row _ _ 2 _ _ _ e23]; rfl
                  have p3 : W16.cell? ⟨g9, 3, none⟩ = some (.int .i64 0) := by rw [cell_of_row _ _ 3 _ _ _ e23]; rfl
                  have p4 : W16.cell? ⟨g9, 4, none⟩ = some (.int .i64 0) := by rw [cell_of_row _ _ 4 _ _ _ e23]; rfl
                  have pf : ∀ j, W16.frozen? ⟨g9, j, none⟩ = false := fun j => by simp [World.frozen?, e23]

                  refine wpAnyH_all (rs := [17]) (by kernel_rfl) (by simp) ?_
                  intro i' hi'
                  obtain rfl : i' = 17 := by simpa using hi'
                  unfold wpOp
                  go_simp
                  have k17 := keep5K (W := W16) (g := g9) (v0 := .int .u64 Rk.u) (v1 := .string (strOfNums Rk.t)) (v2 := .slice aT8 nl cT8) (v3 := .int .i64 (Rk.nx : Int)) (v4 := .int .i64 (Rk.e : Int))
                  have e23b := look_put5K (v0 := .int .u64 Rk.u) (v1 := .string (strOfNums Rk.t)) (v2 := .slice aT8 nl cT8) (v3 := .int .i64 (Rk.nx : Int)) (v4 := .int .i64 (Rk.e : Int)) e23
                  obtain ⟨W17, hW17⟩ : ∃ W', W' = (((((W16.setCell ⟨g9, 0, none⟩ (.int .u64 Rk.u)).setCell ⟨g9, 1, none⟩ (.string (strOfNums Rk.t))).setCell ⟨g9, 2, none⟩ (.slice aT8 nl cT8)).setCell ⟨g9, 3, none⟩ (.int .i64 (Rk.nx : Int))).setCell ⟨g9, 4, none⟩ (.int .i64 (Rk.e : Int))) := ⟨_, rfl⟩
                  rw [← hW17] at k17 e23b ⊢
                  have S17 := S16.trans k17 (fun q f => .inr (by have f2 : q = g9 := f; omega))
                  first | refine Or.inl ⟨S17, ?_⟩ | refine ⟨S17, ?_⟩
                  have HA9 : Hid (AskD w W17 k bR rv l (upK pR 1 Rk.nx) pR gr gd vd ga kb Rk nl g7 g9) := hideH ⟨_, _, _, _, o109, _, _, _, _, _, _, k17.heap e22 (fun f => hn0 f), e23b, ints_keepK Y16 k17 (fun h b off e f => DY9 h b off e f), ints_keepK T16 k17 (fun h b off e f => DT9 h b off e f), r16.keep k17 (fun q f _ => by have f2 : q = g9 := f; rw [f2, cg9]; decide) o109 (fun _ _ => rfl), b16.keep k17 (fun q f _ => by have f2 : q = g9 := f; rw [f2, cg9]; decide) o109 (fun _ _ => rfl), lv1, li1⟩
                  clear hW17 p0 p1 p2 p3 p4 pf
                  refine wpAnyH_done (by kernel_rfl) ?_ _
                  go_wp2_with fail
                  go_meet
                  case rel => exact ⟨_, _, rfl, rfl, HA9⟩
                · unfold wpOp
                  go_simp
                  obtain ⟨X10, hX10⟩ : ∃ W', W' = X7.alloc (.cells #[.int .u64 0, .string ⟨#[]⟩, .slice none 0 0, .int .i64 0, .int .i64 0] 60) := ⟨_, rfl⟩
                  have kA10 : Kept (fun _ => False) X7 X10 := by rw [hX10]; exact Kept.alloc _ _
                  have hg10 : X10.heap[X7.heap.size]? = some (.cells #[.int .u64 0, .string ⟨#[]⟩, .slice none 0 0, .int .i64 0, .int .i64 0] 60 (0, 0)) := by rw [hX10]; exact heap_alloc_new X7 _
                  have S10 := S7.trans kA10 (fun _ f => f.elim)
                  rw [← hX10]
                  obtain ⟨g10, hq10⟩ : ∃ g, g = X7.heap.size := ⟨_, rfl⟩
                  rw [← hq10] at hg10 ⊢
                  have lb10 : Wb.heap.size ≤ g10 := by have := S7.size; omega
                  first | refine Or.inl ⟨S10, ?_⟩ | refine ⟨S10, ?_⟩
                  have r10 := r7.keep kA10 (fun _ f => f.elim) (newK X7.heap.size 8 o107) (fun _ hq => newK_old hq)
                  have b10 := b7.keep kA10 (fun _ f => f.elim) (newK X7.heap.size 8 o107) (fun _ hq => newK_old hq)
                  have cg10 : newK X7.heap.size 8 o107 g10 = 8 := newK_new (by omega)
                  have h22_10 := kA10.heap hg7 (fun f => f)
                  have c22_10 : newK X7.heap.size 8 o107 g7 = 8 := (newK_old (lt_of_block hg7)).trans cg7
                  have ne_10 : g7 ≠ g10 := by have := lt_of_block hg7; omega
                  have IY10 := ints_laterK IY7 kA10
                  have DY10 : Rk.ls ≠ [] → ∀ b off, aY1 = some ⟨b, off, none⟩ → b ≠ g10 := fun h b off e => by have := ints_ltK IY7 h e; omega
                  generalize newK X7.heap.size 8 o107 = o110 at r10 b10 cg10 c22_10
                  clear hX10 hq10

                  refine wpAnyH_all (rs := [13]) (by kernel_rfl) (by simp) ?_
                  intro i' hi'
                  simp only [List.mem_cons, List.not_mem_nil, or_false] at hi'
                  obtain rfl := hi'
                  unfold wpOp
                  go_simp
                  first | refine (CT.out X10 o110 _ r10).mono ?_ | refine Or.inl ((CT.out X10 o110 _ r10).mono ?_)
                  rintro e X11 ⟨aT11, cT11, rfl, HT11⟩
                  obtain ⟨IT11, kT11, NT11⟩ := HT11.out
                  have S11 := S10.trans kT11 (fun _ f => f.elim)
                  first | refine Or.inl ⟨S11, ?_⟩ | refine ⟨S11, ?_⟩
                  have r11 := r10.later kT11
                  have b11 := b10.later kT11
                  have IY11 := ints_laterK IY10 kT11
                  have h22_11 := kT11.heap h22_10 (fun f => f)
                  have DT22_11 : Rk.ls ≠ [] → ∀ b off, aT11 = some ⟨b, off, none⟩ → b ≠ g7 := fun h b off e => by have h1 := NT11 h b off e; have h2 := lt_of_block h22_10; omega
                  have h23_11 := kT11.heap hg10 (fun f => f)
                  have DT23_11 : Rk.ls ≠ [] → ∀ b off, aT11 = some ⟨b, off, none⟩ → b ≠ g10 := fun h b off e => by have h1 := NT11 h b off e; have h2 := lt_of_block hg10; omega

                  have hn0 : g7 ≠ g10 := by exact ne_10
                  have p0 : X11.cell? ⟨g7, 0, none⟩ = some (.int .u64 0) := by rw [cell_of_row _ _ 0 _ _ _ h22_11]; rfl
                  have p1 : X11.cell? ⟨g7, 1, none⟩ = some (.string ⟨#[]⟩) := by rw [cell_of_row _ _ 1 _ _ _ h22_11]; rfl
                  have p2 : X11.cell? ⟨g7, 2, none⟩ = some (.slice none 0 0) := by rw [cell_of_row _ _ 2 _ _ _ h22_11]; rfl
                  have p3 : X11.cell? ⟨g7, 3, none⟩ = some (.int .i64 0) := by rw [cell_of_row _ _ 3 _ _ _ h22_11]; rfl
                  have p4 : X11.cell? ⟨g7, 4, none⟩ = some (.int .i64 0) := by rw [cell_of_row _ _ 4 _ _ _ h22_11]; rfl
                  have pf : ∀ j, X11.frozen? ⟨g7, j, none⟩ = false := fun j => by simp [World.frozen?, h22_11]

                  refine wpAnyH_all (rs := [16]) (by kernel_rfl) (by simp) ?_
                  intro i' hi'
                  obtain rfl : i' = 16 := by simpa using hi'
                  unfold wpOp
                  go_simp
                  have k16 := keep5K (W := X11) (g := g7) (v0 := .int .u64 Rk.u) (v1 := .string (strOfNums Rk.t)) (v2 := .slice aY1 nl cY1) (v3 := .int .i64 (Rk.nx : Int)) (v4 := .int .i64 (Rk.e : Int))
                  have e22 := look_put5K (v0 := .int .u64 Rk.u) (v1 := .string (strOfNums Rk.t)) (v2 := .slice aY1 nl cY1) (v3 := .int .i64 (Rk.nx : Int)) (v4 := .int .i64 (Rk.e : Int)) h22_11
                  obtain ⟨W16, hW16⟩ : ∃ W', W' = (((((X11.setCell ⟨g7, 0, none⟩ (.int .u64 Rk.u)).setCell ⟨g7, 1, none⟩ (.string (strOfNums Rk.t))).setCell ⟨g7, 2, none⟩ (.slice aY1 nl cY1)).setCell ⟨g7, 3, none⟩ (.int .i64 (Rk.nx : Int))).setCell ⟨g7, 4, none⟩ (.int .i64 (Rk.e : Int))) := ⟨_, rfl⟩
                  rw [← hW16] at k16 e22 ⊢
                  have S16 := S11.trans k16 (fun q f => .inr (by have f2 : q = g7 := f; omega))
                  first | refine Or.inl ⟨S16, ?_⟩ | refine ⟨S16, ?_⟩
                  have r16 := r11.keep k16 (fun q f _ => by have f2 : q = g7 := f; rw [f2, c22_10]; decide) o110 (fun _ _ => rfl)
                  have b16 := b11.keep k16 (fun q f _ => by have f2 : q = g7 := f; rw [f2, c22_10]; decide) o110 (fun _ _ => rfl)
                  have Y16 := ints_keepK IY11 k16 (fun h b off e f => DY7 h b off e f)
                  have T16 := ints_keepK IT11 k16 (fun h b off e f => DT22_11 h b off e f)
                  have e23 := k16.heap h23_11 (fun f => hn0 f.symm)
                  clear hW16 p0 p1 p2 p3 p4 pf
                  have p0 : W16.cell? ⟨g10, 0, none⟩ = some (.int .u64 0) := by rw [cell_of_row _ _ 0 _ _ _ e23]; rfl
                  have p1 : W16.cell? ⟨g10, 1, none⟩ = some (.string ⟨#[]⟩) := by rw [cell_of_row _ _ 1 _ _ _ e23]; rfl
                  have p2 : W16.cell? ⟨g10, 2, none⟩ = some (.slice none 0 0) := by rw [cell_of_row _ _ 2 _ _ _ e23]; rfl
                  have p3 : W16.cell? ⟨g10, 3, none⟩ = some (.int .i64 0) := by rw [cell_of_row _ _ 3 _ _ _ e23]; rfl
                  have p4 : W16.cell? ⟨g10, 4, none⟩ = some (.int .i64 0) := by rw [cell_of_row _ _ 4 _ _ _ e23]; rfl
                  have pf : ∀ j, W16.frozen? ⟨g10, j, none⟩ = false := fun j => by simp [World.frozen?, e23]

                  refine wpAnyH_all (rs := [17]) (by kernel_rfl) (by simp) ?_
                  intro i' hi'
                  obtain rfl : i' = 17 := by simpa using hi'
                  unfold wpOp
                  go_simp
                  have k17 := keep5K (W := W16) (g := g10) (v0 := .int .u64 Rk.u) (v1 := .string (strOfNums Rk.t)) (v2 := .slice aT11 nl cT11) (v3 := .int .i64 (Rk.nx : Int)) (v4 := .int .i64 (Rk.e : Int))
                  have e23b := look_put5K (v0 := .int .u64 Rk.u) (v1 := .string (strOfNums Rk.t)) (v2 := .slice aT11 nl cT11) (v3 := .int .i64 (Rk.nx : Int)) (v4 := .int .i64 (Rk.e : Int)) e23
                  obtain ⟨W17, hW17⟩ : ∃ W', W' = (((((W16.setCell ⟨g10, 0, none⟩ (.int .u64 Rk.u)).setCell ⟨g10, 1, none⟩ (.string (strOfNums Rk.t))).setCell ⟨g10, 2, none⟩ (.slice aT11 nl cT11)).setCell ⟨g10, 3, none⟩ (.int .i64 (Rk.nx : Int))).setCell ⟨g10, 4, none⟩ (.int .i64 (Rk.e : Int))) := ⟨_, rfl⟩
                  rw [← hW17] at k17 e23b ⊢
                  have S17 := S16.trans k17 (fun q f => .inr (by have f2 : q = g10 := f; omega))
                  first | refine Or.inl ⟨S17, ?_⟩ | refine ⟨S17, ?_⟩
                  have HA9 : Hid (AskD w W17 k bR rv l (upK pR 1 Rk.nx) pR gr gd vd ga kb Rk nl g7 g10) := hideH ⟨_, _, _, _, o110, _, _, _, _, _, _, k17.heap e22 (fun f => hn0 f), e23b, ints_keepK Y16 k17 (fun h b off e f => DY10 h b off e f), ints_keepK T16 k17 (fun h b off e f => DT23_11 h b off e f), r16.keep k17 (fun q f _ => by have f2 : q = g10 := f; rw [f2, cg10]; decide) o110 (fun _ _ => rfl), b16.keep k17 (fun q f _ => by have f2 : q = g10 := f; rw [f2, cg10]; decide) o110 (fun _ _ => rfl), lv1, li1⟩
                  clear hW17 p0 p1 p2 p3 p4 pf
                  refine wpAnyH_done (by kernel_rfl) ?_ _
                  go_wp2_with fail
                  go_meet
                  case rel => exact ⟨_, _, rfl, rfl, HA9⟩
              · unfold wpOp
                go_simp
                obtain ⟨X12, hX12⟩ : ∃ W', W' = X1.alloc (.cells #[.int .u64 0, .string ⟨#[]⟩, .slice none 0 0, .int .i64 0, .int .i64 0] 60) := ⟨_, rfl⟩
                have kA12 : Kept (fun _ => False) X1 X12 := by rw [hX12]; exact Kept.alloc _ _
                have hg12 : X12.heap[X1.heap.size]? = some (.cells #[.int .u64 0, .string ⟨#[]⟩, .slice none 0 0, .int .i64 0, .int .i64 0] 60 (0, 0)) := by rw [hX12]; exact heap_alloc_new X1 _
                have S12 := S1.trans kA12 (fun _ f => f.elim)
                rw [← hX12]
                obtain ⟨g12, hq12⟩ : ∃ g, g = X1.heap.size := ⟨_, rfl⟩
                rw [← hq12] at hg12 ⊢
                have lb12 : Wb.heap.size ≤ g12 := by have := S1.size; omega
                first | refine Or.inl ⟨S12, ?_⟩ | refine ⟨S12, ?_⟩
                have r12 := r1.keep kA12 (fun _ f => f.elim) (newK X1.heap.size 8 o101) (fun _ hq => newK_old hq)
                have b12 := b1.keep kA12 (fun _ f => f.elim) (newK X1.heap.size 8 o101) (fun _ hq => newK_old hq)
                have cg12 : newK X1.heap.size 8 o101 g12 = 8 := newK_new (by omega)
                have IY12 := ints_laterK IY1 kA12
                have DY12 : Rk.ls ≠ [] → ∀ b off, aY1 = some ⟨b, off, none⟩ → b ≠ g12 := fun h b off e => by have := ints_ltK IY1 h e; omega
                generalize newK X1.heap.size 8 o101 = o112 at r12 b12 cg12
                clear hX12 hq12

                refine wpAnyH_all (rs := [13, 14]) (by kernel_rfl) (by simp) ?_
                intro i' hi'
                simp only [List.mem_cons, List.not_mem_nil, or_false] at hi'
                rcases hi' with rfl | rfl
                · unfold wpOp
                  go_simp
                  first | refine (CT.out X12 o112 _ r12).mono ?_ | refine Or.inl ((CT.out X12 o112 _ r12).mono ?_)
                  rintro e X13 ⟨aT13, cT13, rfl, HT13⟩
                  obtain ⟨IT13, kT13, NT13⟩ := HT13.out
                  have S13 := S12.trans kT13 (fun _ f => f.elim)
                  first | refine Or.inl ⟨S13, ?_⟩ | refine ⟨S13, ?_⟩
                  have r13 := r12.later kT13
                  have b13 := b12.later kT13
                  have IY13 := ints_laterK IY12 kT13
                  have h23_13 := kT13.heap hg12 (fun f => f)
                  have DT23_13 : Rk.ls ≠ [] → ∀ b off, aT13 = some ⟨b, off, none⟩ → b ≠ g12 := fun h b off e => by have h1 := NT13 h b off e; have h2 := lt_of_block hg12; omega

                  refine wpAnyH_all (rs := [14]) (by kernel_rfl) (by simp) ?_
                  intro i' hi'
                  simp only [List.mem_cons, List.not_mem_nil, or_false] at hi'
                  obtain rfl := hi'
                  unfold wpOp
                  go_simp
                  obtain ⟨X14, hX14⟩ : ∃ W', W' = X13.alloc (.cells #[.int .u64 0, .string ⟨#[]⟩, .slice none 0 0, .int .i64 0, .int .i64 0] 60) := ⟨_, rfl⟩
                  have kA14 : Kept (fun _ => False) X13 X14 := by rw [hX14]; exact Kept.alloc _ _
                  have hg14 : X14.heap[X13.heap.size]? = some (.cells #[.int .u64 0, .string ⟨#[]⟩, .slice none 0 0, .int .i64 0, .int .i64 0] 60 (0, 0)) := by rw [hX14]; exact heap_alloc_new X13 _
                  have S14 := S13.trans kA14 (fun _ f => f.elim)
                  rw [← hX14]
                  obtain ⟨g14, hq14⟩ : ∃ g, g = X13.heap.size := ⟨_, rfl⟩
                  rw [← hq14] at hg14 ⊢
                  have lb14 : Wb.heap.size ≤ g14 := by have := S13.size; omega
                  first | refine Or.inl ⟨S14, ?_⟩ | refine ⟨S14, ?_⟩
                  have r14 := r13.keep kA14 (fun _ f => f.elim) (newK X13.heap.size 8 o112) (fun _ hq => newK_old hq)
                  have b14 := b13.keep kA14 (fun _ f => f.elim) (newK X13.heap.size 8 o112) (fun _ hq => newK_old hq)
                  have cg14 : newK X13.heap.size 8 o112 g14 = 8 := newK_new (by omega)
                  have h23_14 := kA14.heap h23_13 (fun f => f)
                  have c23_14 : newK X13.heap.size 8 o112 g12 = 8 := (newK_old (lt_of_block h23_13)).trans cg12
                  have ne_14 : g12 ≠ g14 := by have := lt_of_block h23_13; omega
                  have IY14 := ints_laterK IY13 kA14
                  have DY14 : Rk.ls ≠ [] → ∀ b off, aY1 = some ⟨b, off, none⟩ → b ≠ g14 := fun h b off e => by have := ints_ltK IY13 h e; omega
                  have IT14 := ints_laterK IT13 kA14
                  have DT14 : Rk.ls ≠ [] → ∀ b off, aT13 = some ⟨b, off, none⟩ → b ≠ g14 := fun h b off e => by have := ints_ltK IT13 h e; omega
                  generalize newK X13.heap.size 8 o112 = o114 at r14 b14 cg14 c23_14
                  clear hX14 hq14

                  have hn0 : g14 ≠ g12 := by exact fun e => ne_14 e.symm
                  have p0 : X14.cell? ⟨g14, 0, none⟩ = some (.int .u64 0) := by rw [cell_of_row _ _ 0 _ _ _ hg14]; rfl
                  have p1 : X14.cell? ⟨g14, 1, none⟩ = some (.string ⟨#[]⟩) := by rw [cell_of_row _ _ 1 _ _ _ hg14]; rfl
                  have p2 : X14.cell? ⟨g14, 2, none⟩ = some (.slice none 0 0) := by rw [cell_of_row _ _ 2 _ _ _ hg14]; rfl
                  have p3 : X14.cell? ⟨g14, 3, none⟩ = some (.int .i64 0) := by rw [cell_of_row _ _ 3 _ _ _ hg14]; rfl
                  have p4 : X14.cell? ⟨g14, 4, none⟩ = some (.int .i64 0) := by rw [cell_of_row _ _ 4 _ _ _ hg14]; rfl
                  have pf : ∀ j, X14.frozen? ⟨g14, j, none⟩ = false := fun j => by simp [World.frozen?, hg14]

                  refine wpAnyH_all (rs := [16]) (by kernel_rfl) (by simp) ?_
                  intro i' hi'
                  obtain rfl : i' = 16 := by simpa using hi'
                  unfold wpOp
                  go_simp
                  have k16 := keep5K (W := X14) (g := g14) (v0 := .int .u64 Rk.u) (v1 := .string (strOfNums Rk.t)) (v2 := .slice aY1 nl cY1) (v3 := .int .i64 (Rk.nx : Int)) (v4 := .int .i64 (Rk.e : Int))
                  have e22 := look_put5K (v0 := .int .u64 Rk.u) (v1 := .string (strOfNums Rk.t)) (v2 := .slice aY1 nl cY1) (v3 := .int .i64 (Rk.nx : Int)) (v4 := .int .i64 (Rk.e : Int)) hg14
                  obtain ⟨W16, hW16⟩ : ∃ W', W' = (((((X14.setCell ⟨g14, 0, none⟩ (.int .u64 Rk.u)).setCell ⟨g14, 1, none⟩ (.string (strOfNums Rk.t))).setCell ⟨g14, 2, none⟩ (.slice aY1 nl cY1)).setCell ⟨g14, 3, none⟩ (.int .i64 (Rk.nx : Int))).setCell ⟨g14, 4, none⟩ (.int .i64 (Rk.e : Int))) := ⟨_, rfl⟩
                  rw [← hW16] at k16 e22 ⊢
                  have S16 := S14.trans k16 (fun q f => .inr (by have f2 : q = g14 := f; omega))
                  first | refine Or.inl ⟨S16, ?_⟩ | refine ⟨S16, ?_⟩
                  have r16 := r14.keep k16 (fun q f _ => by have f2 : q = g14 := f; rw [f2, cg14]; decide) o114 (fun _ _ => rfl)
                  have b16 := b14.keep k16 (fun q f _ => by have f2 : q = g14 := f; rw [f2, cg14]; decide) o114 (fun _ _ => rfl)
                  have Y16 := ints_keepK IY14 k16 (fun h b off e f => DY14 h b off e f)
                  have T16 := ints_keepK IT14 k16 (fun h b off e f => DT14 h b off e f)
                  have e23 := k16.heap h23_14 (fun f => hn0 f.symm)
                  clear hW16 p0 p1 p2 p3 p4 pf
                  have p0 : W16.cell? ⟨g12, 0, none⟩ = some (.int .u64 0) := by rw [cell_of_row _ _ 0 _ _ _ e23]; rfl
                  have p1 : W16.cell? ⟨g12, 1, none⟩ = some (.string ⟨#[]⟩) := by rw [cell_of_row _ _ 1 _ _ _ e23]; rfl
                  have p2 : W16.cell? ⟨g12, 2, none⟩ = some (.slice none 0 0) := by rw [cell_of_row _ _ 2 _ _ _ e23]; rfl
                  have p3 : W16.cell? ⟨g12, 3, none⟩ = some (.int .i64 0) := by rw [cell_of_row _ _ 3 _ _ _ e23]; rfl
                  have p4 : W16.cell? ⟨g12, 4, none⟩ = some (.int .i64 0) := by rw [cell_of_row _ _ 4 _ _ _ e23]; rfl
                  have pf : ∀ j, W16.frozen? ⟨g12, j, none⟩ = false := fun j => by simp [World.frozen?, e23]

                  refine wpAnyH_all (rs := [17]) (by kernel_rfl) (by simp) ?_
                  intro i' hi'
                  obtain rfl : i' = 17 := by simpa using hi'
                  unfold wpOp
                  go_simp
                  have k17 := keep5K (W := W16) (g := g12) (v0 := .int .u64 Rk.u) (v1 := .string (strOfNums Rk.t)) (v2 := .slice aT13 nl cT13) (v3 := .int .i64 (Rk.nx : Int)) (v4 := .int .i64 (Rk.e : Int))
                  have e23b := look_put5K (v0 := .int .u64 Rk.u) (v1 := .string (strOfNums Rk.t)) (v2 := .slice aT13 nl cT13) (v3 := .int .i64 (Rk.nx : Int)) (v4 := .int .i64 (Rk.e : Int)) e23
                  obtain ⟨W17, hW17⟩ : ∃ W', W' = (((((W16.setCell ⟨g12, 0, none⟩ (.int .u64 Rk.u)).setCell ⟨g12, 1, none⟩ (.string (strOfNums Rk.t))).setCell ⟨g12, 2, none⟩ (.slice aT13 nl cT13)).setCell ⟨g12, 3, none⟩ (.int .i64 (Rk.nx : Int))).setCell ⟨g12, 4, none⟩ (.int .i64 (Rk.e : Int))) := ⟨_, rfl⟩
                  rw [← hW17] at k17 e23b ⊢
                  have S17 := S16.trans k17 (fun q f => .inr (by have f2 : q = g12 := f; omega))
                  first | refine Or.inl ⟨S17, ?_⟩ | refine ⟨S17, ?_⟩
                  have HA9 : Hid (AskD w W17 k bR rv l (upK pR 1 Rk.nx) pR gr gd vd ga kb Rk nl g14 g12) := hideH ⟨_, _, _, _, o114, _, _, _, _, _, _, k17.heap e22 (fun f => hn0 f), e23b, ints_keepK Y16 k17 (fun h b off e f => DY12 h b off e f), ints_keepK T16 k17 (fun h b off e f => DT23_13 h b off e f), r16.keep k17 (fun q f _ => by have f2 : q = g12 := f; rw [f2, c23_14]; decide) o114 (fun _ _ => rfl), b16.keep k17 (fun q f _ => by have f2 : q = g12 := f; rw [f2, c23_14]; decide) o114 (fun _ _ => rfl), lv1, li1⟩
                  clear hW17 p0 p1 p2 p3 p4 pf
                  refine wpAnyH_done (by kernel_rfl) ?_ _
                  go_wp2_with fail
                  go_meet
                  case rel => exact ⟨_, _, rfl, rfl, HA9⟩
                · unfold wpOp
                  go_simp
                  obtain ⟨X15, hX15⟩ : ∃ W', W' = X12.alloc (.cells #[.int .u64 0, .string ⟨#[]⟩, .slice none 0 0, .int .i64 0, .int .i64 0] 60) := ⟨_, rfl⟩
                  have kA15 : Kept (fun _ => False) X12 X15 := by rw [hX15]; exact Kept.alloc _ _
                  have hg15 : X15.heap[X12.heap.size]? = some (.cells #[.int .u64 0, .string ⟨#[]⟩, .slice none 0 0, .int .i64 0, .int .i64 0] 60 (0, 0)) := by rw [hX15]; exact heap_alloc_new X12 _
                  have S15 := S12.trans kA15 (fun _ f => f.elim)
                  rw [← hX15]
                  obtain ⟨g15, hq15⟩ : ∃ g, g = X12.heap.size := ⟨_, rfl⟩
                  rw [← hq15] at hg15 ⊢
                  have lb15 : Wb.heap.size ≤ g15 := by have := S12.size; omega
                  first | refine Or.inl ⟨S15, ?_⟩ | refine ⟨S15, ?_⟩
                  have r15 := r12.keep kA15 (fun _ f => f.elim) (newK X12.heap.size 8 o112) (fun _ hq => newK_old hq)
                  have b15 := b12.keep kA15 (fun _ f => f.elim) (newK X12.heap.size 8 o112) (fun _ hq => newK_old hq)
                  have cg15 : newK X12.heap.size 8 o112 g15 = 8 := newK_new (by omega)
                  have h23_15 := kA15.heap hg12 (fun f => f)
                  have c23_15 : newK X12.heap.size 8 o112 g12 = 8 := (newK_old (lt_of_block hg12)).trans cg12
                  have ne_15 : g12 ≠ g15 := by have := lt_of_block hg12; omega
                  have IY15 := ints_laterK IY12 kA15
                  have DY15 : Rk.ls ≠ [] → ∀ b off, aY1 = some ⟨b, off, none⟩ → b ≠ g15 := fun h b off e => by have := ints_ltK IY12 h e; omega
                  generalize newK X12.heap.size 8 o112 = o115 at r15 b15 cg15 c23_15
                  clear hX15 hq15

                  refine wpAnyH_all (rs := [13]) (by kernel_rfl) (by simp) ?_
                  intro i' hi'
                  simp only [List.mem_cons, List.not_mem_nil, or_false] at hi'
                  obtain rfl := hi'
                  unfold wpOp
                  go_simp
                  first | refine (CT.out X15 o115 _ r15).mono ?_ | refine Or.inl ((CT.out X15 o115 _ r15).mono ?_)
                  rintro e X16 ⟨aT16, cT16, rfl, HT16⟩
                  obtain ⟨IT16, kT16, NT16⟩ := HT16.out
                  have S16 := S15.trans kT16 (fun _ f => f.elim)
                  first | refine Or.inl ⟨S16, ?_⟩ | refine ⟨S16, ?_⟩
                  have r16 := r15.later kT16
                  have b16 := b15.later kT16
                  have IY16 := ints_laterK IY15 kT16
                  have h23_16 := kT16.heap h23_15 (fun f => f)
                  have DT23_16 : Rk.ls ≠ [] → ∀ b off, aT16 = some ⟨b, off, none⟩ → b ≠ g12 := fun h b off e => by have h1 := NT16 h b off e; have h2 := lt_of_block h23_15; omega
                  have h22_16 := kT16.heap hg15 (fun f => f)
                  have DT22_16 : Rk.ls ≠ [] → ∀ b off, aT16 = some ⟨b, off, none⟩ → b ≠ g15 := fun h b off e => by have h1 := NT16 h b off e; have h2 := lt_of_block hg15; omega

                  have hn0 : g15 ≠ g12 := by exact fun e => ne_15 e.symm
                  have p0 : X16.cell? ⟨g15, 0, none⟩ = some (.int .u64 0) := by rw [cell_of_row _ _ 0 _ _ _ h22_16]; rfl
                  have p1 : X16.cell? ⟨g15, 1, none⟩ = some (.string ⟨#[]⟩) := by rw [cell_of_row _ _ 1 _ _ _ h22_16]; rfl
                  have p2 : X16.cell? ⟨g15, 2, none⟩ = some (.slice none 0 0) := by rw [cell_of_row _ _ 2 _ _ _ h22_16]; rfl
                  have p3 : X16.cell? ⟨g15, 3, none⟩ = some (.int .i64 0) := by rw [cell_of_row _ _ 3 _ _ _ h22_16]; rfl
                  have p4 : X16.cell? ⟨g15, 4, none⟩ = some (.int .i64 0) := by rw [cell_of_row _ _ 4 _ _ _ h22_16]; rfl
                  have pf : ∀ j, X16.frozen? ⟨g15, j, none⟩ = false := fun j => by simp [World.frozen?, h22_16]

                  refine wpAnyH_all (rs := [16]) (by kernel_rfl) (by simp) ?_
                  intro i' hi'
                  obtain rfl : i' = 16 := by simpa using hi'
                  unfold wpOp
                  go_simp
                  have k16 := keep5K (W := X16) (g := g15) (v0 := .int .u64 Rk.u) (v1 := .string (strOfNums Rk.t)) (v2 := .slice aY1 nl cY1) (v3 := .int .i64 (Rk.nx : Int)) (v4 := .int .i64 (Rk.e : Int))
                  have e22 := look_put5K (v0 := .int .u64 Rk.u) (v1 := .string (strOfNums Rk.t)) (v2 := .slice aY1 nl cY1) (v3 := .int .i64 (Rk.nx : Int)) (v4 := .int .i64 (Rk.e : Int)) h22_16
                  obtain ⟨W16, hW16⟩ : ∃ W', W' = (((((X16.setCell ⟨g15, 0, none⟩ (.int .u64 Rk.u)).setCell ⟨g15, 1, none⟩ (.string (strOfNums Rk.t))).setCell ⟨g15, 2, none⟩ (.slice aY1 nl cY1)).setCell ⟨g15, 3, none⟩ (.int .i64 (Rk.nx : Int))).setCell ⟨g15, 4, none⟩ (.int .i64 (Rk.e : Int))) := ⟨_, rfl⟩
                  rw [← hW16] at k16 e22 ⊢
                  have S16 := S16.trans k16 (fun q f => .inr (by have f2 : q = g15 := f; omega))
                  first | refine Or.inl ⟨S16, ?_⟩ | refine ⟨S16, ?_⟩
                  have r16 := r16.keep k16 (fun q f _ => by have f2 : q = g15 := f; rw [f2, cg15]; decide) o115 (fun _ _ => rfl)
                  have b16 := b16.keep k16 (fun q f _ => by have f2 : q = g15 := f; rw [f2, cg15]; decide) o115 (fun _ _ => rfl)
                  have Y16 := ints_keepK IY16 k16 (fun h b off e f => DY15 h b off e f)
                  have T16 := ints_keepK IT16 k16 (fun h b off e f => DT22_16 h b off e f)
                  have e23 := k16.heap h23_16 (fun f => hn0 f.symm)
                  clear hW16 p0 p1 p2 p3 p4 pf
                  have p0 : W16.cell? ⟨g12, 0, none⟩ = some (.int .u64 0) := by rw [cell_of_row _ _ 0 _ _ _ e23]; rfl
                  have p1 : W16.cell? ⟨g12, 1, none⟩ = some (.string ⟨#[]⟩) := by rw [cell_of_row _ _ 1 _ _ _ e23]; rfl
                  have p2 : W16.cell? ⟨g12, 2, none⟩ = some (.slice none 0 0) := by rw [cell_of_row _ _ 2 _ _ _ e23]; rfl
                  have p3 : W16.cell? ⟨g12, 3, none⟩ = some (.int .i64 0) := by rw [cell_of_row _ _ 3 _ _ _ e23]; rfl
                  have p4 : W16.cell? ⟨g12, 4, none⟩ = some (.int .i64 0) := by rw [cell_of_row _ _ 4 _ _ _ e23]; rfl
                  have pf : ∀ j, W16.frozen? ⟨g12, j, none⟩ = false := fun j => by simp [World.frozen?, e23]

                  refine wpAnyH_all (rs := [17]) (by kernel_rfl) (by simp) ?_
                  intro i' hi'
                  obtain rfl : i' = 17 := by simpa using hi'
                  unfold wpOp
                  go_simp
                  have k17 := keep5K (W := W16) (g := g12) (v0 := .int .u64 Rk.u) (v1 := .string (strOfNums Rk.t)) (v2 := .slice aT16 nl cT16) (v3 := .int .i64 (Rk.nx : Int)) (v4 := .int .i64 (Rk.e : Int))
                  have e23b := look_put5K (v0 := .int .u64 Rk.u) (v1 := .string (strOfNums Rk.t)) (v2 := .slice aT16 nl cT16) (v3 := .int .i64 (Rk.nx : Int)) (v4 := .int .i64 (Rk.e : Int)) e23
                  obtain ⟨W17, hW17⟩ : ∃ W', W' = (((((W16.setCell ⟨g12, 0, none⟩ (.int .u64 Rk.u)).setCell ⟨g12, 1, none⟩ (.string (strOfNums Rk.t))).setCell ⟨g12, 2, none⟩ (.slice aT16 nl cT16)).setCell ⟨g12, 3, none⟩ (.int .i64 (Rk.nx : Int))).setCell ⟨g12, 4, none⟩ (.int .i64 (Rk.e : Int))) := ⟨_, rfl⟩
                  rw [← hW17] at k17 e23b ⊢
                  have S17 := S16.trans k17 (fun q f => .inr (by have f2 : q = g12 := f; omega))
                  first | refine Or.inl ⟨S17, ?_⟩ | refine ⟨S17, ?_⟩
                  have HA9 : Hid (AskD w W17 k bR rv l (upK pR 1 Rk.nx) pR gr gd vd ga kb Rk nl g15 g12) := hideH ⟨_, _, _, _, o115, _, _, _, _, _, _, k17.heap e22 (fun f => hn0 f), e23b, ints_keepK Y16 k17 (fun h b off e f => DY12 h b off e f), ints_keepK T16 k17 (fun h b off e f => DT23_16 h b off e f), r16.keep k17 (fun q f _ => by have f2 : q = g12 := f; rw [f2, c23_15]; decide) o115 (fun _ _ => rfl), b16.keep k17 (fun q f _ => by have f2 : q = g12 := f; rw [f2, c23_15]; decide) o115 (fun _ _ => rfl), lv1, li1⟩
                  clear hW17 p0 p1 p2 p3 p4 pf
                  refine wpAnyH_done (by kernel_rfl) ?_ _
                  go_wp2_with fail
                  go_meet
                  case rel => exact ⟨_, _, rfl, rfl, HA9⟩
            · unfold wpOp
              go_simp
              obtain ⟨X17, hX17⟩ : ∃ W', W' = Wd.alloc (.cells #[.int .u64 0, .string ⟨#[]⟩, .slice none 0 0, .int .i64 0, .int .i64 0] 60) := ⟨_, rfl⟩
              have kA17 : Kept (fun _ => False) Wd X17 := by rw [hX17]; exact Kept.alloc _ _
              have hg17 : X17.heap[Wd.heap.size]? = some (.cells #[.int .u64 0, .string ⟨#[]⟩, .slice none 0 0, .int .i64 0, .int .i64 0] 60 (0, 0)) := by rw [hX17]; exact heap_alloc_new Wd _
              have S17 := hS.trans kA17 (fun _ f => f.elim)
              rw [← hX17]
              obtain ⟨g17, hq17⟩ : ∃ g, g = Wd.heap.size := ⟨_, rfl⟩
              rw [← hq17] at hg17 ⊢
              have lb17 : Wb.heap.size ≤ g17 := by have := hS.size; omega
              first | refine Or.inl ⟨S17, ?_⟩ | refine ⟨S17, ?_⟩
              have RL17 := hRL.fresh kA17 8
              have key17 : ∀ q, q < Wb.heap.size → newK Wd.heap.size 8 o1 q = o1 q := fun q hq => (newK_old (Nat.lt_of_lt_of_le hq hS.size)).trans (key0 q hq)
              have cg17 : newK Wd.heap.size 8 o1 g17 = 8 := newK_new (by omega)
              generalize newK Wd.heap.size 8 o1 = o117 at RL17 key17 cg17
              clear hX17 hq17

              refine wpAnyH_all (rs := [3, 15]) (by kernel_rfl) (by simp) ?_
              intro i' hi'
              simp only [List.mem_cons, List.not_mem_nil, or_false] at hi'
              rcases hi' with rfl | rfl
              · unfold wpOp
                go_simp
                first | refine (CA.out X17 o117 RL17).mono ?_ | refine Or.inl ((CA.out X17 o117 RL17).mono ?_)
                rintro e X18 ⟨aY18, cY18, rfl, HY18⟩
                obtain ⟨o118, vB18, vI18, V18, I18, LB18, LI18, IY18, NY18, ke18, r18, b18, lv18, li18, ky18⟩ := HY18.out
                have S18 := S17.trans ky18 (fun q f => by
                  by_cases hq : q < Wb.heap.size
                  · have f2 : o117 q = 1 ∨ o117 q = 7 := f
                    rw [key17 q hq] at f2
                    exact .inl f2
                  · exact .inr (by omega))
                first | refine Or.inl ⟨S18, ?_⟩ | refine ⟨S18, ?_⟩
                have h22_18 := ky18.heap hg17 (fun f => by have f2 : o117 g17 = 1 ∨ o117 g17 = 7 := f; omega)
                have c22_18 : o118 g17 = 8 := (ke18 _ (lt_of_block hg17)).trans cg17
                have DY22_18 : Rk.ls ≠ [] → ∀ b off, aY18 = some ⟨b, off, none⟩ → b ≠ g17 := fun h b off e => by have h1 := NY18 h b off e; have h2 := lt_of_block hg17; omega

                refine wpAnyH_all (rs := [13, 15]) (by kernel_rfl) (by simp) ?_
                intro i' hi'
                simp only [List.mem_cons, List.not_mem_nil, or_false] at hi'
                rcases hi' with rfl | rfl
                · unfold wpOp
                  go_simp
                  first | refine (CT.out X18 o118 _ r18).mono ?_ | refine Or.inl ((CT.out X18 o118 _ r18).mono ?_)
                  rintro e X19 ⟨aT19, cT19, rfl, HT19⟩
                  obtain ⟨IT19, kT19, NT19⟩ := HT19.out
                  have S19 := S18.trans kT19 (fun _ f => f.elim)
                  first | refine Or.inl ⟨S19, ?_⟩ | refine ⟨S19, ?_⟩
                  have r19 := r18.later kT19
                  have b19 := b18.later kT19
                  have IY19 := ints_laterK IY18 kT19
                  have h22_19 := kT19.heap h22_18 (fun f => f)
                  have DT22_19 : Rk.ls ≠ [] → ∀ b off, aT19 = some ⟨b, off, none⟩ → b ≠ g17 := fun h b off e => by have h1 := NT19 h b off e; have h2 := lt_of_block h22_18; omega

                  refine wpAnyH_all (rs := [15]) (by kernel_rfl) (by simp) ?_
                  intro i' hi'
                  simp only [List.mem_cons, List.not_mem_nil, or_false] at hi'
                  obtain rfl := hi'
                  unfold wpOp
                  go_simp
                  obtain ⟨X20, hX20⟩ : ∃ W', W' = X19.alloc (.cells #[.int .u64 0, .string ⟨#[]⟩, .slice none 0 0, .int .i64 0, .int .i64 0] 60) := ⟨_, rfl⟩
                  have kA20 : Kept (fun _ => False) X19 X20 := by rw [hX20]; exact Kept.alloc _ _
                  have hg20 : X20.heap[X19.heap.size]? = some (.cells #[.int .u64 0, .string ⟨#[]⟩, .slice none 0 0, .int .i64 0, .int .i64 0] 60 (0, 0)) := by rw [hX20]; exact heap_alloc_new X19 _
                  have S20 := S19.trans kA20 (fun _ f => f.elim)
                  rw [← hX20]
                  obtain ⟨g20, hq20⟩ : ∃ g, g = X19.heap.size := ⟨_, rfl⟩
                  rw [← hq20] at hg20 ⊢
                  have lb20 : Wb.heap.size ≤ g20 := by have := S19.size; omega
                  first | refine Or.inl ⟨S20, ?_⟩ | refine ⟨S20, ?_⟩
                  have r20 := r19.keep kA20 (fun _ f => f.elim) (newK X19.heap.size 8 o118) (fun _ hq => newK_old hq)
                  have b20 := b19.keep kA20 (fun _ f => f.elim) (newK X19.heap.size 8 o118) (fun _ hq => newK_old hq)
                  have cg20 : newK X19.heap.size 8 o118 g20 = 8 := newK_new (by omega)
                  have h22_20 := kA20.heap h22_19 (fun f => f)
                  have c22_20 : newK X19.heap.size 8 o118 g17 = 8 := (newK_old (lt_of_block h22_19)).trans c22_18
                  have ne_20 : g17 ≠ g20 := by have := lt_of_block h22_19; omega
                  have IY20 := ints_laterK IY19 kA20
                  have DY20 : Rk.ls ≠ [] → ∀ b off, aY18 = some ⟨b, off, none⟩ → b ≠ g20 := fun h b off e => by have := ints_ltK IY19 h e; omega
                  have IT20 := ints_laterK IT19 kA20
                  have DT20 : Rk.ls ≠ [] → ∀ b off, aT19 = some ⟨b, off, none⟩ → b ≠ g20 := fun h b off e => by have := ints_ltK IT19 h e; omega
                  generalize newK X19.heap.size 8 o118 = o120 at r20 b20 cg20 c22_20
                  clear hX20 hq20

                  have hn0 : g17 ≠ g20 := by exact ne_20
                  have p0 : X20.cell? ⟨g17, 0, none⟩ = some (.int .u64 0) := by rw [cell_of_row _ _ 0 _ _ _ h22_20]; rfl
                  have p1 : X20.cell? ⟨g17, 1, none⟩ = some (.string ⟨#[]⟩) := by rw [cell_of_row _ _ 1 _ _ _ h22_20]; rfl
                  have p2 : X20.cell? ⟨g17, 2, none⟩ = some (.slice none 0 0) := by rw [cell_of_row _ _ 2 _ _ _ h22_20]; rfl
                  have p3 : X20.cell? ⟨g17, 3, none⟩ = some (.int .i64 0) := by rw [cell_of_row _ _ 3 _ _ _ h22_20]; rfl
                  have p4 : X20.cell? ⟨g17, 4, none⟩ = some (.int .i64 0) := by rw [cell_of_row _ _ 4 _ _ _ h22_20]; rfl
                  have pf : ∀ j, X20.frozen? ⟨g17, j, none⟩ = false := fun j => by simp [World.frozen?, h22_20]

                  refine wpAnyH_all (rs := [16]) (by kernel_rfl) (by simp) ?_
                  intro i' hi'
                  obtain rfl : i' = 16 := by simpa using hi'
                  unfold wpOp
                  go_simp
                  have k16 := keep5K (W := X20) (g := g17) (v0 := .int .u64 Rk.u) (v1 := .string (strOfNums Rk.t)) (v2 := .slice aY18 nl cY18) (v3 := .int .i64 (Rk.nx : Int)) (v4 := .int .i64 (Rk.e : Int))
                  have e22 := look_put5K (v0 := .int .u64 Rk.u) (v1 := .string (strOfNums Rk.t)) (v2 := .slice aY18 nl cY18) (v3 := .int .i64 (Rk.nx : Int)) (v4 := .int .i64 (Rk.e : Int)) h22_20
                  obtain ⟨W16, hW16⟩ : ∃ W', W' = (((((X20.setCell ⟨g17, 0, none⟩ (.int .u64 Rk.u)).setCell ⟨g17, 1, none⟩ (.string (strOfNums Rk.t))).setCell ⟨g17, 2, none⟩ (.slice aY18 nl cY18)).setCell ⟨g17, 3, none⟩ (.int .i64 (Rk.nx : Int))).setCell ⟨g17, 4, none⟩ (.int .i64 (Rk.e : Int))) := ⟨_, rfl⟩
                  rw [← hW16] at k16 e22 ⊢
                  have S16 := S20.trans k16 (fun q f => .inr (by have f2 : q = g17 := f; omega))
                  first | refine Or.inl ⟨S16, ?_⟩ | refine ⟨S16, ?_⟩
                  have r16 := r20.keep k16 (fun q f _ => by have f2 : q = g17 := f; rw [f2, c22_20]; decide) o120 (fun _ _ => rfl)
                  have b16 := b20.keep k16 (fun q f _ => by have f2 : q = g17 := f; rw [f2, c22_20]; decide) o120 (fun _ _ => rfl)
                  have Y16 := ints_keepK IY20 k16 (fun h b off e f => DY22_18 h b off e f)
                  have T16 := ints_keepK IT20 k16 (fun h b off e f => DT22_19 h b off e f)
                  have e23 := k16.heap hg20 (fun f => hn0 f.symm)
                  clear hW16 p0 p1 p2 p3 p4 pf
                  have p0 : W16.cell? ⟨g20, 0, none⟩ = some (.int .u64 0) := by rw [cell_of_row _ _ 0 _ _ _ e23]; rfl
                  have p1 : W16.cell? ⟨g20, 1, none⟩ = some (.string ⟨#[]⟩) := by rw [cell_of_row _ _ 1 _ _ _ e23]; rfl
                  have p2 : W16.cell? ⟨g20, 2, none⟩ = some (.slice none 0 0) := by rw [cell_of_row _ _ 2 _ _ _ e23]; rfl
                  have p3 : W16.cell? ⟨g20, 3, none⟩ = some (.int .i64 0) := by rw [cell_of_row _ _ 3 _ _ _ e23]; rfl
                  have p4 : W16.cell? ⟨g20, 4, none⟩ = some (.int .i64 0) := by rw [cell_of_row _ _ 4 _ _ _ e23]; rfl
                  have pf : ∀ j, W16.frozen? ⟨g20, j, none⟩ = false := fun j => by simp [World.frozen?, e23]

                  refine wpAnyH_all (rs := [17]) (by kernel_rfl) (by simp) ?_
                  intro i' hi'
                  obtain rfl : i' = 17 := by simpa using hi'
                  unfold wpOp
                  go_simp
                  have k17 := keep5K (W := W16) (g := g20) (v0 := .int .u64 Rk.u) (v1 := .string (strOfNums Rk.t)) (v2 := .slice aT19 nl cT19) (v3 := .int .i64 (Rk.nx : Int)) (v4 := .int .i64 (Rk.e : Int))
                  have e23b := look_put5K (v0 := .int .u64 Rk.u) (v1 := .string (strOfNums Rk.t)) (v2 := .slice aT19 nl cT19) (v3 := .int .i64 (Rk.nx : Int)) (v4 := .int .i64 (Rk.e : Int)) e23
                  obtain ⟨W17, hW17⟩ : ∃ W', W' = (((((W16.setCell ⟨g20, 0, none⟩ (.int .u64 Rk.u)).setCell ⟨g20, 1, none⟩ (.string (strOfNums Rk.t))).setCell ⟨g20, 2, none⟩ (.slice aT19 nl cT19)).setCell ⟨g20, 3, none⟩ (.int .i64 (Rk.nx : Int))).setCell ⟨g20, 4, none⟩ (.int .i64 (Rk.e : Int))) := ⟨_, rfl⟩
                  rw [← hW17] at k17 e23b ⊢
                  have S17 := S16.trans k17 (fun q f => .inr (by have f2 : q = g20 := f; omega))
                  first | refine Or.inl ⟨S17, ?_⟩ | refine ⟨S17, ?_⟩
                  have HA9 : Hid (AskD w W17 k bR rv l (upK pR 1 Rk.nx) pR gr gd vd ga kb Rk nl g17 g20) := hideH ⟨_, _, _, _, o120, _, _, _, _, _, _, k17.heap e22 (fun f => hn0 f), e23b, ints_keepK Y16 k17 (fun h b off e f => DY20 h b off e f), ints_keepK T16 k17 (fun h b off e f => DT20 h b off e f), r16.keep k17 (fun q f _ => by have f2 : q = g20 := f; rw [f2, cg20]; decide) o120 (fun _ _ => rfl), b16.keep k17 (fun q f _ => by have f2 : q = g20 := f; rw [f2, cg20]; decide) o120 (fun _ _ => rfl), lv18, li18⟩
                  clear hW17 p0 p1 p2 p3 p4 pf
                  refine wpAnyH_done (by kernel_rfl) ?_ _
                  go_wp2_with fail
                  go_meet
                  case rel => exact ⟨_, _, rfl, rfl, HA9⟩
                · unfold wpOp
                  go_simp
                  obtain ⟨X21, hX21⟩ : ∃ W', W' = X18.alloc (.cells #[.int .u64 0, .string ⟨#[]⟩, .slice none 0 0, .int .i64 0, .int .i64 0] 60) := ⟨_, rfl⟩
                  have kA21 : Kept (fun _ => False) X18 X21 := by rw [hX21]; exact Kept.alloc _ _
                  have hg21 : X21.heap[X18.heap.size]? = some (.cells #[.int .u64 0, .string ⟨#[]⟩, .slice none 0 0, .int .i64 0, .int .i64 0] 60 (0, 0)) := by rw [hX21]; exact heap_alloc_new X18 _
                  have S21 := S18.trans kA21 (fun _ f => f.elim)
                  rw [← hX21]
                  obtain ⟨g21, hq21⟩ : ∃ g, g = X18.heap.size := ⟨_, rfl⟩
                  rw [← hq21] at hg21 ⊢
                  have lb21 : Wb.heap.size ≤ g21 := by have := S18.size; omega
                  first | refine Or.inl ⟨S21, ?_⟩ | refine ⟨S21, ?_⟩
                  have r21 := r18.keep kA21 (fun _ f => f.elim) (newK X18.heap.size 8 o118) (fun _ hq => newK_old hq)
                  have b21 := b18.keep kA21 (fun _ f => f.elim) (newK X18.heap.size 8 o118) (fun _ hq => newK_old hq)
                  have cg21 : newK X18.heap.size 8 o118 g21 = 8 := newK_new (by omega)
                  have h22_21 := kA21.heap h22_18 (fun f => f)
                  have c22_21 : newK X18.heap.size 8 o118 g17 = 8 := (newK_old (lt_of_block h22_18)).trans c22_18
                  have ne_21 : g17 ≠ g21 := by have := lt_of_block h22_18; omega
                  have IY21 := ints_laterK IY18 kA21
                  have DY21 : Rk.ls ≠ [] → ∀ b off, aY18 = some ⟨b, off, none⟩ → b ≠ g21 := fun h b off e => by have := ints_ltK IY18 h e; omega
                  generalize newK X18.heap.size 8 o118 = o121 at r21 b21 cg21 c22_21
                  clear hX21 hq21

                  refine wpAnyH_all (rs := [13]) (by kernel_rfl) (by simp) ?_
                  intro i' hi'
                  simp only [List.mem_cons, List.not_mem_nil, or_false] at hi'
                  obtain rfl := hi'
                  unfold wpOp
                  go_simp
                  first | refine (CT.out X21 o121 _ r21).mono ?_ | refine Or.inl ((CT.out X21 o121 _ r21).mono ?_)
                  rintro e X22 ⟨aT22, cT22, rfl, HT22⟩
                  obtain ⟨IT22, kT22, NT22⟩ := HT22.out
                  have S22 := S21.trans kT22 (fun _ f => f.elim)
                  first | refine Or.inl ⟨S22, ?_⟩ | refine ⟨S22, ?_⟩
                  have r22 := r21.later kT22
                  have b22 := b21.later kT22
                  have IY22 := ints_laterK IY21 kT22
                  have h22_22 := kT22.heap h22_21 (fun f => f)
                  have DT22_22 : Rk.ls ≠ [] → ∀ b off, aT22 = some ⟨b, off, none⟩ → b ≠ g17 := fun h b off e => by have h1 := NT22 h b off e; have h2 := lt_of_block h22_21; omega
                  have h23_22 := kT22.heap hg21 (fun f => f)
                  have DT23_22 : Rk.ls ≠ [] → ∀ b off, aT22 = some ⟨b, off, none⟩ → b ≠ g21 := fun h b off e => by have h1 := NT22 h b off e; have h2 := lt_of_block hg21; omega

                  have hn0 : g17 ≠ g21 := by exact ne_21
                  have p0 : X22.cell? ⟨g17, 0, none⟩ = some (.int .u64 0) := by rw [cell_of_row _ _ 0 _ _ _ h22_22]; rfl
                  have p1 : X22.cell? ⟨g17, 1, none⟩ = some (.string ⟨#[]⟩) := by rw [cell_of_row _ _ 1 _ _ _ h22_22]; rfl
                  have p2 : X22.cell? ⟨g17, 2, none⟩ = some (.slice none 0 0) := by rw [cell_of_row _ _ 2 _ _ _ h22_22]; rfl
                  have p3 : X22.cell? ⟨g17, 3, none⟩ = some (.int .i64 0) := by rw [cell_of_row _ _ 3 _ _ _ h22_22]; rfl
                  have p4 : X22.cell? ⟨g17, 4, none⟩ = some (.int .i64 0) := by rw [cell_of_row _ _ 4 _ _ _ h22_22]; rfl
                  have pf : ∀ j, X22.frozen? ⟨g17, j, none⟩ = false := fun j => by simp [World.frozen?, h22_22]

                  refine wpAnyH_all (rs := [16]) (by kernel_rfl) (by simp) ?_
                  intro i' hi'
                  obtain rfl : i' = 16 := by simpa using hi'
                  unfold wpOp
                  go_simp
                  have k16 := keep5K (W := X22) (g := g17) (v0 := .int .u64 Rk.u) (v1 := .string (strOfNums Rk.t)) (v2 := .slice aY18 nl cY18) (v3 := .int .i64 (Rk.nx : Int)) (v4 := .int .i64 (Rk.e : Int))
                  have e22 := look_put5K (v0 := .int .u64 Rk.u) (v1 := .string (strOfNums Rk.t)) (v2 := .slice aY18 nl cY18) (v3 := .int .i64 (Rk.nx : Int)) (v4 := .int .i64 (Rk.e : Int)) h22_22
                  obtain ⟨W16, hW16⟩ : ∃ W', W' = (((((X22.setCell ⟨g17, 0, none⟩ (.int .u64 Rk.u)).setCell ⟨g17, 1, none⟩ (.string (strOfNums Rk.t))).setCell ⟨g17, 2, none⟩ (.slice aY18 nl cY18)).setCell ⟨g17, 3, none⟩ (.int .i64 (Rk.nx : Int))).setCell ⟨g17, 4, none⟩ (.int .i64 (Rk.e : Int))) := ⟨_, rfl⟩
                  rw [← hW16] at k16 e22 ⊢
                  have S16 := S22.trans k16 (fun q f => .inr (by have f2 : q = g17 := f; omega))
                  first | refine Or.inl ⟨S16, ?_⟩ | refine ⟨S16, ?_⟩
                  have r16 := r22.keep k16 (fun q f _ => by have f2 : q = g17 := f; rw [f2, c22_21]; decide) o121 (fun _ _ => rfl)
                  have b16 := b22.keep k16 (fun q f _ => by have f2 : q = g17 := f; rw [f2, c22_21]; decide) o121 (fun _ _ => rfl)
                  have Y16 := ints_keepK IY22 k16 (fun h b off e f => DY22_18 h b off e f)
                  have T16 := ints_keepK IT22 k16 (fun h b off e f => DT22_22 h b off e f)
                  have e23 := k16.heap h23_22 (fun f => hn0 f.symm)
                  clear hW16 p0 p1 p2 p3 p4 pf
                  have p0 : W16.cell? ⟨g21, 0, none⟩ = some (.int .u64 0) := by rw [cell_of_row _ _ 0 _ _ _ e23]; rfl
                  have p1 : W16.cell? ⟨g21, 1, none⟩ = some (.string ⟨#[]⟩) := by rw [cell_of_row _ _ 1 _ _ _ e23]; rfl
                  have p2 : W16.cell? ⟨g21, 2, none⟩ = some (.slice none 0 0) := by rw [cell_of_row _ _ 2 _ _ _ e23]; rfl
                  have p3 : W16.cell? ⟨g21, 3, none⟩ = some (.int .i64 0) := by rw [cell_of_row _ _ 3 _ _ _ e23]; rfl
                  have p4 : W16.cell? ⟨g21, 4, none⟩ = some (.int .i64 0) := by rw [cell_of_row _ _ 4 _ _ _ e23]; rfl
                  have pf : ∀ j, W16.frozen? ⟨g21, j, none⟩ = false := fun j => by simp [World.frozen?, e23]

                  refine wpAnyH_all (rs := [17]) (by kernel_rfl) (by simp) ?_
                  intro i' hi'
                  obtain rfl : i' = 17 := by simpa using hi'
                  unfold wpOp
                  go_simp
                  have k17 := keep5K (W := W16) (g := g21) (v0 := .int .u64 Rk.u) (v1 := .string (strOfNums Rk.t)) (v2 := .slice aT22 nl cT22) (v3 := .int .i64 (Rk.nx : Int)) (v4 := .int .i64 (Rk.e : Int))
                  have e23b := look_put5K (v0 := .int .u64 Rk.u) (v1 := .string (strOfNums Rk.t)) (v2 := .slice aT22 nl cT22) (v3 := .int .i64 (Rk.nx : Int)) (v4 := .int .i64 (Rk.e : Int)) e23
                  obtain ⟨W17, hW17⟩ : ∃ W', W' = (((((W16.setCell ⟨g21, 0, none⟩ (.int .u64 Rk.u)).setCell ⟨g21, 1, none⟩ (.string (strOfNums Rk.t))).setCell ⟨g21, 2, none⟩ (.slice aT22 nl cT22)).setCell ⟨g21, 3, none⟩ (.int .i64 (Rk.nx : Int))).setCell ⟨g21, 4, none⟩ (.int .i64 (Rk.e : Int))) := ⟨_, rfl⟩
                  rw [← hW17] at k17 e23b ⊢
                  have S17 := S16.trans k17 (fun q f => .inr (by have f2 : q = g21 := f; omega))
                  first | refine Or.inl ⟨S17, ?_⟩ | refine ⟨S17, ?_⟩
                  have HA9 : Hid (AskD w W17 k bR rv l (upK pR 1 Rk.nx) pR gr gd vd ga kb Rk nl g17 g21) := hideH ⟨_, _, _, _, o121, _, _, _, _, _, _, k17.heap e22 (fun f => hn0 f), e23b, ints_keepK Y16 k17 (fun h b off e f => DY21 h b off e f), ints_keepK T16 k17 (fun h b off e f => DT23_22 h b off e f), r16.keep k17 (fun q f _ => by have f2 : q = g21 := f; rw [f2, cg21]; decide) o121 (fun _ _ => rfl), b16.keep k17 (fun q f _ => by have f2 : q = g21 := f; rw [f2, cg21]; decide) o121 (fun _ _ => rfl), lv18, li18⟩
                  clear hW17 p0 p1 p2 p3 p4 pf
                  refine wpAnyH_done (by kernel_rfl) ?_ _
                  go_wp2_with fail
                  go_meet
                  case rel => exact ⟨_, _, rfl, rfl, HA9⟩
              · unfold wpOp
                go_simp
                obtain ⟨X23, hX23⟩ : ∃ W', W' = X17.alloc (.cells #[.int .u64 0, .string ⟨#[]⟩, .slice none 0 0, .int .i64 0, .int .i64 0] 60) := ⟨_, rfl⟩
                have kA23 : Kept (fun _ => False) X17 X23 := by rw [hX23]; exact Kept.alloc _ _
                have hg23 : X23.heap[X17.heap.size]? = some (.cells #[.int .u64 0, .string ⟨#[]⟩, .slice none 0 0, .int .i64 0, .int .i64 0] 60 (0, 0)) := by rw [hX23]; exact heap_alloc_new X17 _
                have S23 := S17.trans kA23 (fun _ f => f.elim)
                rw [← hX23]
                obtain ⟨g23, hq23⟩ : ∃ g, g = X17.heap.size := ⟨_, rfl⟩
                rw [← hq23] at hg23 ⊢
                have lb23 : Wb.heap.size ≤ g23 := by have := S17.size; omega
                first | refine Or.inl ⟨S23, ?_⟩ | refine ⟨S23, ?_⟩
                have RL23 := RL17.fresh kA23 8
                have key23 : ∀ q, q < Wb.heap.size → newK X17.heap.size 8 o117 q = o1 q := fun q hq => (newK_old (Nat.lt_of_lt_of_le hq S17.size)).trans (key17 q hq)
                have cg23 : newK X17.heap.size 8 o117 g23 = 8 := newK_new (by omega)
                have h22_23 := kA23.heap hg17 (fun f => f)
                have c22_23 : newK X17.heap.size 8 o117 g17 = 8 := (newK_old (lt_of_block hg17)).trans cg17
                have ne_23 : g17 ≠ g23 := by have := lt_of_block hg17; omega
                generalize newK X17.heap.size 8 o117 = o123 at RL23 key23 cg23 c22_23
                clear hX23 hq23

                refine wpAnyH_all (rs := [3]) (by kernel_rfl) (by simp) ?_
                intro i' hi'
                simp only [List.mem_cons, List.not_mem_nil, or_false] at hi'
                obtain rfl := hi'
                unfold wpOp
                go_simp
                first | refine (CA.out X23 o123 RL23).mono ?_ | refine Or.inl ((CA.out X23 o123 RL23).mono ?_)
                rintro e X24 ⟨aY24, cY24, rfl, HY24⟩
                obtain ⟨o124, vB24, vI24, V24, I24, LB24, LI24, IY24, NY24, ke24, r24, b24, lv24, li24, ky24⟩ := HY24.out
                have S24 := S23.trans ky24 (fun q f => by
                  by_cases hq : q < Wb.heap.size
                  · have f2 : o123 q = 1 ∨ o123 q = 7 := f
                    rw [key23 q hq] at f2
                    exact .inl f2
                  · exact .inr (by omega))
                first | refine Or.inl ⟨S24, ?_⟩ | refine ⟨S24, ?_⟩
                have h22_24 := ky24.heap h22_23 (fun f => by have f2 : o123 g17 = 1 ∨ o123 g17 = 7 := f; omega)
                have c22_24 : o124 g17 = 8 := (ke24 _ (lt_of_block h22_23)).trans c22_23
                have DY22_24 : Rk.ls ≠ [] → ∀ b off, aY24 = some ⟨b, off, none⟩ → b ≠ g17 := fun h b off e => by have h1 := NY24 h b off e; have h2 := lt_of_block h22_23; omega
                have h23_24 := ky24.heap hg23 (fun f => by have f2 : o123 g23 = 1 ∨ o123 g23 = 7 := f; omega)
                have c23_24 : o124 g23 = 8 := (ke24 _ (lt_of_block hg23)).trans cg23
                have DY23_24 : Rk.ls ≠ [] → ∀ b off, aY24 = some ⟨b, off, none⟩ → b ≠ g23 := fun h b off e => by have h1 := NY24 h b off e; have h2 := lt_of_block hg23; omega

                refine wpAnyH_all (rs := [13]) (by kernel_rfl) (by simp) ?_
                intro i' hi'
                simp only [List.mem_cons, List.not_mem_nil, or_false] at hi'
                obtain rfl := hi'
                unfold wpOp
                go_simp
                first | refine (CT.out X24 o124 _ r24).mono ?_ | refine Or.inl ((CT.out X24 o124 _ r24).mono ?_)
                rintro e X25 ⟨aT25, cT25, rfl, HT25⟩
                obtain ⟨IT25, kT25, NT25⟩ := HT25.out
                have S25 := S24.trans kT25 (fun _ f => f.elim)
                first | refine Or.inl ⟨S25, ?_⟩ | refine ⟨S25, ?_⟩
                have r25 := r24.later kT25
                have b25 := b24.later kT25
                have IY25 := ints_laterK IY24 kT25
                have h22_25 := kT25.heap h22_24 (fun f => f)
                have DT22_25 : Rk.ls ≠ [] → ∀ b off, aT25 = some ⟨b, off, none⟩ → b ≠ g17 := fun h b off e => by have h1 := NT25 h b off e; have h2 := lt_of_block h22_24; omega
                have h23_25 := kT25.heap h23_24 (fun f => f)
                have DT23_25 : Rk.ls ≠ [] → ∀ b off, aT25 = some ⟨b, off, none⟩ → b ≠ g23 := fun h b off e => by have h1 := NT25 h b off e; have h2 := lt_of_block h23_24; omega

                have hn0 : g17 ≠ g23 := by exact ne_23
                have p0 : X25.cell? ⟨g17, 0, none⟩ = some (.int .u64 0) := by rw [cell_of_row _ _ 0 _ _ _ h22_25]; rfl
                have p1 : X25.cell? ⟨g17, 1, none⟩ = some (.string ⟨#[]⟩) := by rw [cell_of_row _ _ 1 _ _ _ h22_25]; rfl
                have p2 : X25.cell? ⟨g17, 2, none⟩ = some (.slice none 0 0) := by rw [cell_of_row _ _ 2 _ _ _ h22_25]; rfl
                have p3 : X25.cell? ⟨g17, 3, none⟩ = some (.int .i64 0) := by rw [cell_of_row _ _ 3 _ _ _ h22_25]; rfl
                have p4 : X25.cell? ⟨g17, 4, none⟩ = some (.int .i64 0) := by rw [cell_of_row _ _ 4 _ _ _ h22_25]; rfl
                have pf : ∀ j, X25.frozen? ⟨g17, j, none⟩ = false := fun j => by simp [World.frozen?, h22_25]

                refine wpAnyH_all (rs := [16]) (by kernel_rfl) (by simp) ?_
                intro i' hi'
                obtain rfl : i' = 16 := by simpa using hi'
                unfold wpOp
                go_simp
                have k16 := keep5K (W := X25) (g := g17) (v0 := .int .u64 Rk.u) (v1 := .string (strOfNums Rk.t)) (v2 := .slice aY24 nl cY24) (v3 := .int .i64 (Rk.nx : Int)) (v4 := .int .i64 (Rk.e : Int))
                have e22 := look_put5K (v0 := .int .u64 Rk.u) (v1 := .string (strOfNums Rk.t)) (v2 := .slice aY24 nl cY24) (v3 := .int .i64 (Rk.nx : Int)) (v4 := .int .i64 (Rk.e : Int)) h22_25
                obtain ⟨W16, hW16⟩ : ∃ W', W' = (((((X25.setCell ⟨g17, 0, none⟩ (.int .u64 Rk.u)).setCell ⟨g17, 1, none⟩ (.string (strOfNums Rk.t))).setCell ⟨g17, 2, none⟩ (.slice aY24 nl cY24)).setCell ⟨g17, 3, none⟩ (.int .i64 (Rk.nx : Int))).setCell ⟨g17, 4, none⟩ (.int .i64 (Rk.e : Int))) := ⟨_, rfl⟩
                rw [← hW16] at k16 e22 ⊢
                have S16 := S25.trans k16 (fun q f => .inr (by have f2 : q = g17 := f; omega))
                first | refine Or.inl ⟨S16, ?_⟩ | refine ⟨S16, ?_⟩
                have r16 := r25.keep k16 (fun q f _ => by have f2 : q = g17 := f; rw [f2, c22_24]; decide) o124 (fun _ _ => rfl)
                have b16 := b25.keep k16 (fun q f _ => by have f2 : q = g17 := f; rw [f2, c22_24]; decide) o124 (fun _ _ => rfl)
                have Y16 := ints_keepK IY25 k16 (fun h b off e f => DY22_24 h b off e f)
                have T16 := ints_keepK IT25 k16 (fun h b off e f => DT22_25 h b off e f)
                have e23 := k16.heap h23_25 (fun f => hn0 f.symm)
                clear hW16 p0 p1 p2 p3 p4 pf
                have p0 : W16.cell? ⟨g23, 0, none⟩ = some (.int .u64 0) := by rw [cell_of_row _ _ 0 _ _ _ e23]; rfl
                have p1 : W16.cell? ⟨g23, 1, none⟩ = some (.string ⟨#[]⟩) := by rw [cell_of_row _ _ 1 _ _ _ e23]; rfl
                have p2 : W16.cell? ⟨g23, 2, none⟩ = some (.slice none 0 0) := by rw [cell_of_row _ _ 2 _ _ _ e23]; rfl
                have p3 : W16.cell? ⟨g23, 3, none⟩ = some (.int .i64 0) := by rw [cell_of_row _ _ 3 _ _ _ e23]; rfl
                have p4 : W16.cell? ⟨g23, 4, none⟩ = some (.int .i64 0) := by rw [cell_of_row _ _ 4 _ _ _ e23]; rfl
                have pf : ∀ j, W16.frozen? ⟨g23, j, none⟩ = false := fun j => by simp [World.frozen?, e23]

                refine wpAnyH_all (rs := [17]) (by kernel_rfl) (by simp) ?_
                intro i' hi'
                obtain rfl : i' = 17 := by simpa using hi'
                unfold wpOp
                go_simp
                have k17 := keep5K (W := W16) (g := g23) (v0 := .int .u64 Rk.u) (v1 := .string (strOfNums Rk.t)) (v2 := .slice aT25 nl cT25) (v3 := .int .i64 (Rk.nx : Int)) (v4 := .int .i64 (Rk.e : Int))
                have e23b := look_put5K (v0 := .int .u64 Rk.u) (v1 := .string (strOfNums Rk.t)) (v2 := .slice aT25 nl cT25) (v3 := .int .i64 (Rk.nx : Int)) (v4 := .int .i64 (Rk.e : Int)) e23
                obtain ⟨W17, hW17⟩ : ∃ W', W' = (((((W16.setCell ⟨g23, 0, none⟩ (.int .u64 Rk.u)).setCell ⟨g23, 1, none⟩ (.string (strOfNums Rk.t))).setCell ⟨g23, 2, none⟩ (.slice aT25 nl cT25)).setCell ⟨g23, 3, none⟩ (.int .i64 (Rk.nx : Int))).setCell ⟨g23, 4, none⟩ (.int .i64 (Rk.e : Int))) := ⟨_, rfl⟩
                rw [← hW17] at k17 e23b ⊢
                have S17 := S16.trans k17 (fun q f => .inr (by have f2 : q = g23 := f; omega))
                first | refine Or.inl ⟨S17, ?_⟩ | refine ⟨S17, ?_⟩
                have HA9 : Hid (AskD w W17 k bR rv l (upK pR 1 Rk.nx) pR gr gd vd ga kb Rk nl g17 g23) := hideH ⟨_, _, _, _, o124, _, _, _, _, _, _, k17.heap e22 (fun f => hn0 f), e23b, ints_keepK Y16 k17 (fun h b off e f => DY23_24 h b off e f), ints_keepK T16 k17 (fun h b off e f => DT23_25 h b off e f), r16.keep k17 (fun q f _ => by have f2 : q = g23 := f; rw [f2, c23_24]; decide) o124 (fun _ _ => rfl), b16.keep k17 (fun q f _ => by have f2 : q = g23 := f; rw [f2, c23_24]; decide) o124 (fun _ _ => rfl), lv24, li24⟩
                clear hW17 p0 p1 p2 p3 p4 pf
                refine wpAnyH_done (by kernel_rfl) ?_ _
                go_wp2_with fail
                go_meet
                case rel => exact ⟨_, _, rfl, rfl, HA9⟩
            · unfold wpOp
              go_simp
              obtain ⟨X26, hX26⟩ : ∃ W', W' = Wd.alloc (.cells #[.int .u64 0, .string ⟨#[]⟩, .slice none 0 0, .int .i64 0, .int .i64 0] 60) := ⟨_, rfl⟩
              have kA26 : Kept (fun _ => False) Wd X26 := by rw [hX26]; exact Kept.alloc _ _
              have hg26 : X26.heap[Wd.heap.size]? = some (.cells #[.int .u64 0, .string ⟨#[]⟩, .slice none 0 0, .int .i64 0, .int .i64 0] 60 (0, 0)) := by rw [hX26]; exact heap_alloc_new Wd _
              have S26 := hS.trans kA26 (fun _ f => f.elim)
              rw [← hX26]
              obtain ⟨g26, hq26⟩ : ∃ g, g = Wd.heap.size := ⟨_, rfl⟩
              rw [← hq26] at hg26 ⊢
              have lb26 : Wb.heap.size ≤ g26 := by have := hS.size; omega
              first | refine Or.inl ⟨S26, ?_⟩ | refine ⟨S26, ?_⟩
              have RL26 := hRL.fresh kA26 8
              have key26 : ∀ q, q < Wb.heap.size → newK Wd.heap.size 8 o1 q = o1 q := fun q hq => (newK_old (Nat.lt_of_lt_of_le hq hS.size)).trans (key0 q hq)
              have cg26 : newK Wd.heap.size 8 o1 g26 = 8 := newK_new (by omega)
              generalize newK Wd.heap.size 8 o1 = o126 at RL26 key26 cg26
              clear hX26 hq26

              refine wpAnyH_all (rs := [3, 14]) (by kernel_rfl) (by simp) ?_
              intro i' hi'
              simp only [List.mem_cons, List.not_mem_nil, or_false] at hi'
              rcases hi' with rfl | rfl
              · unfold wpOp
                go_simp
                first | refine (CA.out X26 o126 RL26).mono ?_ | refine Or.inl ((CA.out X26 o126 RL26).mono ?_)
                rintro e X27 ⟨aY27, cY27, rfl, HY27⟩
                obtain ⟨o127, vB27, vI27, V27, I27, LB27, LI27, IY27, NY27, ke27, r27, b27, lv27, li27, ky27⟩ := HY27.out
                have S27 := S26.trans ky27 (fun q f => by
                  by_cases hq : q < Wb.heap.size
                  · have f2 : o126 q = 1 ∨ o126 q = 7 := f
                    rw [key26 q hq] at f2
                    exact .inl f2
                  · exact .inr (by omega))
                first | refine Or.inl ⟨S27, ?_⟩ | refine ⟨S27, ?_⟩
                have h23_27 := ky27.heap hg26 (fun f => by have f2 : o126 g26 = 1 ∨ o126 g26 = 7 := f; omega)
                have c23_27 : o127 g26 = 8 := (ke27 _ (lt_of_block hg26)).trans cg26
                have DY23_27 : Rk.ls ≠ [] → ∀ b off, aY27 = some ⟨b, off, none⟩ → b ≠ g26 := fun h b off e => by have h1 := NY27 h b off e; have h2 := lt_of_block hg26; omega

                refine wpAnyH_all (rs := [13, 14]) (by kernel_rfl) (by simp) ?_
                intro i' hi'
                simp only [List.mem_cons, List.not_mem_nil, or_false] at hi'
                rcases hi' with rfl | rfl
                · unfold wpOp
                  go_simp
                  first | refine (CT.out X27 o127 _ r27).mono ?_ | refine Or.inl ((CT.out X27 o127 _ r27).mono ?_)
                  rintro e X28 ⟨aT28, cT28, rfl, HT28⟩
                  obtain ⟨IT28, kT28, NT28⟩ := HT28.out
                  have S28 := S27.trans kT28 (fun _ f => f.elim)
                  first | refine Or.inl ⟨S28, ?_⟩ | refine ⟨S28, ?_⟩
                  have r28 := r27.later kT28
                  have b28 := b27.later kT28
                  have IY28 := ints_laterK IY27 kT28
                  have h23_28 := kT28.heap h23_27 (fun f => f)
                  have DT23_28 : Rk.ls ≠ [] → ∀ b off, aT28 = some ⟨b, off, none⟩ → b ≠ g26 := fun h b off e => by have h1 := NT28 h b off e; have h2 := lt_of_block h23_27; omega

                  refine wpAnyH_all (rs := [14]) (by kernel_rfl) (by simp) ?_
                  intro i' hi'
                  simp only [List.mem_cons, List.not_mem_nil, or_false] at hi'
                  obtain rfl := hi'
                  unfold wpOp
                  go_simp
                  obtain ⟨X29, hX29⟩ : ∃ W', W' = X28.alloc (.cells #[.int .u64 0, .string ⟨#[]⟩, .slice none 0 0, .int .i64 0, .int .i64 0] 60) := ⟨_, rfl⟩
                  have kA29 : Kept (fun _ => False) X28 X29 := by rw [hX29]; exact Kept.alloc _ _
                  have hg29 : X29.heap[X28.heap.size]? = some (.cells #[.int .u64 0, .string ⟨#[]⟩, .slice none 0 0, .int .i64 0, .int .i64 0] 60 (0, 0)) := by rw [hX29]; exact heap_alloc_new X28 _
                  have S29 := S28.trans kA29 (fun _ f => f.elim)
                  rw [← hX29]
                  obtain ⟨g29, hq29⟩ : ∃ g, g = X28.heap.size := ⟨_, rfl⟩
                  rw [← hq29] at hg29 ⊢
                  have lb29 : Wb.heap.size ≤ g29 := by have := S28.size; omega
                  first | refine Or.inl ⟨S29, ?_⟩ | refine ⟨S29, ?_⟩
                  have r29 := r28.keep kA29 (fun _ f => f.elim) (newK X28.heap.size 8 o127) (fun _ hq => newK_old hq)
                  have b29 := b28.keep kA29 (fun _ f => f.elim) (newK X28.heap.size 8 o127) (fun _ hq => newK_old hq)
                  have cg29 : newK X28.heap.size 8 o127 g29 = 8 := newK_new (by omega)
                  have h23_29 := kA29.heap h23_28 (fun f => f)
                  have c23_29 : newK X28.heap.size 8 o127 g26 = 8 := (newK_old (lt_of_block h23_28)).trans c23_27
                  have ne_29 : g26 ≠ g29 := by have := lt_of_block h23_28; omega
                  have IY29 := ints_laterK IY28 kA29
                  have DY29 : Rk.ls ≠ [] → ∀ b off, aY27 = some ⟨b, off, none⟩ → b ≠ g29 := fun h b off e => by have := ints_ltK IY28 h e; omega
                  have IT29 := ints_laterK IT28 kA29
                  have DT29 : Rk.ls ≠ [] → ∀ b off, aT28 = some ⟨b, off, none⟩ → b ≠ g29 := fun h b off e => by have := ints_ltK IT28 h e; omega
                  generalize newK X28.heap.size 8 o127 = o129 at r29 b29 cg29 c23_29
                  clear hX29 hq29

                  have hn0 : g29 ≠ g26 := by exact fun e => ne_29 e.symm
                  have p0 : X29.cell? ⟨g29, 0, none⟩ = some (.int .u64 0) := by rw [cell_of_row _ _ 0 _ _ _ hg29]; rfl
                  have p1 : X29.cell? ⟨g29, 1, none⟩ = some (.string ⟨#[]⟩) := by rw [cell_of_row _ _ 1 _ _ _ hg29]; rfl
                  have p2 : X29.cell? ⟨g29, 2, none⟩ = some (.slice none 0 0) := by rw [cell_of_row _ _ 2 _ _ _ hg29]; rfl
                  have p3 : X29.cell? ⟨g29, 3, none⟩ = some (.int .i64 0) := by rw [cell_of_row _ _ 3 _ _ _ hg29]; rfl
                  have p4 : X29.cell? ⟨g29, 4, none⟩ = some (.int .i64 0) := by rw [cell_of_row _ _ 4 _ _ _ hg29]; rfl
                  have pf : ∀ j, X29.frozen? ⟨g29, j, none⟩ = false := fun j => by simp [World.frozen?, hg29]

                  refine wpAnyH_all (rs := [16]) (by kernel_rfl) (by simp) ?_
                  intro i' hi'
                  obtain rfl : i' = 16 := by simpa using hi'
                  unfold wpOp
                  go_simp
                  have k16 := keep5K (W := X29) (g := g29) (v0 := .int .u64 Rk.u) (v1 := .string (strOfNums Rk.t)) (v2 := .slice aY27 nl cY27) (v3 := .int .i64 (Rk.nx : Int)) (v4 := .int .i64 (Rk.e : Int))
                  have e22 := look_put5K (v0 := .int .u64 Rk.u) (v1 := .string (strOfNums Rk.t)) (v2 := .slice aY27 nl cY27) (v3 := .int .i64 (Rk.nx : Int)) (v4 := .int .i64 (Rk.e : Int)) hg29
                  obtain ⟨W16, hW16⟩ : ∃ W', W' = (((((X29.setCell ⟨g29, 0, none⟩ (.int .u64 Rk.u)).setCell ⟨g29, 1, none⟩ (.string (strOfNums Rk.t))).setCell ⟨g29, 2, none⟩ (.slice aY27 nl cY27)).setCell ⟨g29, 3, none⟩ (.int .i64 (Rk.nx : Int))).setCell ⟨g29, 4, none⟩ (.int .i64 (Rk.e : Int))) := ⟨_, rfl⟩
                  rw [← hW16] at k16 e22 ⊢
                  have S16 := S29.trans k16 (fun q f => .inr (by have f2 : q = g29 := f; omega))
                  first | refine Or.inl ⟨S16, ?_⟩ | refine ⟨S16, ?_⟩
                  have r16 := r29.keep k16 (fun q f _ => by have f2 : q = g29 := f; rw [f2, cg29]; decide) o129 (fun _ _ => rfl)
                  have b16 := b29.keep k16 (fun q f _ => by have f2 : q = g29 := f; rw [f2, cg29]; decide) o129 (fun _ _ => rfl)
                  have Y16 := ints_keepK IY29 k16 (fun h b off e f => DY29 h b off e f)
                  have T16 := ints_keepK IT29 k16 (fun h b off e f => DT29 h b off e f)
                  have e23 := k16.heap h23_29 (fun f => hn0 f.symm)
                  clear hW16 p0 p1 p2 p3 p4 pf
                  have p0 : W16.cell? ⟨g26, 0, none⟩ = some (.int .u64 0) := by rw [cell_of_row _ _ 0 _ _ _ e23]; rfl
                  have p1 : W16.cell? ⟨g26, 1, none⟩ = some (.string ⟨#[]⟩) := by rw [cell_of_row _ _ 1 _ _ _ e23]; rfl
                  have p2 : W16.cell? ⟨g26, 2, none⟩ = some (.slice none 0 0) := by rw [cell_of_row _ _ 2 _ _ _ e23]; rfl
                  have p3 : W16.cell? ⟨g26, 3, none⟩ = some (.int .i64 0) := by rw [cell_of_row _ _ 3 _ _ _ e23]; rfl
                  have p4 : W16.cell? ⟨g26, 4, none⟩ = some (.int .i64 0) := by rw [cell_of_row _ _ 4 _ _ _ e23]; rfl
                  have pf : ∀ j, W16.frozen? ⟨g26, j, none⟩ = false := fun j => by simp [World.frozen?, e23]

                  refine wpAnyH_all (rs := [17]) (by kernel_rfl) (by simp) ?_
                  intro i' hi'
                  obtain rfl : i' = 17 := by simpa using hi'
                  unfold wpOp
                  go_simp
                  have k17 := keep5K (W := W16) (g := g26) (v0 := .int .u64 Rk.u) (v1 := .string (strOfNums Rk.t)) (v2 := .slice aT28 nl cT28) (v3 := .int .i64 (Rk.nx : Int)) (v4 := .int .i64 (Rk.e : Int))
                  have e23b := look_put5K (v0 := .int .u64 Rk.u) (v1 := .string (strOfNums Rk.t)) (v2 := .slice aT28 nl cT28) (v3 := .int .i64 (Rk.nx : Int)) (v4 := .int .i64 (Rk.e : Int)) e23
                  obtain ⟨W17, hW17⟩ : ∃ W', W' = (((((W16.setCell ⟨g26, 0, none⟩ (.int .u64 Rk.u)).setCell ⟨g26, 1, none⟩ (.string (strOfNums Rk.t))).setCell ⟨g26, 2, none⟩ (.slice aT28 nl cT28)).setCell ⟨g26, 3, none⟩ (.int .i64 (Rk.nx : Int))).setCell ⟨g26, 4, none⟩ (.int .i64 (Rk.e : Int))) := ⟨_, rfl⟩
                  rw [← hW17] at k17 e23b ⊢
                  have S17 := S16.trans k17 (fun q f => .inr (by have f2 : q = g26 := f; omega))
                  first | refine Or.inl ⟨S17, ?_⟩ | refine ⟨S17, ?_⟩
                  have HA9 : Hid (AskD w W17 k bR rv l (upK pR 1 Rk.nx) pR gr gd vd ga kb Rk nl g29 g26) := hideH ⟨_, _, _, _, o129, _, _, _, _, _, _, k17.heap e22 (fun f => hn0 f), e23b, ints_keepK Y16 k17 (fun h b off e f => DY23_27 h b off e f), ints_keepK T16 k17 (fun h b off e f => DT23_28 h b off e f), r16.keep k17 (fun q f _ => by have f2 : q = g26 := f; rw [f2, c23_29]; decide) o129 (fun _ _ => rfl), b16.keep k17 (fun q f _ => by have f2 : q = g26 := f; rw [f2, c23_29]; decide) o129 (fun _ _ => rfl), lv27, li27⟩
                  clear hW17 p0 p1 p2 p3 p4 pf
                  refine wpAnyH_done (by kernel_rfl) ?_ _
                  go_wp2_with fail
                  go_meet
                  case rel => exact ⟨_, _, rfl, rfl, HA9⟩
                · unfold wpOp
                  go_simp
                  obtain ⟨X30, hX30⟩ : ∃ W', W' = X27.alloc (.cells #[.int .u64 0, .string ⟨#[]⟩, .slice none 0 0, .int .i64 0, .int .i64 0] 60) := ⟨_, rfl⟩
                  have kA30 : Kept (fun _ => False) X27 X30 := by rw [hX30]; exact Kept.alloc _ _
                  have hg30 : X30.heap[X27.heap.size]? = some (.cells #[.int .u64 0, .string ⟨#[]⟩, .slice none 0 0, .int .i64 0, .int .i64 0] 60 (0, 0)) := by rw [hX30]; exact heap_alloc_new X27 _
                  have S30 := S27.trans kA30 (fun _ f => f.elim)
                  rw [← hX30]
                  obtain ⟨g30, hq30⟩ : ∃ g, g = X27.heap.size := ⟨_, rfl⟩
                  rw [← hq30] at hg30 ⊢
                  have lb30 : Wb.heap.size ≤ g30 := by have := S27.size; omega
                  first | refine Or.inl ⟨S30, ?_⟩ | refine ⟨S30, ?_⟩
                  have r30 := r27.keep kA30 (fun _ f => f.elim) (newK X27.heap.size 8 o127) (fun _ hq => newK_old hq)
                  have b30 := b27.keep kA30 (fun _ f => f.elim) (newK X27.heap.size 8 o127) (fun _ hq => newK_old hq)
                  have cg30 : newK X27.heap.size 8 o127 g30 = 8 := newK_new (by omega)
                  have h23_30 := kA30.heap h23_27 (fun f => f)
                  have c23_30 : newK X27.heap.size 8 o127 g26 = 8 := (newK_old (lt_of_block h23_27)).trans c23_27
                  have ne_30 : g26 ≠ g30 := by have := lt_of_block h23_27; omega
                  have IY30 := ints_laterK IY27 kA30
                  have DY30 : Rk.ls ≠ [] → ∀ b off, aY27 = some ⟨b, off, none⟩ → b ≠ g30 := fun h b off e => by have := ints_ltK IY27 h e; omega
                  generalize newK X27.heap.size 8 o127 = o130 at r30 b30 cg30 c23_30
                  clear hX30 hq30

                  refine wpAnyH_all (rs := [13]) (by kernel_rfl) (by simp) ?_
                  intro i' hi'
                  simp only [List.mem_cons, List.not_mem_nil, or_false] at hi'
                  obtain rfl := hi'
                  unfold wpOp
                  go_simp
                  first | refine (CT.out X30 o130 _ r30).mono ?_ | refine Or.inl ((CT.out X30 o130 _ r30).mono ?_)
                  rintro e X31 ⟨aT31, cT31, rfl, HT31⟩
                  obtain ⟨IT31, kT31, NT31⟩ := HT31.out
                  have S31 := S30.trans kT31 (fun _ f => f.elim)
                  first | refine Or.inl ⟨S31, ?_⟩ | refine ⟨S31, ?_⟩
                  have r31 := r30.later kT31
                  have b31 := b30.later kT31
                  have IY31 := ints_laterK IY30 kT31
                  have h23_31 := kT31.heap h23_30 (fun f => f)
                  have DT23_31 : Rk.ls ≠ [] → ∀ b off, aT31 = some ⟨b, off, none⟩ → b ≠ g26 := fun h b off e => by have h1 := NT31 h b off e; have h2 := lt_of_block h23_30; omega
                  have h22_31 := kT31.heap hg30 (fun f => f)
                  have DT22_31 : Rk.ls ≠ [] → ∀ b off, aT31 = some ⟨b, off, none⟩ → b ≠ g30 := fun h b off e => by have h1 := NT31 h b off e; have h2 := lt_of_block hg30; omega

                  have hn0 : g30 ≠ g26 := by exact fun e => ne_30 e.symm
                  have p0 : X31.cell? ⟨g30, 0, none⟩ = some (.int .u64 0) := by rw [cell_of_row _ _ 0 _ _ _ h22_31]; rfl
                  have p1 : X31.cell? ⟨g30, 1, none⟩ = some (.string ⟨#[]⟩) := by rw [cell_of_row _ _ 1 _ _ _ h22_31]; rfl
                  have p2 : X31.cell? ⟨g30, 2, none⟩ = some (.slice none 0 0) := by rw [cell_of_row _ _ 2 _ _ _ h22_31]; rfl
                  have p3 : X31.cell? ⟨g30, 3, none⟩ = some (.int .i64 0) := by rw [cell_of_row _ _ 3 _ _ _ h22_31]; rfl
                  have p4 : X31.cell? ⟨g30, 4, none⟩ = some (.int .i64 0) := by rw [cell_of_row _ _ 4 _ _ _ h22_31]; rfl
                  have pf : ∀ j, X31.frozen? ⟨g30, j, none⟩ = false := fun j => by simp [World.frozen?, h22_31]

                  refine wpAnyH_all (rs := [16]) (by kernel_rfl) (by simp) ?_
                  intro i' hi'
                  obtain rfl : i' = 16 := by simpa using hi'
                  unfold wpOp
                  go_simp
                  have k16 := keep5K (W := X31) (g := g30) (v0 := .int .u64 Rk.u) (v1 := .string (strOfNums Rk.t)) (v2 := .slice aY27 nl cY27) (v3 := .int .i64 (Rk.nx : Int)) (v4 := .int .i64 (Rk.e : Int))
                  have e22 := look_put5K (v0 := .int .u64 Rk.u) (v1 := .string (strOfNums Rk.t)) (v2 := .slice aY27 nl cY27) (v3 := .int .i64 (Rk.nx : Int)) (v4 := .int .i64 (Rk.e : Int)) h22_31
                  obtain ⟨W16, hW16⟩ : ∃ W', W' = (((((X31.setCell ⟨g30, 0, none⟩ (.int .u64 Rk.u)).setCell ⟨g30, 1, none⟩ (.string (strOfNums Rk.t))).setCell ⟨g30, 2, none⟩ (.slice aY27 nl cY27)).setCell ⟨g30, 3, none⟩ (.int .i64 (Rk.nx : Int))).setCell ⟨g30, 4, none⟩ (.int .i64 (Rk.e : Int))) := ⟨_, rfl⟩
                  rw [← hW16] at k16 e22 ⊢
                  have S16 := S31.trans k16 (fun q f => .inr (by have f2 : q = g30 := f; omega))
                  first | refine Or.inl ⟨S16, ?_⟩ | refine ⟨S16, ?_⟩
                  have r16 := r31.keep k16 (fun q f _ => by have f2 : q = g30 := f; rw [f2, cg30]; decide) o130 (fun _ _ => rfl)
                  have b16 := b31.keep k16 (fun q f _ => by have f2 : q = g30 := f; rw [f2, cg30]; decide) o130 (fun _ _ => rfl)
                  have Y16 := ints_keepK IY31 k16 (fun h b off e f => DY30 h b off e f)
                  have T16 := ints_keepK IT31 k16 (fun h b off e f => DT22_31 h b off e f)
                  have e23 := k16.heap h23_31 (fun f => hn0 f.symm)
                  clear hW16 p0 p1 p2 p3 p4 pf
                  have p0 : W16.cell? ⟨g26, 0, none⟩ = some (.int .u64 0) := by rw [cell_of_row _ _ 0 _ _ _ e23]; rfl
                  have p1 : W16.cell? ⟨g26, 1, none⟩ = some (.string ⟨#[]⟩) := by rw [cell_of_row _ _ 1 _ _ _ e23]; rfl
                  have p2 : W16.cell? ⟨g26, 2, none⟩ = some (.slice none 0 0) := by rw [cell_of_row _ _ 2 _ _ _ e23]; rfl
                  have p3 : W16.cell? ⟨g26, 3, none⟩ = some (.int .i64 0) := by rw [cell_of_row _ _ 3 _ _ _ e23]; rfl
                  have p4 : W16.cell? ⟨g26, 4, none⟩ = some (.int .i64 0) := by rw [cell_of_row _ _ 4 _ _ _ e23]; rfl
                  have pf : ∀ j, W16.frozen? ⟨g26, j, none⟩ = false := fun j => by simp [World.frozen?, e23]

                  refine wpAnyH_all (rs := [17]) (by kernel_rfl) (by simp) ?_
                  intro i' hi'
                  obtain rfl : i' = 17 := by simpa using hi'
                  unfold wpOp
                  go_simp
                  have k17 := keep5K (W := W16) (g := g26) (v0 := .int .u64 Rk.u) (v1 := .string (strOfNums Rk.t)) (v2 := .slice aT31 nl cT31) (v3 := .int .i64 (Rk.nx : Int)) (v4 := .int .i64 (Rk.e : Int))
                  have e23b := look_put5K (v0 := .int .u64 Rk.u) (v1 := .string (strOfNums Rk.t)) (v2 := .slice aT31 nl cT31) (v3 := .int .i64 (Rk.nx : Int)) (v4 := .int .i64 (Rk.e : Int)) e23
                  obtain ⟨W17, hW17⟩ : ∃ W', W' = (((((W16.setCell ⟨g26, 0, none⟩ (.int .u64 Rk.u)).setCell ⟨g26, 1, none⟩ (.string (strOfNums Rk.t))).setCell ⟨g26, 2, none⟩ (.slice aT31 nl cT31)).setCell ⟨g26, 3, none⟩ (.int .i64 (Rk.nx : Int))).setCell ⟨g26, 4, none⟩ (.int .i64 (Rk.e : Int))) := ⟨_, rfl⟩
                  rw [← hW17] at k17 e23b ⊢
                  have S17 := S16.trans k17 (fun q f => .inr (by have f2 : q = g26 := f; omega))
                  first | refine Or.inl ⟨S17, ?_⟩ | refine ⟨S17, ?_⟩
                  have HA9 : Hid (AskD w W17 k bR rv l (upK pR 1 Rk.nx) pR gr gd vd ga kb Rk nl g30 g26) := hideH ⟨_, _, _, _, o130, _, _, _, _, _, _, k17.heap e22 (fun f => hn0 f), e23b, ints_keepK Y16 k17 (fun h b off e f => DY23_27 h b off e f), ints_keepK T16 k17 (fun h b off e f => DT23_31 h b off e f), r16.keep k17 (fun q f _ => by have f2 : q = g26 := f; rw [f2, c23_30]; decide) o130 (fun _ _ => rfl), b16.keep k17 (fun q f _ => by have f2 : q = g26 := f; rw [f2, c23_30]; decide) o130 (fun _ _ => rfl), lv27, li27⟩
                  clear hW17 p0 p1 p2 p3 p4 pf
                  refine wpAnyH_done (by kernel_rfl) ?_ _
                  go_wp2_with fail
                  go_meet
                  case rel => exact ⟨_, _, rfl, rfl, HA9⟩
              · unfold wpOp
                go_simp
                obtain ⟨X32, hX32⟩ : ∃ W', W' = X26.alloc (.cells #[.int .u64 0, .string ⟨#[]⟩, .slice none 0 0, .int .i64 0, .int .i64 0] 60) := ⟨_, rfl⟩
                have kA32 : Kept (fun _ => False) X26 X32 := by rw [hX32]; exact Kept.alloc _ _
                have hg32 : X32.heap[X26.heap.size]? = some (.cells #[.int .u64 0, .string ⟨#[]⟩, .slice none 0 0, .int .i64 0, .int .i64 0] 60 (0, 0)) := by rw [hX32]; exact heap_alloc_new X26 _
                have S32 := S26.trans kA32 (fun _ f => f.elim)
                rw [← hX32]
                obtain ⟨g32, hq32⟩ : ∃ g, g = X26.heap.size := ⟨_, rfl⟩
                rw [← hq32] at hg32 ⊢
                have lb32 : Wb.heap.size ≤ g32 := by have := S26.size; omega
                first | refine Or.inl ⟨S32, ?_⟩ | refine ⟨S32, ?_⟩
                have RL32 := RL26.fresh kA32 8
                have key32 : ∀ q, q < Wb.heap.size → newK X26.heap.size 8 o126 q = o1 q := fun q hq => (newK_old (Nat.lt_of_lt_of_le hq S26.size)).trans (key26 q hq)
                have cg32 : newK X26.heap.size 8 o126 g32 = 8 := newK_new (by omega)
                have h23_32 := kA32.heap hg26 (fun f => f)
                have c23_32 : newK X26.heap.size 8 o126 g26 = 8 := (newK_old (lt_of_block hg26)).trans cg26
                have ne_32 : g26 ≠ g32 := by have := lt_of_block hg26; omega
                generalize newK X26.heap.size 8 o126 = o132 at RL32 key32 cg32 c23_32
                clear hX32 hq32

                refine wpAnyH_all (rs := [3]) (by kernel_rfl) (by simp) ?_
                intro i' hi'
                simp only [List.mem_cons, List.not_mem_nil, or_false] at hi'
                obtain rfl := hi'
                unfold wpOp
                go_simp
                first | refine (CA.out X32 o132 RL32).mono ?_ | refine Or.inl ((CA.out X32 o132 RL32).mono ?_)
                rintro e X33 ⟨aY33, cY33, rfl, HY33⟩
                obtain ⟨o133, vB33, vI33, V33, I33, LB33, LI33, IY33, NY33, ke33, r33, b33, lv33, li33, ky33⟩ := HY33.out
                have S33 := S32.trans ky33 (fun q f => by
                  by_cases hq : q < Wb.heap.size
                  · have f2 : o132 q = 1 ∨ o132 q = 7 := f
                    rw [key32 q hq] at f2
                    exact .inl f2
                  · exact .inr (by omega))
                first | refine Or.inl ⟨S33, ?_⟩ | refine ⟨S33, ?_⟩
                have h23_33 := ky33.heap h23_32 (fun f => by have f2 : o132 g26 = 1 ∨ o132 g26 = 7 := f; omega)
                have c23_33 : o133 g26 = 8 := (ke33 _ (lt_of_block h23_32)).trans c23_32
                have DY23_33 : Rk.ls ≠ [] → ∀ b off, aY33 = some ⟨b, off, none⟩ → b ≠ g26 := fun h b off e => by have h1 := NY33 h b off e; have h2 := lt_of_block h23_32; omega
                have h22_33 := ky33.heap hg32 (fun f => by have f2 : o132 g32 = 1 ∨ o132 g32 = 7 := f; omega)
                have c22_33 : o133 g32 = 8 := (ke33 _ (lt_of_block hg32)).trans cg32
                have DY22_33 : Rk.ls ≠ [] → ∀ b off, aY33 = some ⟨b, off, none⟩ → b ≠ g32 := fun h b off e => by have h1 := NY33 h b off e; have h2 := lt_of_block hg32; omega

                refine wpAnyH_all (rs := [13]) (by kernel_rfl) (by simp) ?_
                intro i' hi'
                simp only [List.mem_cons, List.not_mem_nil, or_false] at hi'
                obtain rfl := hi'
                unfold wpOp
                go_simp
                first | refine (CT.out X33 o133 _ r33).mono ?_ | refine Or.inl ((CT.out X33 o133 _ r33).mono ?_)
                rintro e X34 ⟨aT34, cT34, rfl, HT34⟩
                obtain ⟨IT34, kT34, NT34⟩ := HT34.out
                have S34 := S33.trans kT34 (fun _ f => f.elim)
                first | refine Or.inl ⟨S34, ?_⟩ | refine ⟨S34, ?_⟩
                have r34 := r33.later kT34
                have b34 := b33.later kT34
                have IY34 := ints_laterK IY33 kT34
                have h23_34 := kT34.heap h23_33 (fun f => f)
                have DT23_34 : Rk.ls ≠ [] → ∀ b off, aT34 = some ⟨b, off, none⟩ → b ≠ g26 := fun h b off e => by have h1 := NT34 h b off e; have h2 := lt_of_block h23_33; omega
                have h22_34 := kT34.heap h22_33 (fun f => f)
                have DT22_34 : Rk.ls ≠ [] → ∀ b off, aT34 = some ⟨b, off, none⟩ → b ≠ g32 := fun h b off e => by have h1 := NT34 h b off e; have h2 := lt_of_block h22_33; omega

                have hn0 : g32 ≠ g26 := by exact fun e => ne_32 e.symm
                have p0 : X34.cell? ⟨g32, 0, none⟩ = some (.int .u64 0) := by rw [cell_of_row _ _ 0 _ _ _ h22_34]; rfl
                have p1 : X34.cell? ⟨g32, 1, none⟩ = some (.string ⟨#[]⟩) := by rw [cell_of_row _ _ 1 _ _ _ h22_34]; rfl
                have p2 : X34.cell? ⟨g32, 2, none⟩ = some (.slice none 0 0) := by rw [cell_of_row _ _ 2 _ _ _ h22_34]; rfl
                have p3 : X34.cell? ⟨g32, 3, none⟩ = some (.int .i64 0) := by rw [cell_of_row _ _ 3 _ _ _ h22_34]; rfl
                have p4 : X34.cell? ⟨g32, 4, none⟩ = some (.int .i64 0) := by rw [cell_of_row _ _ 4 _ _ _ h22_34]; rfl
                have pf : ∀ j, X34.frozen? ⟨g32, j, none⟩ = false := fun j => by simp [World.frozen?, h22_34]

                refine wpAnyH_all (rs := [16]) (by kernel_rfl) (by simp) ?_
                intro i' hi'
                obtain rfl : i' = 16 := by simpa using hi'
                unfold wpOp
                go_simp
                have k16 := keep5K (W := X34) (g := g32) (v0 := .int .u64 Rk.u) (v1 := .string (strOfNums Rk.t)) (v2 := .slice aY33 nl cY33) (v3 := .int .i64 (Rk.nx : Int)) (v4 := .int .i64 (Rk.e : Int))
                have e22 := look_put5K (v0 := .int .u64 Rk.u) (v1 := .string (strOfNums Rk.t)) (v2 := .slice aY33 nl cY33) (v3 := .int .i64 (Rk.nx : Int)) (v4 := .int .i64 (Rk.e : Int)) h22_34
                obtain ⟨W16, hW16⟩ : ∃ W', W' = (((((X34.setCell ⟨g32, 0, none⟩ (.int .u64 Rk.u)).setCell ⟨g32, 1, none⟩ (.string (strOfNums Rk.t))).setCell ⟨g32, 2, none⟩ (.slice aY33 nl cY33)).setCell ⟨g32, 3, none⟩ (.int .i64 (Rk.nx : Int))).setCell ⟨g32, 4, none⟩ (.int .i64 (Rk.e : Int))) := ⟨_, rfl⟩
                rw [← hW16] at k16 e22 ⊢
                have S16 := S34.trans k16 (fun q f => .inr (by have f2 : q = g32 := f; omega))
                first | refine Or.inl ⟨S16, ?_⟩ | refine ⟨S16, ?_⟩
                have r16 := r34.keep k16 (fun q f _ => by have f2 : q = g32 := f; rw [f2, c22_33]; decide) o133 (fun _ _ => rfl)
                have b16 := b34.keep k16 (fun q f _ => by have f2 : q = g32 := f; rw [f2, c22_33]; decide) o133 (fun _ _ => rfl)
                have Y16 := ints_keepK IY34 k16 (fun h b off e f => DY22_33 h b off e f)
                have T16 := ints_keepK IT34 k16 (fun h b off e f => DT22_34 h b off e f)
                have e23 := k16.heap h23_34 (fun f => hn0 f.symm)
                clear hW16 p0 p1 p2 p3 p4 pf
                have p0 : W16.cell? ⟨g26, 0, none⟩ = some (.int .u64 0) := by rw [cell_of_row _ _ 0 _ _ _ e23]; rfl
                have p1 : W16.cell? ⟨g26, 1, none⟩ = some (.string ⟨#[]⟩) := by rw [cell_of_row _ _ 1 _ _ _ e23]; rfl
                have p2 : W16.cell? ⟨g26, 2, none⟩ = some (.slice none 0 0) := by rw [cell_of_row _ _ 2 _ _ _ e23]; rfl
                have p3 : W16.cell? ⟨g26, 3, none⟩ = some (.int .i64 0) := by rw [cell_of_row _ _ 3 _ _ _ e23]; rfl
                have p4 : W16.cell? ⟨g26, 4, none⟩ = some (.int .i64 0) := by rw [cell_of_row _ _ 4 _ _ _ e23]; rfl
                have pf : ∀ j, W16.frozen? ⟨g26, j, none⟩ = false := fun j => by simp [World.frozen?, e23]

                refine wpAnyH_all (rs := [17]) (by kernel_rfl) (by simp) ?_
                intro i' hi'
                obtain rfl : i' = 17 := by simpa using hi'
                unfold wpOp
                go_simp
                have k17 := keep5K (W := W16) (g := g26) (v0 := .int .u64 Rk.u) (v1 := .string (strOfNums Rk.t)) (v2 := .slice aT34 nl cT34) (v3 := .int .i64 (Rk.nx : Int)) (v4 := .int .i64 (Rk.e : Int))
                have e23b := look_put5K (v0 := .int .u64 Rk.u) (v1 := .string (strOfNums Rk.t)) (v2 := .slice aT34 nl cT34) (v3 := .int .i64 (Rk.nx : Int)) (v4 := .int .i64 (Rk.e : Int)) e23
                obtain ⟨W17, hW17⟩ : ∃ W', W' = (((((W16.setCell ⟨g26, 0, none⟩ (.int .u64 Rk.u)).setCell ⟨g26, 1, none⟩ (.string (strOfNums Rk.t))).setCell ⟨g26, 2, none⟩ (.slice aT34 nl cT34)).setCell ⟨g26, 3, none⟩ (.int .i64 (Rk.nx : Int))).setCell ⟨g26, 4, none⟩ (.int .i64 (Rk.e : Int))) := ⟨_, rfl⟩
                rw [← hW17] at k17 e23b ⊢
                have S17 := S16.trans k17 (fun q f => .inr (by have f2 : q = g26 := f; omega))
                first | refine Or.inl ⟨S17, ?_⟩ | refine ⟨S17, ?_⟩
                have HA9 : Hid (AskD w W17 k bR rv l (upK pR 1 Rk.nx) pR gr gd vd ga kb Rk nl g32 g26) := hideH ⟨_, _, _, _, o133, _, _, _, _, _, _, k17.heap e22 (fun f => hn0 f), e23b, ints_keepK Y16 k17 (fun h b off e f => DY23_33 h b off e f), ints_keepK T16 k17 (fun h b off e f => DT23_34 h b off e f), r16.keep k17 (fun q f _ => by have f2 : q = g26 := f; rw [f2, c23_33]; decide) o133 (fun _ _ => rfl), b16.keep k17 (fun q f _ => by have f2 : q = g26 := f; rw [f2, c23_33]; decide) o133 (fun _ _ => rfl), lv33, li33⟩
                clear hW17 p0 p1 p2 p3 p4 pf
                refine wpAnyH_done (by kernel_rfl) ?_ _
                go_wp2_with fail
                go_meet
                case rel => exact ⟨_, _, rfl, rfl, HA9⟩
        case rest =>
          as_aux_lemma =>
            obtain ⟨g22, g23, rfl, rfl, HAD⟩ := hcut
            obtain ⟨aY, cY, aT, cT, o2, vB2, vI2, V2, I2, LB2, LI2, hAr, hTr, iY, iT, r2, bq2, lv2, li2⟩ := HAD.out
            have m0 : wc.cell? ⟨g22, 0, none⟩ = some (.int .u64 Rk.u) := by rw [cell_of_row _ _ 0 _ _ _ hAr]; rfl
            have m1 : wc.cell? ⟨g22, 1, none⟩ = some (.string (strOfNums Rk.t)) := by rw [cell_of_row _ _ 1 _ _ _ hAr]; rfl
            have m2 : wc.cell? ⟨g22, 2, none⟩ = some (.slice aY nl cY) := by rw [cell_of_row _ _ 2 _ _ _ hAr]; rfl
            have m3 : wc.cell? ⟨g22, 3, none⟩ = some (.int .i64 (Rk.nx : Int)) := by rw [cell_of_row _ _ 3 _ _ _ hAr]; rfl
            have m4 : wc.cell? ⟨g22, 4, none⟩ = some (.int .i64 (Rk.e : Int)) := by rw [cell_of_row _ _ 4 _ _ _ hAr]; rfl
            have t0 : wc.cell? ⟨g23, 0, none⟩ = some (.int .u64 Rk.u) := by rw [cell_of_row _ _ 0 _ _ _ hTr]; rfl
            have t1 : wc.cell? ⟨g23, 1, none⟩ = some (.string (strOfNums Rk.t)) := by rw [cell_of_row _ _ 1 _ _ _ hTr]; rfl
            have t2 : wc.cell? ⟨g23, 2, none⟩ = some (.slice aT nl cT) := by rw [cell_of_row _ _ 2 _ _ _ hTr]; rfl
            have t3 : wc.cell? ⟨g23, 3, none⟩ = some (.int .i64 (Rk.nx : Int)) := by rw [cell_of_row _ _ 3 _ _ _ hTr]; rfl
            have t4 : wc.cell? ⟨g23, 4, none⟩ = some (.int .i64 (Rk.e : Int)) := by rw [cell_of_row _ _ 4 _ _ _ hTr]; rfl
            have CS : Hid (Calls Tryd.prog 25 #[.agg #[.int .u64 Rk.u, .string (strOfNums Rk.t), .slice aY nl cY, .int .i64 (Rk.nx : Int), .int .i64 (Rk.e : Int)], .agg #[.int .u64 Rk.u, .string (strOfNums Rk.t), .slice aT nl cT, .int .i64 (Rk.nx : Int), .int .i64 (Rk.e : Int)]] wc fun e w' => e = .returned (.bool true) ∧ Kept (fun _ => False) wc w') := hideH (by rw [HNL.out]; exact sameLook_trueK Rk aY aT cY cT wc iY iT (by rw [← HNL.out]; exact hlen))
            have HTR := hideH hTr
            have HR2 := hideH r2
            have HB2 := hideH bq2
            clear hAr hTr iY iT r2 bq2 HAD
            go_wp2_with (go_at_call 25; refine StpH.go ?_)
            refine ⟨?_⟩
            refine CS.out.mono ?_
            clear CS m0 m1 m2 m3 m4 t0 t1 t2 t3 t4
            rintro e Wx ⟨rfl, kx⟩
            have r3 := HR2.out.later kx
            have b3q := HB2.out.later kx
            have t3x : Wx.cell? ⟨g23, 3, none⟩ = some (.int .i64 (Rk.nx : Int)) := by rw [cell_of_row _ _ 3 _ _ _ (kx.heap HTR.out (fun f => f))]; rfl
            obtain ⟨-, -, ⟨a0x, a1x⟩, f0x, f1x⟩ := r3.cells
            have r4 := r3.store 1 (by decide) Rk.nx
            have b4q := b3q.keep (kset1K (W := Wx) (g := ga) (i := 1) (x := .int .i64 (Rk.nx : Int))) (fun q f _ => by have f2 : q = ga := f; rw [f2, r3.oa]; omega) o2 (fun _ _ => rfl)
            have HF : Hid (Rl w _ (k + 1) o2 bR rv l (upK pR 1 Rk.nx) gr gd vd ga kb vB2 vI2 V2 I2 LB2 LI2) := hideH ⟨r4, b4q, lv2, li2⟩
            clear r3 b3q r4 b4q HR2 HB2 HTR kx
            go_wp2_with fail
            go_roundw
            case rel => exact ⟨k + 1, _, upK pR 1 Rk.nx, _, _, _, _, _, _, by omega, by go_num, HF⟩
            case measure => simp [intOf]; omega
  · obtain rfl : k = N := by omega
    have hiN : ¬ (k : Int) < (k : Int) := by omega
    have C := hideH (readsEnd_K bm im BM.out IM.out HW.out.r0 HW.out.bq (by have := HW.out.nV; omega) (by have := HW.out.nI; omega) HLS.out HVD.out)
    go_wp2_with (go_at_call 26; refine StpH.go ?_)
    refine ⟨?_⟩
    refine C.out.mono ?_
    clear C
    rintro e Wx ⟨rfl, kx⟩
    have HKF := hideH kx
    clear kx
    go_wp2_with fail
    go_ret
    exact ⟨rfl, HKF.out⟩
end Go.Proofs.YtjmmdklgkcbihaaDoor
