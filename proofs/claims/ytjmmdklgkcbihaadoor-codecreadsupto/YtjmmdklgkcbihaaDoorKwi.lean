import Derived.Test.YtjmmdklgkcbihaaDoorKwh
import Derived.Test.YtjmmdklgkcbihaaDoorKwf
namespace Go.Proofs.YtjmmdklgkcbihaaDoor
open Go.ChangeShapes Go.WideShapes Go.ChangeAt Go.RowKit

theorem PutK.of3 {w W5 : World} {bw base : Nat} {v v1 : Value} {xs X : List Int} {va : Value} (hw : Wr W5 bw v1 (xs ++ X)) (st : WStep w W5 bw v v1) (own : W5.ownsRow base 5 1 va X.length (bs X)) (hb : w.heap.size ≤ base) (far : ∀ k, va.ownBlock = some k → ¬ WF bw v1 k) : PutK w W5 bw v xs X va := by
  refine ⟨⟨v1, hw, st, far⟩, ?_⟩
  obtain ⟨h1, h2⟩ := own
  refine ⟨h1, h2.imp id ?_⟩
  rintro ⟨gg, cap, cur, e, hg, rest⟩
  exact ⟨gg, cap, cur, e, Nat.le_trans hb hg, rest⟩
theorem BytesAt.headK {W : World} {a : Option Addr} {l m : List Int} (h : BytesAt W a (l ++ m)) : BytesAt W a l := by
  intro hne
  obtain ⟨b, off, e, hc⟩ := h (by intro q; exact hne (List.append_eq_nil_iff.1 q).1)
  refine ⟨b, off, e, fun k hk => ?_⟩
  have := hc k (by rw [List.length_append]; omega)
  rw [List.getElem?_append_left hk] at this
  exact this
theorem IntsAt.headK {W : World} {a : Option Addr} {l m : List Int} (h : IntsAt W a (l ++ m)) : IntsAt W a l := by
  intro hne
  obtain ⟨b, off, e, hc⟩ := h (by intro q; exact hne (List.append_eq_nil_iff.1 q).1)
  refine ⟨b, off, e, fun k hk => ?_⟩
  have := hc k (by rw [List.length_append]; omega)
  rw [List.getElem?_append_left hk] at this
  exact this
theorem BytesAt.farK {F : Nat → Prop} {W W' : World} {a : Option Addr} {l : List Int} (h : BytesAt W a l) (k : Kept F W W') (hF : l ≠ [] → ∀ ad, a = some ad → ¬ F ad.block) : BytesAt W' a l := by
  intro hne
  obtain ⟨b, off, e, hc⟩ := h hne
  exact ⟨b, off, e, fun j hj => k.cell (hc j hj) (show ¬ F b from hF hne ⟨b, off, none⟩ e)⟩
theorem BytesAt.ltK {W : World} {a : Option Addr} {l : List Int} (h : BytesAt W a l) (hne : l ≠ []) {ad : Addr} (e : a = some ad) : ad.block < W.heap.size := by
  obtain ⟨b, off, e2, hc⟩ := h hne
  rw [e] at e2
  simp only [Option.some.injEq] at e2
  rw [e2]
  exact World.block_lt_of_cell? W ⟨b, off + 0, none⟩ (hc 0 (List.length_pos_iff.2 hne))
theorem wf_ltK {W : World} {bw : Nat} {v : Value} {xs : List Int} (h : Wr W bw v xs) {k : Nat} (hk : WF bw v k) : k < W.heap.size :=
  hk.elim (fun e => by rw [e]; exact lt_of_block h.blk) (fun e => (h.own.lt k e).2)
theorem rko_numK (l : List Int) (ad : Nat → Addr) (w : World) (h : Es8K w ad) : Calls Tryd.prog 22 #[EvK ad (rko l)] w fun e w' => e = .returned (.int .i64 ((rko l : Nat) : Int)) ∧ w' = w := by
  unfold rko
  split
  · exact num_rngK h
  · split
    · exact num_nilK w
    · exact num_ordK h
theorem pko_numK (l : List Int) (ad : Nat → Addr) (w : World) (h : Es8K w ad) : Calls Tryd.prog 22 #[EvK ad (pko l)] w fun e w' => e = .returned (.int .i64 ((pko l : Nat) : Int)) ∧ w' = w := by
  unfold pko
  split
  · exact num_rngK h
  · split
    · exact num_limK h
    · exact num_nilK w
set_option maxRecDepth 20000 in
set_option maxHeartbeats 8000000 in
/-- The law's put of plain bytes. -/
theorem put_6K (sec : Bool) (nn : Int) (U : Nat) (ii : Int) (ba : Option Addr) (n bc : Nat) (B : List Int) (s : ByteArray) (lv : Value) (bw : Nat) (v : Value) (xs : List Int) (w : World) (h : Wr w bw v xs) (hx : xs.length ≤ 70368744177664)
    (hn : n = B.length) (hB : BytesAt w ba B) (hz : ba = none → bc = 0) (hfar : B ≠ [] → ∀ ad, ba = some ad → ¬ WF bw v ad.block) (hnl : n ≤ 1048576) :
    Calls Tryd.prog 11 #[.pointer (some ⟨bw, 0, none⟩), .agg #[.int .i64 6, .bool sec, .int .i64 nn, .int .u64 (U : Int), .int .i64 ii, .slice ba n bc, .string s, lv]] w fun e w' => ∃ va, e = .returned (.tuple #[va, .bool true]) ∧ PutK w w' bw v xs B va := by
  obtain ⟨W0, hW0⟩ : ∃ W0, W0 = w.alloc (.cells #[.int .i64 6, .bool sec, .int .i64 nn, .int .u64 (U : Int), .int .i64 ii, .slice ba n bc, .string s, lv] 37) := ⟨_, rfl⟩
  have k0 : Kept (fun _ => False) w W0 := by rw [hW0]; exact Kept.alloc w _
  have hb : W0.heap[w.heap.size]? = some (.cells #[.int .i64 6, .bool sec, .int .i64 nn, .int .u64 (U : Int), .int .i64 ii, .slice ba n bc, .string s, lv] 37 (0, 0)) := by rw [hW0]; exact heap_alloc_new w _
  have hwf : ¬ WF bw v w.heap.size := fun f => by have := wf_ltK h f; omega
  have s0 : W0.heap.size = w.heap.size + 1 := by rw [hW0]; simp
  have c0 : W0.cell? ⟨w.heap.size, 0, none⟩ = some (.int .i64 6) := by rw [cell_of_row _ _ _ _ _ _ hb]; rfl
  have c5 : W0.cell? ⟨w.heap.size, 5, none⟩ = some (.slice ba n bc) := by rw [cell_of_row _ _ _ _ _ _ hb]; rfl
  have CH := hideH (handB_any B ba n bc W0 hn (hB.farK k0 (fun _ _ _ f => f)) hz (by omega))
  have HC5 := hideH c5
  have H := hideH h
  have HK0 := hideH k0
  have HNB := hideH hn
  have HBA := hideH hB
  have HZ := hideH hz
  have HFar := hideH hfar
  have HWF := hideH hwf
  rw [hW0] at c0 c5
  have HW0 := hideH hW0
  clear h hb hwf k0 hn hB hz hfar
  go_enter Tryd.func11, Tryd.ntmps11
  go_wp2_with (go_at_call 13; refine StpH.go ?_)
  rw [← HW0.out]
  refine ⟨?_⟩
  refine CH.out.mono ?_
  clear CH HW0 hW0 c0 c5
  rintro e W1 ⟨hbk, f, cf, q, cq, rfl, hd1, g1, g2, g3, k1⟩
  have CG := hideH (give_any hbk f cf q cq n (B ++ hrm 80) W1 hd1)
  have HD1 := hideH hd1
  have HK1 := hideH k1
  clear hd1 k1
  go_wp2_with (go_at_call 15; refine StpH.go ?_)
  refine ⟨?_⟩
  refine CG.out.mono ?_
  clear CG
  rintro e W2 ⟨rfl, k2⟩
  have hd2 := HD1.out.later k2
  have k02 : Kept (fun _ => False) w W2 := (HK0.out.trans HK1.out (fun _ f => f.elim)).trans k2 (fun _ f => f.elim)
  have hw2 := H.out.kept k02 (fun _ _ f => f)
  have hwl : ∀ k, WF bw v k → k < w.heap.size := fun k hk => wf_ltK H.out hk
  have CR := hideH (raw_any bw v xs B (some ⟨f, 0, none⟩) cf W2 hw2 (hd2.full.bytesE).1.headK (fun e => by cases e) (by rw [← HNB.out]; omega))
  rw [← HNB.out] at CR
  have s12 : f < W2.heap.size ∧ q < W2.heap.size := ⟨hd2.full.lt rfl, hd2.want.lt rfl⟩
  have HD2 := hideH hd2
  have HK02 := hideH k02
  have HC2 := hideH ((HK1.out.trans k2 (fun _ f => f.elim)).cell HC5.out (fun f => f))
  have HWL := hideH hwl
  clear hd2 k02 hw2 k2 HD1 HK1 HK0 HC5 hwl
  go_wp2_with (go_at_call 39; refine StpH.go ?_)
  refine ⟨?_⟩
  refine CR.out.mono ?_
  clear CR
  rintro e W3 ⟨rfl, v1, hw3, st3⟩
  have hd3 := HD2.out.kept st3.kept (fun q => by have := HWL.out _ q; omega) (fun q => by have := HWL.out _ q; omega) (fun q => by have := HWL.out _ q; omega)
  have CS := hideH (sameH_any hbk f cf q cq n (B ++ hrm 80) W3 hd3)
  have HD3 := hideH hd3
  have HW3 := hideH hw3
  have HS3 := hideH st3
  clear hd3 hw3 st3 HD2
  go_wp2_with (go_at_call 16; refine StpH.go ?_)
  refine ⟨?_⟩
  refine CS.out.mono ?_
  clear CS
  rintro e W4 ⟨rfl, k4⟩
  have CP := hideH (spoil_any hbk f cf q cq n (B ++ hrm 80) W4 (HD3.out.later k4) (by omega))
  have HK4 := hideH k4
  clear k4 HD3
  go_wp2_with (go_at_call 17; refine StpH.go ?_)
  refine ⟨?_⟩
  refine CP.out.mono ?_
  clear CP
  rintro e W5 ⟨rfl, -, k5⟩
  have k35 : Kept (fun k => k = f ∨ k = q) W3 W5 := (HK4.out.mono (fun _ f => f.elim)).trans k5 (fun _ e => .inl e)
  have hv1 : ∀ k, WF bw v1 k → k < w.heap.size ∨ W2.heap.size ≤ k := fun k hk => hk.elim (fun e => .inl (HWL.out k (.inl e))) (fun e => (HS3.out.new k e).imp (fun e => HWL.out k (.inr e)) id)
  have hw5 := HW3.out.kept k35 (fun k hk e => by have := hv1 k hk; omega)
  have kw5 : Kept (WF bw v) w W5 := ((HK02.out.mono (fun _ f => f.elim)).trans HS3.out.kept (fun _ e => .inl e)).trans k35 (fun k e => .inr (by omega))
  have st5 : WStep w W5 bw v v1 := ⟨kw5, fun k e => (HS3.out.new k e).imp id (fun r => Nat.le_trans HK02.out.size r)⟩
  have x5 : W5.cell? ⟨w.heap.size, 5, none⟩ = some (.slice ba n bc) := k35.cell (HS3.out.kept.cell HC2.out HWF.out) (fun e => by simp only at e; omega)
  have ka := Kept.alloc W5 (.cells #[] 5)
  have hO : (W5.alloc (.cells #[] 5)).ownsRow W5.heap.size 5 1 (.slice (some ⟨W5.heap.size, 0, none⟩) 0 0) 0 (bs []) := ⟨rfl, .inr ⟨W5.heap.size, 0, #[], rfl, Nat.le_refl _, heap_alloc_new W5 _, Nat.le_refl _, Nat.zero_le _, rfl, rfl⟩⟩
  have HO := hideH hO
  have HB5 := hideH ((HBA.out.farK kw5 HFar.out).farK ka (fun _ _ _ f => f))
  have xa : (W5.alloc (.cells #[] 5)).cell? ⟨w.heap.size, 5, none⟩ = some (.slice ba n bc) := ka.cell x5 (fun f => f)
  have hs5 : W5.heap.size ≤ (W5.alloc (.cells #[] 5)).heap.size := ka.size
  have HW5 := hideH hw5
  have HS5 := hideH st5
  have HKA := hideH ka
  have hws : w.heap.size ≤ W5.heap.size := kw5.size
  clear k35 hv1 hw5 kw5 st5 k5 ka hO HW3 HS3 HK4 HK02 HC2 HBA HFar HWF
  go_wp2_with (at_builtin; refine StpH.go ?_)
  refine ⟨?_⟩
  refine wpList_catH (base := W5.heap.size) rfl _ _ rfl (.slice (some ⟨W5.heap.size, 0, none⟩) 0 0) 0 [] B rfl HO ba n bc rfl HNB HB5 HZ (by omega) (hideH hs5) ?_
  intro a6 c6 W6 O6 K6
  rw [Nat.zero_add, List.nil_append] at O6
  rw [Nat.zero_add]
  have k56 : Kept (fun _ => False) W5 W6 := HKA.out.trans K6.out (fun i e => .inr (by have e2 : W5.heap.size = i := Option.some.inj e; omega))
  have HP : Hid (PutK w W6 bw v xs B (.slice a6 n c6)) := hideH (PutK.of (Kept.refl _ _) HS5.out HW5.out ⟨by rw [← HNB.out]; exact O6.out, k56⟩)
  clear O6 K6 k56 HS5 HW5 HKA HO HB5
  go_wp2_with fail
  go_ret2
  exact ⟨_, rfl, HP.out⟩
set_option maxRecDepth 20000 in
set_option maxHeartbeats 8000000 in
theorem putl_xK (sec : Bool) (nn : Int) (U : Nat) (ii : Int) (bv : Value) (s : ByteArray) (la : Option Addr) (n lc : Nat) (L : List Int) (bw : Nat) (v : Value) (xs : List Int)  (w : World) (h : Wr w bw v xs) 
    (hn : n = L.length) (hL : IntsAt w la L) (hz : la = none → lc = 0)  (hnl : n ≤ 1048576)  (kd : Int) (k8 : kd ≠ 8) (k9 : kd ≠ 9) :
    Calls Tryd.prog 40 #[.pointer (some ⟨bw, 0, none⟩), .agg #[.int .i64 kd, .bool sec, .int .i64 nn, .int .u64 (U : Int), .int .i64 ii, bv, .string s, .slice la n lc]] w fun e w' => ∃ va, e = .returned (.tuple #[va, .bool true]) ∧ PutK w w' bw v xs [] va := by
  obtain ⟨W0, hW0⟩ : ∃ W0, W0 = w.alloc (.cells #[.int .i64 kd, .bool sec, .int .i64 nn, .int .u64 (U : Int), .int .i64 ii, bv, .string s, .slice la n lc] 37) := ⟨_, rfl⟩
  have k0 : Kept (fun _ => False) w W0 := by rw [hW0]; exact Kept.alloc w _
  have hb : W0.heap[w.heap.size]? = some (.cells #[.int .i64 kd, .bool sec, .int .i64 nn, .int .u64 (U : Int), .int .i64 ii, bv, .string s, .slice la n lc] 37 (0, 0)) := by rw [hW0]; exact heap_alloc_new w _
  have s0 : W0.heap.size = w.heap.size + 1 := by rw [hW0]; simp
  have c0 : W0.cell? ⟨w.heap.size, 0, none⟩ = some (.int .i64 kd) := by rw [cell_of_row _ _ _ _ _ _ hb]; rfl
  have c7 : W0.cell? ⟨w.heap.size, 7, none⟩ = some (.slice la n lc) := by rw [cell_of_row _ _ _ _ _ _ hb]; rfl
  have CH := hideH (handB_anyJ L la n lc W0 hn (hL.keptK k0) hz (by omega))
  have HC0 := hideH c0
  have HC7 := hideH c7
  have H := hideH h
  have HK0 := hideH k0
  have HNB := hideH hn
  have HLA := hideH hL
  rw [hW0] at c7
  have HW0 := hideH hW0
  have d8 : (kd == 8) = false := by rw [beq_eq_false_iff_ne]; exact k8
  have d9 : (kd == 9) = false := by rw [beq_eq_false_iff_ne]; exact k9
  clear h hb k0 hn hL hz
  go_enter Tryd.func40, Tryd.ntmps40
  go_wp2_with (go_at_call 68; refine StpH.go ?_)
  rw [← HW0.out]
  refine ⟨?_⟩
  refine CH.out.mono ?_
  clear CH HW0 hW0 c0 c7
  rintro e W1 ⟨hbk, f, cf, q, cq, rfl, hd1, g1, g2, g3, k1⟩
  obtain ⟨Wv, hWv⟩ : ∃ Wv, Wv = W1.alloc (.cells #[] 5) := ⟨_, rfl⟩
  have ka : Kept (fun _ => False) W1 Wv := by rw [hWv]; exact Kept.alloc W1 _
  have hO : Wv.ownsRow W1.heap.size 5 1 (.slice (some ⟨W1.heap.size, 0, none⟩) 0 0) 0 (bs []) := by rw [hWv]; exact ⟨rfl, .inr ⟨W1.heap.size, 0, #[], rfl, Nat.le_refl _, heap_alloc_new W1 _, Nat.le_refl _, Nat.zero_le _, rfl, rfl⟩⟩
  have kv : Kept (fun _ => False) W0 Wv := k1.trans ka (fun _ f => f.elim)
  have y0 := kv.cell HC0.out (fun f => f)
  have y7 := kv.cell HC7.out (fun f => f)
  have hdv := hd1.later ka
  have s1 : f < W1.heap.size ∧ q < W1.heap.size := ⟨hd1.full.lt rfl, hd1.want.lt rfl⟩
  have sv : W1.heap.size ≤ Wv.heap.size := ka.size
  have k0v : Kept (fun _ => False) w Wv := HK0.out.trans kv (fun _ f => f.elim)
  have HKV := hideH k0v
  have HDV := hideH hdv
  have HWV := hideH hWv
  rw [hWv] at y0 y7
  have hwl : ∀ k, WF bw v k → k < w.heap.size := fun k hk => wf_ltK H.out hk
  have HWL := hideH hwl
  have s01 : w.heap.size ≤ W1.heap.size := (HK0.out.trans k1 (fun _ f => f.elim)).size
  have hwr := H.out.kept k0v (fun _ _ f => f)
  have HO := hideH hO
  have CS := hideH (same_anyJ hbk f cf q cq n (L ++ hrmJ 80) Wv hdv hnl)
  rw [hWv] at CS
  have HWR := hideH hwr
  clear hd1 k1 ka hO kv k0v hdv hwr hwl HC0 HC7 HK0
  go_wp2_with (go_at_call 74; refine StpH.go ?_)
  refine ⟨?_⟩
  refine CS.out.mono ?_
  clear CS
  rw [← hWv]
  rintro e W4 ⟨rfl, k4⟩
  have CP := hideH (spoil_anyJ hbk f cf q cq n (L ++ hrmJ 80) W4 (HDV.out.later k4) (by omega))
  have HK4 := hideH k4
  clear k4 y0 y7
  go_wp2_with (go_at_call 75; refine StpH.go ?_)
  refine ⟨?_⟩
  refine CP.out.mono ?_
  clear CP
  rintro e W5 ⟨rfl, -, k5⟩
  have k45 : Kept (fun k => k = f ∨ k = q) Wv W5 := (HK4.out.mono (fun _ f => f.elim)).trans k5 (fun _ e => .inl e)
  have hw5 : Wr W5 bw v (xs ++ []) := by rw [List.append_nil]; exact HWR.out.kept k45 (fun k hk e => by have := HWL.out k hk; omega)
  have st5 : WStep w W5 bw v v := ⟨(HKV.out.mono (fun _ f => f.elim)).trans k45 (fun k e => .inr (by omega)), fun k e => .inl e⟩
  have hO5 := k45.row HO.out (fun k e f => by have e2 : W1.heap.size = k := Option.some.inj e; omega)
  have HP : Hid (PutK w W5 bw v xs [] (.slice (some ⟨W1.heap.size, 0, none⟩) 0 0)) := hideH (PutK.of3 hw5 st5 hO5 s01 (fun k e f => by have e2 : W1.heap.size = k := Option.some.inj e; have := HWL.out k f; omega))
  clear k45 hw5 st5 hO5 k5 HK4 HWR HO HDV
  go_wp2_with fail
  go_ret2
  exact ⟨_, rfl, HP.out⟩
set_option maxRecDepth 20000 in
set_option maxHeartbeats 8000000 in
theorem putl_8K (sec : Bool) (nn : Int) (U : Nat) (ii : Int) (bv : Value) (s : ByteArray) (la : Option Addr) (n lc : Nat) (L : List Int) (bw : Nat) (v : Value) (xs : List Int) (ad : Nat → Addr) (w : World) (h : Wr w bw v xs) (hx : xs.length ≤ 70368744177664)
    (hn : n = L.length) (hL : IntsAt w la L) (hz : la = none → lc = 0) (hI : IsInts L) (hnl : n ≤ 1048576) (hE : ∀ W2, Kept (WF bw v) w W2 → Es8K W2 ad) :
    Calls Tryd.prog 40 #[.pointer (some ⟨bw, 0, none⟩), .agg #[.int .i64 8, .bool sec, .int .i64 nn, .int .u64 (U : Int), .int .i64 ii, bv, .string s, .slice la n lc]] w fun e w' => ∃ va, e = .returned (.tuple #[va, .bool true]) ∧ PutK w w' bw v xs (rbo L) va := by
  obtain ⟨W0, hW0⟩ : ∃ W0, W0 = w.alloc (.cells #[.int .i64 8, .bool sec, .int .i64 nn, .int .u64 (U : Int), .int .i64 ii, bv, .string s, .slice la n lc] 37) := ⟨_, rfl⟩
  have k0 : Kept (fun _ => False) w W0 := by rw [hW0]; exact Kept.alloc w _
  have hb : W0.heap[w.heap.size]? = some (.cells #[.int .i64 8, .bool sec, .int .i64 nn, .int .u64 (U : Int), .int .i64 ii, bv, .string s, .slice la n lc] 37 (0, 0)) := by rw [hW0]; exact heap_alloc_new w _
  have s0 : W0.heap.size = w.heap.size + 1 := by rw [hW0]; simp
  have c0 : W0.cell? ⟨w.heap.size, 0, none⟩ = some (.int .i64 8) := by rw [cell_of_row _ _ _ _ _ _ hb]; rfl
  have c7 : W0.cell? ⟨w.heap.size, 7, none⟩ = some (.slice la n lc) := by rw [cell_of_row _ _ _ _ _ _ hb]; rfl
  have CH := hideH (handB_anyJ L la n lc W0 hn (hL.keptK k0) hz (by omega))
  have HC0 := hideH c0
  have HC7 := hideH c7
  have H := hideH h
  have HK0 := hideH k0
  have HNB := hideH hn
  have HLA := hideH hL
  have HII := hideH hI
  have HEE := hideH hE
  rw [hW0] at c7
  have HW0 := hideH hW0
  clear h hb k0 hn hL hz hI hE
  go_enter Tryd.func40, Tryd.ntmps40
  go_wp2_with (go_at_call 68; refine StpH.go ?_)
  rw [← HW0.out]
  refine ⟨?_⟩
  refine CH.out.mono ?_
  clear CH HW0 hW0 c0 c7
  rintro e W1 ⟨hbk, f, cf, q, cq, rfl, hd1, g1, g2, g3, k1⟩
  obtain ⟨Wv, hWv⟩ : ∃ Wv, Wv = W1.alloc (.cells #[] 5) := ⟨_, rfl⟩
  have ka : Kept (fun _ => False) W1 Wv := by rw [hWv]; exact Kept.alloc W1 _
  have hO : Wv.ownsRow W1.heap.size 5 1 (.slice (some ⟨W1.heap.size, 0, none⟩) 0 0) 0 (bs []) := by rw [hWv]; exact ⟨rfl, .inr ⟨W1.heap.size, 0, #[], rfl, Nat.le_refl _, heap_alloc_new W1 _, Nat.le_refl _, Nat.zero_le _, rfl, rfl⟩⟩
  have kv : Kept (fun _ => False) W0 Wv := k1.trans ka (fun _ f => f.elim)
  have y0 := kv.cell HC0.out (fun f => f)
  have y7 := kv.cell HC7.out (fun f => f)
  have hdv := hd1.later ka
  have s1 : f < W1.heap.size ∧ q < W1.heap.size := ⟨hd1.full.lt rfl, hd1.want.lt rfl⟩
  have sv : W1.heap.size ≤ Wv.heap.size := ka.size
  have k0v : Kept (fun _ => False) w Wv := HK0.out.trans kv (fun _ f => f.elim)
  have HKV := hideH k0v
  have HDV := hideH hdv
  have HWV := hideH hWv
  rw [hWv] at y0 y7
  have hwl : ∀ k, WF bw v k → k < w.heap.size := fun k hk => wf_ltK H.out hk
  have HWL := hideH hwl
  have s01 : w.heap.size ≤ W1.heap.size := (HK0.out.trans k1 (fun _ f => f.elim)).size
  have CR := hideH (drise_allK L la lc Wv (HLA.out.keptK k0v) HII.out (by rw [← HNB.out]; exact hnl))
  rw [← HNB.out, hWv] at CR
  clear hd1 k1 ka hO kv k0v hdv hwl HC0 HC7 HK0
  go_wp2_with (go_at_call 69; refine StpH.go ?_)
  refine ⟨?_⟩
  refine CR.out.mono ?_
  clear CR
  rw [← hWv]
  rintro e W2 ⟨va, rfl, hG⟩
  have hd2 := HDV.out.later hG.kept
  have CG := hideH (give_anyJ hbk f cf q cq n (L ++ hrmJ 80) W2 hd2)
  have HD2 := hideH hd2
  have HG := hideH hG
  clear hd2 hG y0 y7 HDV
  go_wp2_with (go_at_call 71; refine StpH.go ?_)
  refine ⟨?_⟩
  refine CG.out.mono ?_
  clear CG
  rintro e W3 ⟨rfl, k3⟩
  have hd3 := HD2.out.later k3
  have k03 : Kept (fun _ => False) w W3 := (HKV.out.trans HG.out.kept (fun _ f => f.elim)).trans k3 (fun _ f => f.elim)
  have hfar : IntsFar W3 (some ⟨f, 0, none⟩) L bw v := fun hne => by
    obtain ⟨b, off, e, hc⟩ := (hd3.full.ints).1.headK hne
    refine ⟨b, off, e, fun r => ?_, hc⟩
    have e2 : f = b := by simp only [Option.some.injEq, Addr.mk.injEq] at e; exact e.1
    have := HWL.out b r
    omega
  have CW := hideH (wrise_allK bw v xs L (some ⟨f, 0, none⟩) cf ad W3 (H.out.kept k03 (fun _ _ f => f)) hfar HII.out (by rw [← HNB.out]; exact hnl) hx (HEE.out W3 (k03.mono (fun _ f => f.elim))))
  rw [← HNB.out] at CW
  have o3 := k3.row HG.out.own (fun _ _ f => f)
  have HD3 := hideH hd3
  have HK03 := hideH k03
  have HO3 := hideH o3
  have s23 : W2.heap.size ≤ W3.heap.size := k3.size
  have s2 : Wv.heap.size ≤ W2.heap.size := HG.out.kept.size
  have HGL : Hid (∀ k, va.ownBlock = some k → Wv.heap.size ≤ k ∧ k < W2.heap.size) := hideH (fun k e => HG.out.own.lt k e)
  clear hd3 k03 hfar k3 o3 HD2 HG HKV
  go_wp2_with (go_at_call 70; refine StpH.go ?_)
  refine ⟨?_⟩
  refine CW.out.mono ?_
  clear CW
  rintro e W4 ⟨rfl, v1, hw4, st4⟩
  have hd4 := HD3.out.kept st4.kept (fun q => by have := HWL.out _ q; omega) (fun q => by have := HWL.out _ q; omega) (fun q => by have := HWL.out _ q; omega)
  have o4 := st4.kept.row HO3.out (fun k e r => by have h1 := HGL.out k e; have h2 := HWL.out k r; omega)
  have CN : Hid (Calls Tryd.prog 22 #[EvK ad (rko L)] W4 fun e w' => e = .returned (.int .i64 ((rko L : Nat) : Int)) ∧ w' = W4) := hideH (rko_numK L ad W4 (HEE.out W4 ((HK03.out.mono (fun _ f => f.elim)).trans st4.kept (fun _ e => .inl e))))
  have HD4 := hideH hd4
  have HO4 := hideH o4
  have HW4 := hideH hw4
  have HS4 := hideH st4
  clear hd4 o4 hw4 st4 HD3 HO3
  have CS := hideH (same_anyJ hbk f cf q cq n (L ++ hrmJ 80) W4 HD4.out hnl)
  obtain ⟨kn, hkn⟩ : ∃ kn : Nat, kn = rko L := ⟨_, rfl⟩
  rw [← hkn] at CN ⊢
  obtain ⟨ev, hev⟩ : ∃ ev, ev = EvK ad kn := ⟨_, rfl⟩
  rw [← hev] at CN ⊢
  clear hkn hev
  have dk : ((kn : Int) == (kn : Int)) = true := by rw [beq_iff_eq]
  go_wp2_with (go_at_call 22; refine StpH.go ?_)
  refine ⟨?_⟩
  refine CN.out.mono ?_
  clear CN
  rintro e Wn ⟨rfl, rfl⟩
  go_wp2_with (go_at_call 74; refine StpH.go ?_)
  refine ⟨?_⟩
  refine CS.out.mono ?_
  clear CS
  rintro e W5 ⟨rfl, k5⟩
  have CP := hideH (spoil_anyJ hbk f cf q cq n (L ++ hrmJ 80) W5 (HD4.out.later k5) (by omega))
  have HK5 := hideH k5
  clear k5
  go_wp2_with (go_at_call 75; refine StpH.go ?_)
  refine ⟨?_⟩
  refine CP.out.mono ?_
  clear CP
  rintro e W6 ⟨rfl, -, k6⟩
  have k46 : Kept (fun k => k = f ∨ k = q) Wn W6 := (HK5.out.mono (fun _ f => f.elim)).trans k6 (fun _ e => .inl e)
  have hv1 : ∀ k, WF bw v1 k → k < w.heap.size ∨ W3.heap.size ≤ k := fun k hk => hk.elim (fun e => .inl (HWL.out k (.inl e))) (fun e => (HS4.out.new k e).imp (fun e => HWL.out k (.inr e)) id)
  have hw6 := HW4.out.kept k46 (fun k hk e => by have := hv1 k hk; omega)
  have st6 : WStep w W6 bw v v1 := ⟨((HK03.out.mono (fun _ f => f.elim)).trans HS4.out.kept (fun _ e => .inl e)).trans k46 (fun k e => .inr (by omega)), fun k e => (HS4.out.new k e).imp id (fun r => Nat.le_trans HK03.out.size r)⟩
  have o6 := k46.row HO4.out (fun k e r => by have := HGL.out k e; omega)
  have HP : Hid (PutK w W6 bw v xs (rbo L) va) := hideH (PutK.of3 hw6 st6 o6 (by omega) (fun k e r => by have h1 := HGL.out k e; have h2 := hv1 k r; omega))
  clear k46 hv1 hw6 st6 o6 k6 HK5 HD4 HO4 HW4 HS4
  go_wp2_with fail
  go_ret2
  exact ⟨_, rfl, HP.out⟩
set_option maxRecDepth 20000 in
set_option maxHeartbeats 8000000 in
theorem putl_9K (sec : Bool) (nn : Int) (U : Nat) (ii : Int) (bv : Value) (s : ByteArray) (la : Option Addr) (n lc : Nat) (L : List Int) (bw : Nat) (v : Value) (xs : List Int) (ad : Nat → Addr) (w : World) (h : Wr w bw v xs) (hx : xs.length ≤ 70368744177664)
    (hn : n = L.length) (hL : IntsAt w la L) (hz : la = none → lc = 0) (hI : IsInts L) (hnl : n ≤ 1048576) (hE : ∀ W2, Kept (WF bw v) w W2 → Es8K W2 ad) :
    Calls Tryd.prog 40 #[.pointer (some ⟨bw, 0, none⟩), .agg #[.int .i64 9, .bool sec, .int .i64 nn, .int .u64 (U : Int), .int .i64 ii, bv, .string s, .slice la n lc]] w fun e w' => ∃ va, e = .returned (.tuple #[va, .bool true]) ∧ PutK w w' bw v xs (pbo L) va := by
  obtain ⟨W0, hW0⟩ : ∃ W0, W0 = w.alloc (.cells #[.int .i64 9, .bool sec, .int .i64 nn, .int .u64 (U : Int), .int .i64 ii, bv, .string s, .slice la n lc] 37) := ⟨_, rfl⟩
  have k0 : Kept (fun _ => False) w W0 := by rw [hW0]; exact Kept.alloc w _
  have hb : W0.heap[w.heap.size]? = some (.cells #[.int .i64 9, .bool sec, .int .i64 nn, .int .u64 (U : Int), .int .i64 ii, bv, .string s, .slice la n lc] 37 (0, 0)) := by rw [hW0]; exact heap_alloc_new w _
  have s0 : W0.heap.size = w.heap.size + 1 := by rw [hW0]; simp
  have c0 : W0.cell? ⟨w.heap.size, 0, none⟩ = some (.int .i64 9) := by rw [cell_of_row _ _ _ _ _ _ hb]; rfl
  have c7 : W0.cell? ⟨w.heap.size, 7, none⟩ = some (.slice la n lc) := by rw [cell_of_row _ _ _ _ _ _ hb]; rfl
  have CH := hideH (handB_anyJ L la n lc W0 hn (hL.keptK k0) hz (by omega))
  have HC0 := hideH c0
  have HC7 := hideH c7
  have H := hideH h
  have HK0 := hideH k0
  have HNB := hideH hn
  have HLA := hideH hL
  have HII := hideH hI
  have HEE := hideH hE
  rw [hW0] at c7
  have HW0 := hideH hW0
  clear h hb k0 hn hL hz hI hE
  go_enter Tryd.func40, Tryd.ntmps40
  go_wp2_with (go_at_call 68; refine StpH.go ?_)
  rw [← HW0.out]
  refine ⟨?_⟩
  refine CH.out.mono ?_
  clear CH HW0 hW0 c0 c7
  rintro e W1 ⟨hbk, f, cf, q, cq, rfl, hd1, g1, g2, g3, k1⟩
  obtain ⟨Wv, hWv⟩ : ∃ Wv, Wv = W1.alloc (.cells #[] 5) := ⟨_, rfl⟩
  have ka : Kept (fun _ => False) W1 Wv := by rw [hWv]; exact Kept.alloc W1 _
  have hO : Wv.ownsRow W1.heap.size 5 1 (.slice (some ⟨W1.heap.size, 0, none⟩) 0 0) 0 (bs []) := by rw [hWv]; exact ⟨rfl, .inr ⟨W1.heap.size, 0, #[], rfl, Nat.le_refl _, heap_alloc_new W1 _, Nat.le_refl _, Nat.zero_le _, rfl, rfl⟩⟩
  have kv : Kept (fun _ => False) W0 Wv := k1.trans ka (fun _ f => f.elim)
  have y0 := kv.cell HC0.out (fun f => f)
  have y7 := kv.cell HC7.out (fun f => f)
  have hdv := hd1.later ka
  have s1 : f < W1.heap.size ∧ q < W1.heap.size := ⟨hd1.full.lt rfl, hd1.want.lt rfl⟩
  have sv : W1.heap.size ≤ Wv.heap.size := ka.size
  have k0v : Kept (fun _ => False) w Wv := HK0.out.trans kv (fun _ f => f.elim)
  have HKV := hideH k0v
  have HDV := hideH hdv
  have HWV := hideH hWv
  rw [hWv] at y0 y7
  have hwl : ∀ k, WF bw v k → k < w.heap.size := fun k hk => wf_ltK H.out hk
  have HWL := hideH hwl
  have s01 : w.heap.size ≤ W1.heap.size := (HK0.out.trans k1 (fun _ f => f.elim)).size
  have CR := hideH (dpk_allK L la lc Wv (HLA.out.keptK k0v) HII.out (by rw [← HNB.out]; exact hnl))
  rw [← HNB.out, hWv] at CR
  clear hd1 k1 ka hO kv k0v hdv hwl HC0 HC7 HK0
  go_wp2_with (go_at_call 72; refine StpH.go ?_)
  refine ⟨?_⟩
  refine CR.out.mono ?_
  clear CR
  rw [← hWv]
  rintro e W2 ⟨va, rfl, hG⟩
  have hd2 := HDV.out.later hG.kept
  have CG := hideH (give_anyJ hbk f cf q cq n (L ++ hrmJ 80) W2 hd2)
  have HD2 := hideH hd2
  have HG := hideH hG
  clear hd2 hG y0 y7 HDV
  go_wp2_with (go_at_call 71; refine StpH.go ?_)
  refine ⟨?_⟩
  refine CG.out.mono ?_
  clear CG
  rintro e W3 ⟨rfl, k3⟩
  have hd3 := HD2.out.later k3
  have k03 : Kept (fun _ => False) w W3 := (HKV.out.trans HG.out.kept (fun _ f => f.elim)).trans k3 (fun _ f => f.elim)
  have hfar : IntsFar W3 (some ⟨f, 0, none⟩) L bw v := fun hne => by
    obtain ⟨b, off, e, hc⟩ := (hd3.full.ints).1.headK hne
    refine ⟨b, off, e, fun r => ?_, hc⟩
    have e2 : f = b := by simp only [Option.some.injEq, Addr.mk.injEq] at e; exact e.1
    have := HWL.out b r
    omega
  have CW := hideH (wpack_allK bw v xs L (some ⟨f, 0, none⟩) cf ad W3 (H.out.kept k03 (fun _ _ f => f)) hfar HII.out (by rw [← HNB.out]; exact hnl) hx (HEE.out W3 (k03.mono (fun _ f => f.elim))))
  rw [← HNB.out] at CW
  have o3 := k3.row HG.out.own (fun _ _ f => f)
  have HD3 := hideH hd3
  have HK03 := hideH k03
  have HO3 := hideH o3
  have s23 : W2.heap.size ≤ W3.heap.size := k3.size
  have s2 : Wv.heap.size ≤ W2.heap.size := HG.out.kept.size
  have HGL : Hid (∀ k, va.ownBlock = some k → Wv.heap.size ≤ k ∧ k < W2.heap.size) := hideH (fun k e => HG.out.own.lt k e)
  clear hd3 k03 hfar k3 o3 HD2 HG HKV
  go_wp2_with (go_at_call 73; refine StpH.go ?_)
  refine ⟨?_⟩
  refine CW.out.mono ?_
  clear CW
  rintro e W4 ⟨rfl, v1, hw4, st4⟩
  have hd4 := HD3.out.kept st4.kept (fun q => by have := HWL.out _ q; omega) (fun q => by have := HWL.out _ q; omega) (fun q => by have := HWL.out _ q; omega)
  have o4 := st4.kept.row HO3.out (fun k e r => by have h1 := HGL.out k e; have h2 := HWL.out k r; omega)
  have CN : Hid (Calls Tryd.prog 22 #[EvK ad (pko L)] W4 fun e w' => e = .returned (.int .i64 ((pko L : Nat) : Int)) ∧ w' = W4) := hideH (pko_numK L ad W4 (HEE.out W4 ((HK03.out.mono (fun _ f => f.elim)).trans st4.kept (fun _ e => .inl e))))
  have HD4 := hideH hd4
  have HO4 := hideH o4
  have HW4 := hideH hw4
  have HS4 := hideH st4
  clear hd4 o4 hw4 st4 HD3 HO3
  have CS := hideH (same_anyJ hbk f cf q cq n (L ++ hrmJ 80) W4 HD4.out hnl)
  obtain ⟨kn, hkn⟩ : ∃ kn : Nat, kn = pko L := ⟨_, rfl⟩
  rw [← hkn] at CN ⊢
  obtain ⟨ev, hev⟩ : ∃ ev, ev = EvK ad kn := ⟨_, rfl⟩
  rw [← hev] at CN ⊢
  clear hkn hev
  have dk : ((kn : Int) == (kn : Int)) = true := by rw [beq_iff_eq]
  go_wp2_with (go_at_call 22; refine StpH.go ?_)
  refine ⟨?_⟩
  refine CN.out.mono ?_
  clear CN
  rintro e Wn ⟨rfl, rfl⟩
  go_wp2_with (go_at_call 74; refine StpH.go ?_)
  refine ⟨?_⟩
  refine CS.out.mono ?_
  clear CS
  rintro e W5 ⟨rfl, k5⟩
  have CP := hideH (spoil_anyJ hbk f cf q cq n (L ++ hrmJ 80) W5 (HD4.out.later k5) (by omega))
  have HK5 := hideH k5
  clear k5
  go_wp2_with (go_at_call 75; refine StpH.go ?_)
  refine ⟨?_⟩
  refine CP.out.mono ?_
  clear CP
  rintro e W6 ⟨rfl, -, k6⟩
  have k46 : Kept (fun k => k = f ∨ k = q) Wn W6 := (HK5.out.mono (fun _ f => f.elim)).trans k6 (fun _ e => .inl e)
  have hv1 : ∀ k, WF bw v1 k → k < w.heap.size ∨ W3.heap.size ≤ k := fun k hk => hk.elim (fun e => .inl (HWL.out k (.inl e))) (fun e => (HS4.out.new k e).imp (fun e => HWL.out k (.inr e)) id)
  have hw6 := HW4.out.kept k46 (fun k hk e => by have := hv1 k hk; omega)
  have st6 : WStep w W6 bw v v1 := ⟨((HK03.out.mono (fun _ f => f.elim)).trans HS4.out.kept (fun _ e => .inl e)).trans k46 (fun k e => .inr (by omega)), fun k e => (HS4.out.new k e).imp id (fun r => Nat.le_trans HK03.out.size r)⟩
  have o6 := k46.row HO4.out (fun k e r => by have := HGL.out k e; omega)
  have HP : Hid (PutK w W6 bw v xs (pbo L) va) := hideH (PutK.of3 hw6 st6 o6 (by omega) (fun k e r => by have h1 := HGL.out k e; have h2 := hv1 k r; omega))
  clear k46 hv1 hw6 st6 o6 k6 HK5 HD4 HO4 HW4 HS4
  go_wp2_with fail
  go_ret2
  exact ⟨_, rfl, HP.out⟩
end Go.Proofs.YtjmmdklgkcbihaaDoor
