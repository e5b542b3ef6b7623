import Derived.Test.YtcbhgpdookappaaDoorDtq
import Derived.Laws.Tables
import Derived.Deep.Cut
import Derived.Deep.RegionHeld3
namespace Go.Proofs.YtcbhgpdookappaaDoor.Ds
open Go.ChangeShapes Go.WideShapes Go.ChangeAt Go.RowKit

theorem psum_cnt (b : Nat → Nat) : psum b 4 = cnt b 256 := by
  have h1 := cnt_words b 0
  have h2 := cnt_words b 1
  have h3 := cnt_words b 2
  have h4 := cnt_words b 3
  have e1 : cnt b (64 * (0 + 1)) = cnt b (64 * 1) := rfl
  have e2 : cnt b (64 * (1 + 1)) = cnt b (64 * 2) := rfl
  have e3 : cnt b (64 * (2 + 1)) = cnt b (64 * 3) := rfl
  have e4 : cnt b (64 * (3 + 1)) = cnt b 256 := rfl
  rw [← e4, h4, ← e3, h3, ← e2, h2, ← e1, h1]
  simp only [psum, cnt]
theorem mem_lw (n i : Nat) : mem (lw n) i = decide (i < n) := by
  unfold mem lw
  rw [Nat.testBit_two_pow_sub_one]
  by_cases h : i < n
  · simp [h]; omega
  · simp [h]; omega
theorem mem_minus (b c : Nat → Nat) (i : Nat) : mem (minusB b c) i = (mem b i && !mem c i) := by
  unfold mem minusB
  rw [Nat.testBit_xor, Nat.testBit_and]
  cases (b (i / 64)).testBit (i % 64) <;> cases (c (i / 64)).testBit (i % 64) <;> rfl
theorem mem_and (b c : Nat → Nat) (i : Nat) : mem (andB b c) i = (mem b i && mem c i) := by
  unfold mem andB
  rw [Nat.testBit_and]
theorem mem_or (b c : Nat → Nat) (i : Nat) : mem (orB b c) i = (mem b i || mem c i) := by
  unfold mem orB
  rw [Nat.testBit_or]
theorem cnt_above (b : Nat → Nat) (wd : Nat) (h : ∀ i, mem b i = true → i < wd) : ∀ m, wd ≤ m → cnt b m = cnt b wd
  | 0, hm => by obtain rfl : wd = 0 := by omega
                rfl
  | m + 1, hm => by
    by_cases e : wd = m + 1
    · rw [e]
    · rw [cnt, cnt_above b wd h m (by omega)]
      have : mem b m = false := by
        cases hb : mem b m with
        | false => rfl
        | true => have := h m hb; omega
      simp [this]
theorem cnt_holes (b : Nat → Nat) (wd : Nat) : ∀ m, m ≤ wd → cnt (minusB (lw wd) b) m + cnt b m = m
  | 0, _ => rfl
  | m + 1, h => by
    have ih := cnt_holes b wd m (by omega)
    have e : mem (minusB (lw wd) b) m = !mem b m := by
      rw [mem_minus, mem_lw]; simp; omega
    rw [cnt, cnt, e]
    cases mem b m <;> simp <;> omega
theorem psum_holes (b : Nat → Nat) (wd : Nat) (hw : wd ≤ 256) (h : ∀ i, mem b i = true → i < wd) : psum (minusB (lw wd) b) 4 = wd - psum b 4 := by
  have h1 := cnt_holes b wd wd (Nat.le_refl _)
  have h2 := cnt_above b wd h 256 hw
  have h3 := cnt_above (minusB (lw wd) b) wd (fun i hi => by rw [mem_minus, mem_lw] at hi; simp at hi; exact hi.1) 256 hw
  rw [psum_cnt, psum_cnt, h2, h3]
  omega
theorem psum_wd (b : Nat → Nat) (wd : Nat) (hw : wd ≤ 256) (h : ∀ i, mem b i = true → i < wd) : psum b 4 ≤ wd := by
  rw [psum_cnt, cnt_above b wd h 256 hw]
  exact cnt_le _ _
/-- A block's bytes. -/
def encB (b : Nat → Nat) (wd : Nat) : List Nat :=
  tagN (psum b 4) wd :: (if tagN (psum b 4) wd = 2 then (psum b 4 - 1) :: blist b else if tagN (psum b 4) wd = 3 then (wd - psum b 4 - 1) :: blist (minusB (lw wd) b) else if tagN (psum b 4) wd = 4 then bitsN b ((wd + 7) / 8) else [])
theorem tagN_le (c wd : Nat) : tagN c wd ≤ 4 := by
  unfold tagN
  split
  · omega
  split
  · omega
  split
  · omega
  split <;> omega
/-- The cells of an encoded block. -/
def EcV (C : Array Value) (L : List Nat) : Prop := C.size = 34 ∧ C[33]? = some (Value.int .i64 (L.length : Int)) ∧ (∀ k x : Nat, L[k]? = some x → C[k]? = some (Value.int .u8 (x : Int))) ∧ (∀ k : Nat, k < 33 → ∃ x : Int, C[k]? = some (Value.int .u8 x)) ∧ L.length ≤ 33
theorem EcAt.cells {W : World} {e : Nat} {L : List Nat} (h : EcAt W e L) : ∃ C, W.heap[e]? = some (.cells C 81 (0, 0)) ∧ EcV C L := h
theorem EcV.all {C : Array Value} {L : List Nat} (h : EcV C L) : C.all (·.oneCell') = true := by
  rw [Array.all_eq_true]
  intro i hi
  rcases Nat.lt_or_ge i 33 with h1 | h1
  · obtain ⟨x, hx⟩ := h.2.2.2.1 i h1
    rw [Array.getElem?_eq_getElem hi] at hx
    rw [Option.some.inj hx]
    rfl
  · have e : i = 33 := by have := h.1; omega
    subst e
    have hx := h.2.1
    rw [Array.getElem?_eq_getElem hi] at hx
    rw [Option.some.inj hx]
    rfl
def zE : Array Value := #[.int .u8 0, .int .u8 0, .int .u8 0, .int .u8 0, .int .u8 0, .int .u8 0, .int .u8 0, .int .u8 0, .int .u8 0, .int .u8 0, .int .u8 0, .int .u8 0, .int .u8 0, .int .u8 0, .int .u8 0, .int .u8 0, .int .u8 0, .int .u8 0, .int .u8 0, .int .u8 0, .int .u8 0, .int .u8 0, .int .u8 0, .int .u8 0, .int .u8 0, .int .u8 0, .int .u8 0, .int .u8 0, .int .u8 0, .int .u8 0, .int .u8 0, .int .u8 0, .int .u8 0, .int .i64 0]
theorem zE_v : EcV zE [] := by
  refine ⟨rfl, rfl, fun k x h => by simp at h, fun k hk => ⟨0, ?_⟩, by simp⟩
  have e : zE = (Array.replicate 33 (Value.int .u8 0)).push (Value.int .i64 0) := rfl
  rw [e, Array.getElem?_push, if_neg (by simp; omega), Array.getElem?_replicate, if_pos hk]
theorem size_ec : (Tryd.prog.info? 81).map (·.size) = some 34 := by kernel_rfl
theorem kept_setRow (W : World) (g : Nat) (C : Array Value) : Kept (fun k => k = g) W (W.setRow g C) :=
  ⟨rfl, rfl, rfl, by simp, fun k _ hk => setRow_other W g k _ hk⟩
set_option maxRecDepth 20000 in
set_option maxHeartbeats 8000000 in
theorem encodeBlock_any (b : Nat → Nat) (hb : BOk b) (wd : Nat) (hw : wd ≤ 256) (ht : ∀ i, mem b i = true → i < wd) (w : World) (hD : DbAt w) :
    Calls Tryd.prog 42 #[.agg (bw b), .int .i64 wd] w fun r w' => ∃ C, r = .returned (.agg C) ∧ EcV C (encB b wd) ∧ Kept (fun _ => False) w w' := by
  have hcw := psum_wd b wd hw ht
  have BC := hideD (fun W => bcount_any b hb W)
  have TG := hideD (fun W => tagOf_any (psum b 4) wd hcw hw W)
  go_enter Tryd.func42, Tryd.ntmps42
  have hT := tagN_le (psum b 4) wd
  obtain ⟨T, hTd⟩ : ∃ T, T = tagN (psum b 4) wd := ⟨_, rfl⟩
  have HT := hideD hTd
  rw [← hTd] at TG hT
  have hTw : IntKind.u8.wrap (T : Int) = (T : Int) := by rw [IntKind.wrap_u8]; omega
  have PT := hideD (fun (e : Nat) (L' : List Nat) (x : Nat) (W : World) (h : EcAt W e L') (hl : L'.length < 33) => put_any e x L' W h hl)
  have HD := hideD hD
  obtain ⟨c, hc⟩ : ∃ c, c = psum b 4 := ⟨_, rfl⟩
  rw [← hc] at BC TG hcw
  have HC := hideD hc
  clear hTd hc hD
  go_upto_region 2 with fail
  rw [show (#[Value.int .u8 0, .int .u8 0, .int .u8 0, .int .u8 0, .int .u8 0, .int .u8 0, .int .u8 0, .int .u8 0, .int .u8 0, .int .u8 0, .int .u8 0, .int .u8 0, .int .u8 0, .int .u8 0, .int .u8 0, .int .u8 0, .int .u8 0, .int .u8 0, .int .u8 0, .int .u8 0, .int .u8 0, .int .u8 0, .int .u8 0, .int .u8 0, .int .u8 0, .int .u8 0, .int .u8 0, .int .u8 0, .int .u8 0, .int .u8 0, .int .u8 0, .int .u8 0, .int .u8 0, .int .i64 0] : Array Value) = zE from rfl]
  obtain ⟨W, hW⟩ : ∃ W, W = ((w.alloc (.cells (bw b) 73)).alloc (.cells zE 81)).alloc (.cells zE 81) := ⟨_, rfl⟩
  have HKW := hideD (show Kept (fun _ => False) w W from by rw [hW]; exact ((Kept.alloc _ _).trans (Kept.alloc _ _) (fun _ f => f.elim)).trans (Kept.alloc _ _) (fun _ f => f.elim))
  have HW0 := hideD (show W.heap[w.heap.size]? = some (.cells (bw b) 73 (0, 0)) from by rw [hW]; exact (Kept.alloc _ _).heap ((Kept.alloc _ _).heap (heap_alloc_new w _) (fun f => f)) (fun f => f))
  have HW1 := hideD (show W.heap[w.heap.size + 1]? = some (.cells zE 81 (0, 0)) from by
    rw [hW]
    have := heap_alloc_new (w.alloc (.cells (bw b) 73)) (.cells zE 81)
    rw [World.size_alloc] at this
    exact (Kept.alloc _ _).heap this (fun f => f))
  have HW2 := hideD (show EcAt W (w.heap.size + 1 + 1) [] from by
    rw [hW]
    have := heap_alloc_new ((w.alloc (.cells (bw b) 73)).alloc (.cells zE 81)) (.cells zE 81)
    rw [World.size_alloc, World.size_alloc] at this
    exact ⟨zE, this, zE_v⟩)
  have HSW := hideD (show W.heap.size = w.heap.size + 3 from by rw [hW]; simp)
  rw [← hW]
  clear hW
  obtain ⟨d0, d1, d2, d3⟩ := bw_cells b HW0.out
  have NX := hideD (fun (W1 : World) (K1 : Kept (fun _ => False) W W1) => show EcAt W1 (w.heap.size + 1 + 1) [] from HW2.out.kept K1 (fun f => f))
  go_upto_region 4 with (first
    | (go_at_call 52; refine (BC.out _).mono ?_; rintro r W1 ⟨rfl, K1⟩; have E1 := NX.out _ K1; have HK1 := hideD K1; clear K1)
    | (go_at_call 67; refine (TG.out _).mono ?_; rintro r W1' ⟨rfl, rfl⟩)
    | (go_at_call 68; refine (PT.out _ [] T _ E1 (by decide)).mono ?_; rintro r W2 ⟨⟨v, rfl⟩, E2, K2⟩; have HE2 := hideD E2; have HK2 := hideD K2; clear E2 K2 E1))
  have K12 := hideD (show Kept (fun i => i = w.heap.size + 1 + 1) W W2 from (HK1.out.mono (fun _ f => f.elim)).trans HK2.out (fun i hi => .inl hi))
  have hw24 : 24 < w.heap.size := World.block_lt_of_cell? w _ (HD.out 0 0 rfl)
  have HD2 := hideD (show DbAt W2 from fun i x hx => K12.out.cell (HKW.out.cell (HD.out i x hx) (fun f => f)) (fun f => by have : 24 = w.heap.size + 1 + 1 := f; omega))
  have HB2 := hideD (K12.out.heap HW0.out (by omega))
  have HBB := hideD hb
  have HTT := hideD ht
  rcases (show T = 0 ∨ T = 1 ∨ T = 2 ∨ T = 3 ∨ T = 4 by omega) with eT | eT | eT | eT | eT
  · have q2 : ((T : Int) == 2) = false := by rw [eT]; rfl
    have q3 : ((T : Int) == 3) = false := by rw [eT]; rfl
    have q4 : ((T : Int) == 4) = false := by rw [eT]; rfl
    have ET := hideD eT
    clear eT
    have HE9 := HE2
    have HK9 := hideD (show Kept (fun i => i = w.heap.size + 1 + 1) W W2 from (HK1.out.mono (fun _ f => f.elim)).trans HK2.out (fun i hi => .inl hi))
    clear d0 d1 d2 d3
    go_upto_region 11 with fail
    obtain ⟨C, g1, gv⟩ := HE9.out.cells
    have g2 := HK9.out.heap HW1.out (by omega)
    have gz : (Tryd.prog.info? 81).map (·.size) = some C.size := by rw [gv.1]; exact size_ec
    have gz2 : zE.size = C.size := by rw [gv.1]; rfl
    have ga := gv.all
    have GV := hideD gv
    have G3 := hideD (setRow_heap W2 (w.heap.size + 1) zE C 81 (0, 0) g2)
    clear gv
    go_wp2_with (first
      | (refine wpList_load_row rfl 81 _ rfl (w.heap.size + 1 + 1) rfl 81 C (0, 0) _ g1 Tryd.underlying81 rfl gz ?_)
      | (refine wpList_store_row rfl 81 _ _ rfl (w.heap.size + 1) C rfl rfl 81 zE g2 gz gz2 ga ?_))
    refine bodyPost_ret (results_cell_row rfl _ _ (w.heap.size + 1) _ _ _ _ rfl G3.out Tryd.underlying81 rfl gz) rfl ?_
    refine ⟨C, rfl, ?_, (HKW.out.trans HK9.out (fun i hi => .inr (by have : i = w.heap.size + 1 + 1 := hi; omega))).trans (kept_setRow _ _ _) (fun i hi => .inr (by have : i = w.heap.size + 1 := hi; omega))⟩
    have e := GV.out
    unfold encB
    rw [← HT.out, ET.out]
    rw [ET.out] at e
    exact e
  · have q2 : ((T : Int) == 2) = false := by rw [eT]; rfl
    have q3 : ((T : Int) == 3) = false := by rw [eT]; rfl
    have q4 : ((T : Int) == 4) = false := by rw [eT]; rfl
    have ET := hideD eT
    clear eT
    have HE9 := HE2
    have HK9 := hideD (show Kept (fun i => i = w.heap.size + 1 + 1) W W2 from (HK1.out.mono (fun _ f => f.elim)).trans HK2.out (fun i hi => .inl hi))
    clear d0 d1 d2 d3
    go_upto_region 11 with fail
    obtain ⟨C, g1, gv⟩ := HE9.out.cells
    have g2 := HK9.out.heap HW1.out (by omega)
    have gz : (Tryd.prog.info? 81).map (·.size) = some C.size := by rw [gv.1]; exact size_ec
    have gz2 : zE.size = C.size := by rw [gv.1]; rfl
    have ga := gv.all
    have GV := hideD gv
    have G3 := hideD (setRow_heap W2 (w.heap.size + 1) zE C 81 (0, 0) g2)
    clear gv
    go_wp2_with (first
      | (refine wpList_load_row rfl 81 _ rfl (w.heap.size + 1 + 1) rfl 81 C (0, 0) _ g1 Tryd.underlying81 rfl gz ?_)
      | (refine wpList_store_row rfl 81 _ _ rfl (w.heap.size + 1) C rfl rfl 81 zE g2 gz gz2 ga ?_))
    refine bodyPost_ret (results_cell_row rfl _ _ (w.heap.size + 1) _ _ _ _ rfl G3.out Tryd.underlying81 rfl gz) rfl ?_
    refine ⟨C, rfl, ?_, (HKW.out.trans HK9.out (fun i hi => .inr (by have : i = w.heap.size + 1 + 1 := hi; omega))).trans (kept_setRow _ _ _) (fun i hi => .inr (by have : i = w.heap.size + 1 := hi; omega))⟩
    have e := GV.out
    unfold encB
    rw [← HT.out, ET.out]
    rw [ET.out] at e
    exact e
  · have q2 : ((T : Int) == 2) = true := by rw [eT]; rfl
    have q3 : ((T : Int) == 3) = false := by rw [eT]; rfl
    have q4 : ((T : Int) == 4) = false := by rw [eT]; rfl
    have ET := hideD eT
    clear eT
    have htag : 1 ≤ c ∧ 2 + c ≤ 1 + (wd + 7) / 8 := by
      have h := HT.out
      rw [ET.out, ← HC.out] at h
      unfold tagN at h
      split at h
      · omega
      split at h
      · omega
      split at h
      · omega
      split at h <;> omega
    obtain ⟨f0, f1, f2, f3⟩ := bw_cells b HB2.out
    have PL := hideD (putList_any (w.heap.size + 1 + 1) b HBB.out [T] (by rw [← HC.out]; omega) (by rw [← HC.out]; simp only [List.length_cons, List.length_nil]; omega) W2 HE2.out HD2.out (by omega))
    clear d0 d1 d2 d3 htag
    go_upto_region 11 with (go_at_call 69; refine PL.out.mono ?_; rintro r W9 ⟨⟨v9, rfl⟩, E9, K9⟩; have HE9 := hideD E9; have HK9 := hideD (K12.out.trans K9 (fun i hi => .inl hi)); clear E9 K9)
    clear f0 f1 f2 f3
    obtain ⟨C, g1, gv⟩ := HE9.out.cells
    have g2 := HK9.out.heap HW1.out (by omega)
    have gz : (Tryd.prog.info? 81).map (·.size) = some C.size := by rw [gv.1]; exact size_ec
    have gz2 : zE.size = C.size := by rw [gv.1]; rfl
    have ga := gv.all
    have GV := hideD gv
    have G3 := hideD (setRow_heap W9 (w.heap.size + 1) zE C 81 (0, 0) g2)
    clear gv
    go_wp2_with (first
      | (refine wpList_load_row rfl 81 _ rfl (w.heap.size + 1 + 1) rfl 81 C (0, 0) _ g1 Tryd.underlying81 rfl gz ?_)
      | (refine wpList_store_row rfl 81 _ _ rfl (w.heap.size + 1) C rfl rfl 81 zE g2 gz gz2 ga ?_))
    refine bodyPost_ret (results_cell_row rfl _ _ (w.heap.size + 1) _ _ _ _ rfl G3.out Tryd.underlying81 rfl gz) rfl ?_
    refine ⟨C, rfl, ?_, (HKW.out.trans HK9.out (fun i hi => .inr (by have : i = w.heap.size + 1 + 1 := hi; omega))).trans (kept_setRow _ _ _) (fun i hi => .inr (by have : i = w.heap.size + 1 := hi; omega))⟩
    have e := GV.out
    unfold encB
    rw [← HT.out, ET.out]
    rw [ET.out] at e
    simpa using e
  · have q2 : ((T : Int) == 2) = false := by rw [eT]; rfl
    have q3 : ((T : Int) == 3) = true := by rw [eT]; rfl
    have q4 : ((T : Int) == 4) = false := by rw [eT]; rfl
    have ET := hideD eT
    clear eT
    have htag : 1 ≤ wd - c ∧ 2 + wd - c ≤ 1 + (wd + 7) / 8 := by
      have h := HT.out
      rw [ET.out, ← HC.out] at h
      unfold tagN at h
      split at h
      · omega
      split at h
      · omega
      split at h
      · omega
      split at h <;> omega
    have hph := psum_holes b wd hw HTT.out
    rw [← HC.out] at hph
    obtain ⟨f0, f1, f2, f3⟩ := bw_cells b HB2.out
    have LO := hideD (fun W => lowest_any wd (by omega) W)
    have MI := hideD (fun W => minus_any (lw wd) b (lw_lt wd) HBB.out W)
    have PL := hideD (fun (W3 : World) (K3 : Kept (fun _ => False) W2 W3) => putList_any (w.heap.size + 1 + 1) (minusB (lw wd) b) (minusB_ok (lw_lt wd)) [T] (by rw [hph]; omega) (by rw [hph]; simp only [List.length_cons, List.length_nil]; omega) W3 (HE2.out.kept K3 (fun f => f)) (fun i x hx => K3.cell (HD2.out i x hx) (fun f => f)) (by omega))
    rw [hph] at PL
    have SX := hideD (fun (W3 : World) (K3 : Kept (fun _ => False) W2 W3) => bw_cells b (K3.heap HB2.out (fun f => f)))
    have hwd1 : wd ≤ 1048576 := by omega
    clear d0 d1 d2 d3 htag hph
    go_upto_region 8 with fail
    go_region_held3 (fun W3 => W3.cell? ⟨w.heap.size, 0, none⟩ = some (.int .u64 (b 0 : Nat)) ∧ W3.cell? ⟨w.heap.size, 1, none⟩ = some (.int .u64 (b 1 : Nat)) ∧ W3.cell? ⟨w.heap.size, 2, none⟩ = some (.int .u64 (b 2 : Nat)) ∧ W3.cell? ⟨w.heap.size, 3, none⟩ = some (.int .u64 (b 3 : Nat)))
      (first
        | exact SX.out _ (((Kept.drew _).trans HK3.out (fun _ f => f.elim)).trans HK4.out (fun _ f => f.elim))
        | exact SX.out _ ((Kept.drew _).trans HK3.out (fun _ f => f.elim))
        | exact SX.out _ (Kept.drew _)
        | exact HS9.out)
      (first
        | (go_at_call 54; refine (LO.out _).mono ?_; rintro e W3 ⟨rfl, K3⟩; have HK3 := hideD K3; clear K3)
        | (go_at_call 56; refine (MI.out _).mono ?_; rintro e W4 ⟨rfl, K4⟩; have HK4 := hideD K4; clear K4)
        | (go_at_call 69; refine (PL.out _ (((Kept.drew _).trans HK3.out (fun _ f => f.elim)).trans HK4.out (fun _ f => f.elim))).mono ?_; rintro r W9 ⟨⟨v9, rfl⟩, E9, K9⟩; have HE9 := hideD E9; have HK9 := hideD (K12.out.trans (((((Kept.drew _).trans HK3.out (fun _ f => f.elim)).trans HK4.out (fun _ f => f.elim)).mono (fun _ f => f.elim)).trans K9 (fun i hi => .inl hi)) (fun i hi => .inl hi)); have HS9 := hideD (bw_cells b (K9.heap ((((Kept.drew _).trans HK3.out (fun _ f => f.elim)).trans HK4.out (fun _ f => f.elim)).heap HB2.out (fun f => f)) (by omega))); clear E9 K9))
    clear f0 f1 f2 f3
    go_upto_region 11 with fail
    obtain ⟨C, g1, gv⟩ := HE9.out.cells
    have g2 := HK9.out.heap HW1.out (by omega)
    have gz : (Tryd.prog.info? 81).map (·.size) = some C.size := by rw [gv.1]; exact size_ec
    have gz2 : zE.size = C.size := by rw [gv.1]; rfl
    have ga := gv.all
    have GV := hideD gv
    have G3 := hideD (setRow_heap W9 (w.heap.size + 1) zE C 81 (0, 0) g2)
    clear gv
    go_wp2_with (first
      | (refine wpList_load_row rfl 81 _ rfl (w.heap.size + 1 + 1) rfl 81 C (0, 0) _ g1 Tryd.underlying81 rfl gz ?_)
      | (refine wpList_store_row rfl 81 _ _ rfl (w.heap.size + 1) C rfl rfl 81 zE g2 gz gz2 ga ?_))
    refine bodyPost_ret (results_cell_row rfl _ _ (w.heap.size + 1) _ _ _ _ rfl G3.out Tryd.underlying81 rfl gz) rfl ?_
    refine ⟨C, rfl, ?_, (HKW.out.trans HK9.out (fun i hi => .inr (by have : i = w.heap.size + 1 + 1 := hi; omega))).trans (kept_setRow _ _ _) (fun i hi => .inr (by have : i = w.heap.size + 1 := hi; omega))⟩
    have e := GV.out
    unfold encB
    rw [← HT.out, ET.out]
    rw [ET.out] at e
    simpa [HC.out] using e
  · have q2 : ((T : Int) == 2) = false := by rw [eT]; rfl
    have q3 : ((T : Int) == 3) = false := by rw [eT]; rfl
    have q4 : ((T : Int) == 4) = true := by rw [eT]; rfl
    have ET := hideD eT
    clear eT
    obtain ⟨f0, f1, f2, f3⟩ := bw_cells b HB2.out
    have PL := hideD (putBits_any (w.heap.size + 1 + 1) b HBB.out [T] wd hw (by simp only [List.length_cons, List.length_nil]; omega) W2 HE2.out)
    clear d0 d1 d2 d3
    go_upto_region 11 with (go_at_call 70; refine PL.out.mono ?_; rintro r W9 ⟨⟨v9, rfl⟩, E9, K9⟩; have HE9 := hideD E9; have HK9 := hideD (K12.out.trans K9 (fun i hi => .inl hi)); clear E9 K9)
    clear f0 f1 f2 f3
    obtain ⟨C, g1, gv⟩ := HE9.out.cells
    have g2 := HK9.out.heap HW1.out (by omega)
    have gz : (Tryd.prog.info? 81).map (·.size) = some C.size := by rw [gv.1]; exact size_ec
    have gz2 : zE.size = C.size := by rw [gv.1]; rfl
    have ga := gv.all
    have GV := hideD gv
    have G3 := hideD (setRow_heap W9 (w.heap.size + 1) zE C 81 (0, 0) g2)
    clear gv
    go_wp2_with (first
      | (refine wpList_load_row rfl 81 _ rfl (w.heap.size + 1 + 1) rfl 81 C (0, 0) _ g1 Tryd.underlying81 rfl gz ?_)
      | (refine wpList_store_row rfl 81 _ _ rfl (w.heap.size + 1) C rfl rfl 81 zE g2 gz gz2 ga ?_))
    refine bodyPost_ret (results_cell_row rfl _ _ (w.heap.size + 1) _ _ _ _ rfl G3.out Tryd.underlying81 rfl gz) rfl ?_
    refine ⟨C, rfl, ?_, (HKW.out.trans HK9.out (fun i hi => .inr (by have : i = w.heap.size + 1 + 1 := hi; omega))).trans (kept_setRow _ _ _) (fun i hi => .inr (by have : i = w.heap.size + 1 := hi; omega))⟩
    have e := GV.out
    unfold encB
    rw [← HT.out, ET.out]
    rw [ET.out] at e
    simpa using e
end Go.Proofs.YtcbhgpdookappaaDoor.Ds
