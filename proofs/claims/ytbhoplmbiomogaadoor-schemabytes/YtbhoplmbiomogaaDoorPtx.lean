import Derived.Test.YtbhoplmbiomogaaDoorWfd
import Derived.Test.YtbhoplmbiomogaaDoorRtx
namespace Go.Proofs.YtbhoplmbiomogaaDoor
open Go.ChangeShapes Go.WideShapes Go.ChangeAt Go.RowKit

/-- Where a field lies. -/
def FdAtT (w : World) (b o : Nat) (f : Fd) : Prop := w.cell? ⟨b, o, none⟩ = some (.string f.n) ∧ w.cell? ⟨b, o + 1, none⟩ = some (.int .i64 f.k) ∧ w.cell? ⟨b, o + 2, none⟩ = some (.bool f.fo) ∧ w.cell? ⟨b, o + 3, none⟩ = some (.bool f.st) ∧ w.cell? ⟨b, o + 4, none⟩ = some (.bool f.se)
theorem gs_len {l : List Fd} (h : gschema l = true) : 1 ≤ l.length ∧ l.length ≤ 16 := by
  by_cases hc : 1 ≤ l.length ∧ l.length ≤ 16
  · exact hc
  · rw [gs_count hc] at h; cases h
theorem gs_mem {l : List Fd} (h : gschema l = true) {f : Fd} (hf : f ∈ l) : gfield f = true := by
  cases hg : gfield f with
  | true => rfl
  | false => rw [gs_field hf hg] at h; cases h
/-- The text grows by a field. -/
theorem stx_take {l : List Fd} {j : Nat} (h : j < l.length) (h0 : 0 < j) : stx (l.take (j + 1)) = (stx (l.take j) ++ [59]) ++ ftx l[j] := by
  rw [List.take_succ_eq_append_getElem h, stx_snoc _ _ (by intro e; have := congrArg List.length e; rw [List.length_take, List.length_nil] at this; omega), List.append_assoc]
  rfl
theorem stx_first {l : List Fd} (h : 0 < l.length) : stx (l.take 1) = ftx l[0] := by
  match l, h with
  | f :: r, _ => rfl
theorem stx_take_len {l : List Fd} (h : gschema l = true) (j : Nat) : (stx (l.take j)).length ≤ 56 * 16 := by
  have h1 := stx_len (l.take j) (fun f hf => gs_mem h (List.mem_of_mem_take hf))
  have h2 := gs_len h
  have h3 : (l.take j).length ≤ 16 := by rw [List.length_take]; omega
  exact Nat.le_trans h1 (Nat.mul_le_mul_left _ h3)
set_option maxRecDepth 20000 in
set_option maxHeartbeats 8000000 in
/-- The project's Text, at a schema that Check refuses. -/
theorem text_bad (l : List Fd) (a : Option Addr) (c : Nat) (te : TypeId) (pe : Value) (w : World) (hF : FsAt w a l) (hO : ∀ f ∈ l, f.Ok) (hl : l.length ≤ 4398046511104) (hE : w.cell? ⟨0, 0, none⟩ = some (.iface te pe)) (hg : gschema l = false) :
    Calls Tryd.prog 13 #[.agg #[.slice a l.length c]] w fun e w' => e = .returned (.tuple #[.string ⟨#[]⟩, .iface te pe]) ∧ Kept (fun _ => False) w w' := by
  have KA := Kept.alloc w (.cells #[.slice a l.length c] 24)
  have CC := hideW (check_any l a c te pe _ (hF.kept KA) hO hl (KA.cell hE (fun f => f)))
  rw [chk_bad _ hg] at CC
  have HE := hideW (KA.cell hE (fun f => f))
  have HK := hideW KA
  clear KA hE hF hO hg
  go_enter Tryd.func13, Tryd.ntmps13
  go_wp2_with (go_at_call 12; refine CC.out.mono ?_; clear CC; rintro e W1 ⟨rfl, K1⟩; have e1 := K1.cell HE.out (fun f => f))
  have HK1 := hideW (HK.out.trans K1 (fun _ f => f.elim))
  clear HE HK K1
  go_region
  all_goals go_wp2
  all_goals go_ret2
  all_goals exact ⟨rfl, HK1.out.trans (Kept.drew _) (fun _ f => f.elim)⟩
set_option maxRecDepth 20000 in
set_option maxHeartbeats 8000000 in
/-- The project's Text, at a good schema. -/
theorem text_good (l : List Fd) (a : Option Addr) (c : Nat) (te : TypeId) (pe : Value) (w : World) (hF : FsAt w a l) (hO : ∀ f ∈ l, f.Ok) (hl : l.length ≤ 4398046511104) (hE : w.cell? ⟨0, 0, none⟩ = some (.iface te pe)) (hW : Words w) (hg : gschema l = true) :
    Calls Tryd.prog 13 #[.agg #[.slice a l.length c]] w fun e w' => e = .returned (.tuple #[.string (bstr (stx l)), .nilIface]) ∧ Kept (fun _ => False) w w' := by
  have KA := Kept.alloc w (.cells #[.slice a l.length c] 24)
  have CC := hideW (check_any l a c te pe _ (hF.kept KA) hO hl (KA.cell hE (fun f => f)))
  rw [chk_good _ hg] at CC
  obtain ⟨fb, fo, rfl, hc⟩ := hF (by intro e; have := (gs_len hg).1; rw [e] at this; simp at this)
  have hl1 := gs_len hg
  have HG := hideW hg
  have hfb : fb < w.heap.size := World.block_lt_of_cell? w _ (hc 0 (by omega)).1
  have hg1 : 24 < w.heap.size := World.block_lt_of_cell? w _ hW.k0
  have hg2 : 25 < w.heap.size := World.block_lt_of_cell? w _ hW.m0
  have HC := hideW hc
  have HW := hideW hW
  have HK := hideW KA
  have BX : Hid ((w.alloc (.cells #[.slice (some ⟨fb, fo, none⟩) l.length c] 24)).cell? ⟨w.heap.size, 0, none⟩ = some (.slice (some ⟨fb, fo, none⟩) l.length c)) := hideW (by simp)
  clear KA hE hF hO hg hc hW
  obtain ⟨nl, hnl⟩ : ∃ nl, nl = l.length := ⟨_, rfl⟩
  rw [← hnl] at CC HK BX hl1 hl ⊢
  have HNL := hideW hnl
  clear hnl
  go_enter Tryd.func13, Tryd.ntmps13
  go_wp2_with (go_at_call 12; refine CC.out.mono ?_; clear CC; rintro e W1 ⟨rfl, K1⟩; have e1 := K1.cell BX.out (fun f => f); have HK1 := hideW (HK.out.trans K1 (fun _ f => f.elim)); clear K1; have e2 := (Kept.alloc W1 (.cells #[.pointer none, .slice none 0 0] 74)).cell e1 (fun f => f))
  have HKb := hideW (HK1.out.trans (Kept.alloc W1 (.cells #[.pointer none, .slice none 0 0] 74)) (fun _ f => f.elim))
  have HBd : Hid (Bd (W1.alloc (.cells #[.pointer none, .slice none 0 0] 74)) W1.heap.size (.pointer none) (.slice none 0 0) []) := hideW ⟨heap_alloc_new W1 _, .inl rfl, World.ownsRow_nil _ _ _ _, by simp [Value.ownBlock]⟩
  have hb1 : w.heap.size ≤ W1.heap.size := HK1.out.size
  generalize hWb : W1.alloc (.cells #[.pointer none, .slice none 0 0] 74) = Wb at *
  have HCb : Hid (∀ (k : Nat) (h : k < l.length), FdAtT Wb fb (fo + k * 5) l[k]) := hideW (fun k h => by
    obtain ⟨x0, x1, x2, x3, x4⟩ := HC.out k h
    exact ⟨HKb.out.cell x0 (fun f => f), HKb.out.cell x1 (fun f => f), HKb.out.cell x2 (fun f => f), HKb.out.cell x3 (fun f => f), HKb.out.cell x4 (fun f => f)⟩)
  have HWb := hideW (HW.out.kept HKb.out)
  have h1 : 24 < W1.heap.size := by omega
  have h2 : 25 < W1.heap.size := by omega
  have hfb2 : fb < W1.heap.size := by omega
  clear HC HW BX HK hWb e1 e2 hg1 hg2 hfb
  have HK1 := hideW HK1.out.size
  generalize W1.heap.size = b at *
  go_loopw [14] (fun v14 wr => ∃ (j : Nat) (p v : Value), j ≤ nl ∧ v14 = .int .i64 j ∧ Hid (Bd wr b p v (stx (l.take j))) ∧ Hid (Kept (BF Wb b) Wb wr)) (fun v14 _ => nl - (intOf v14).toNat)
  case atStart => exact ⟨0, _, _, by omega, rfl, HBd, Kept.refl _ _⟩
  case round =>
    obtain ⟨j, p, v, hj, rfl, HB, KK⟩ := hrel
    by_cases hlt : j < nl
    · have hlt2 : j < l.length := by rw [← HNL.out]; exact hlt
      have hji : (j : Int) < (nl : Int) := by omega
      obtain ⟨x0, x1, x2, x3, x4⟩ := HCb.out j hlt2
      have x0 := BF.below KK.out x0 hfb2
      have x1 := BF.below KK.out x1 hfb2
      have x2 := BF.below KK.out x2 hfb2
      have x3 := BF.below KK.out x3 hfb2
      have x4 := BF.below KK.out x4 hfb2
      have HS0 := hideW (stx_take_len HG.out j)
      have HT1 : Hid (0 < j → stx (l.take (j + 1)) = (stx (l.take j) ++ [59]) ++ ftx l[j]) := hideW (fun h => stx_take hlt2 h)
      have HT0 : Hid (j = 0 → stx (l.take (j + 1)) = ftx l[j]) := hideW (fun h => by subst h; exact stx_first hlt2)
      have HFk := hideW (gk_range (gs_mem HG.out (List.getElem_mem hlt2)))
      have HFn := hideW (gn_chars (gs_mem HG.out (List.getElem_mem hlt2))).1
      have HWr := hideW (HWb.out.bf KK.out h1 h2)
      generalize l[j] = f at *
      obtain ⟨n, k, fo', st, se⟩ := f
      simp only at x0 x1 x2 x3 x4
      have hns : n.size ≤ 32 := by have := HFn.out; simp only [Array.length_toList] at this; exact this
      have hk := HFk.out
      simp only at hk
      have HKx := hideW (Kept.alloc wr (.cells #[.string n, .int .i64 k, .bool fo', .bool st, .bool se] 46))
      have HXx : Hid ((wr.alloc (.cells #[.string n, .int .i64 k, .bool fo', .bool st, .bool se] 46)).heap[wr.heap.size]? = some (.cells #[.string n, .int .i64 k, .bool fo', .bool st, .bool se] 46 (0, 0))) := hideW (heap_alloc_new wr _)
      have HBx := hideW (HB.out.later HKx.out)
      have HWx := hideW (HWr.out.kept HKx.out)
      have hbx : wr.heap.size ≠ b := by have := HB.out.lt; omega
      have ht8 : (46 : TypeId) ≠ 5 := by decide
      have HKB := hideW (BF.trans KK.out (BF.quiet b HKx.out))
      have HKC := hideW hk
      clear HCb HFk HFn hk HWr
      by_cases hj0 : j = 0
      · have HT := hideW (HT0.out hj0)
        have HE0 : Hid (stx (l.take j) = []) := hideW (by rw [hj0]; rfl)
        have hj1 : ¬ (0 : Int) < (j : Int) := by omega
        have hj2 : decide (0 < j) = false := decide_eq_false (by omega)
        clear HT0 HT1 hj0
        go_wp2_with (go_at_call 35; refine (writeField_any n k fo' st se b _ _ _ _ HBx.out HKC.out HWx.out h1 h2 (by have := HS0.out; omega)).mono ?_; rintro e W5 ⟨rfl, v5, hB5, K5⟩; have HB5 := hideW hB5; have HK5 := hideW (BF.trans HKB.out K5); clear hB5 K5)
        go_roundw
        case rel => exact ⟨j + 1, _, _, hlt, by go_num, hideW (by rw [HT.out]; have := HB5.out; rw [HE0.out] at this; exact this), HK5⟩
        case measure => simp [intOf]; omega
      · have HT := hideW (HT1.out (by omega))
        have hj1 : (0 : Int) < (j : Int) := by omega
        have hj2 : decide (0 < j) = true := decide_eq_true (by omega)
        clear HT0 HT1
        go_wp2_with (first
          | (go_at_call 35; refine (writeField_any n k fo' st se b _ _ _ _ HB4.out HKC.out HW4.out h1 h2 (by have := HS0.out; rw [List.length_append]; simp; omega)).mono ?_; rintro e W5 ⟨rfl, v5, hB5, K5⟩; have HB5 := hideW hB5; have HK5 := hideW (BF.trans HK4.out K5); clear hB5 K5)
          | (go_at_call 34; refine (wbyte_any 59 _ rfl HBx.out (by have := HS0.out; omega)).mono ?_; rintro e W4 ⟨rfl, v4, hB4, K4⟩; have HB4 := hideW hB4; have HK4 := hideW (BF.trans HKB.out K4); have HX4 := hideW (BF.box K4 HXx.out hbx ht8); have HW4 := hideW (HWx.out.bf K4 h1 h2); clear hB4 K4; obtain ⟨y0, y1, y2, y3, y4⟩ := fbox HX4.out))
        go_roundw
        case rel => exact ⟨j + 1, _, _, hlt, by go_num, hideW (by rw [HT.out]; exact HB5.out), HK5⟩
        case measure => simp [intOf]; omega
    · obtain rfl : j = nl := by omega
      have hT : l.take j = l := List.take_of_length_le (by rw [HNL.out]; exact Nat.le_refl _)
      rw [hT] at HB
      go_wp2_with (go_at_call 36; refine (bstring_any HB.out).mono ?_; rintro e W5 ⟨rfl, B5⟩)
      go_ret2
      refine ⟨rfl, ?_⟩
      have hKw : Kept (fun _ => False) w wr := HKb.out.trans KK.out (fun i hi => .inr (by rcases hi with e | ⟨e, _⟩ <;> (have := HK1.out; omega)))
      exact hKw.trans ⟨B5.os, B5.tape, B5.output, B5.size, fun k hk hF => B5.block k (Decidable.byContradiction fun h => hF (by omega))⟩ (fun i (hi : b ≤ i) => .inr (by have := HK1.out; omega))
end Go.Proofs.YtbhoplmbiomogaaDoor
