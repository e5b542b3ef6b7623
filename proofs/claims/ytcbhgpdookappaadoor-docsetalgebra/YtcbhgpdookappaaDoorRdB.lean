import Derived.Test.YtcbhgpdookappaaDoorRdA
namespace Go.Proofs.YtcbhgpdookappaaDoor
open Go.ChangeShapes Go.WideShapes Go.ChangeAt Go.RowKit

theorem hide {p : Prop} (h : p) : Hid p := h

theorem bs_get {l : List Int} {j : Nat} {u : Value} (h : (bs l)[j]? = some u) : j < l.length ∧ u = .int .u8 (l[j]?.getD 0) := by
  unfold bs at h
  rw [List.getElem?_map] at h
  cases hj : l[j]? with
  | none => rw [hj] at h; simp at h
  | some x =>
    rw [hj] at h
    simp at h
    refine ⟨(List.getElem?_eq_some_iff.1 hj).1, ?_⟩
    simp [h]
theorem BytesAt.cells {w : World} {b off : Nat} {l : List Int} (h : ∀ k, k < l.length → w.cell? ⟨b, off + k, none⟩ = some (.int .u8 (l[k]?.getD 0))) : ∀ j u, (bs l)[j]? = some u → w.cell? ((⟨b, off, none⟩ : Addr).add j) = some u := by
  intro j u hu
  obtain ⟨hj, rfl⟩ := bs_get hu
  have e : (⟨b, off, none⟩ : Addr).add j = ⟨b, off + j, none⟩ := by unfold Addr.add; split <;> simp_all
  rw [e]
  exact h j hj
theorem Tryd.sizeB : (Tryd.prog.info? 5).map (·.size) = some 1 := by kernel_rfl
/-- What an owned row of bytes is as a list in memory. -/
theorem bytes_of_own {w : World} {base n : Nat} {v : Value} {l : List Int} (h : w.ownsRow base 5 1 v n (bs l)) : ∃ a c, v = .slice a n c ∧ BytesAt w a l ∧ n = l.length := by
  have hn : n = l.length := by have := h.1; rw [bs_length] at this; omega
  rcases h.2 with ⟨rfl, h0⟩ | ⟨g, cap, cur, rfl, _, hg, hnc, _, hcs, ht⟩
  · refine ⟨none, 0, by rw [h0], fun e => ?_, hn⟩
    exact (e (List.eq_nil_of_length_eq_zero (by omega))).elim
  · refine ⟨_, cap, rfl, fun _ => ⟨g, 0, rfl, fun k hk => ?_⟩, hn⟩
    rw [cell_of_row w g (0 + k) cur 5 (0, 0) hg]
    have h1 : (bs l)[k]? = some (.int .u8 (l[k]?.getD 0)) := by
      unfold bs
      rw [List.getElem?_map, List.getElem?_eq_getElem hk]; rfl
    rw [← ht, List.getElem?_take] at h1
    split at h1
    · simpa using h1
    · cases h1

set_option maxRecDepth 20000 in
set_option maxHeartbeats 1000000 in
theorem fresh_any (l : List Int) (a : Option Addr) (c : Nat) (w : World) (h : BytesAt w a l) (hl : l.length ≤ 140737488355328) :
    Calls Tryd.prog 62 #[.slice a l.length c] w fun e w' => e = .returned (.slice (some ⟨w.heap.size, 0, none⟩) l.length l.length) ∧ w'.ownsRow w.heap.size 5 1 (.slice (some ⟨w.heap.size, 0, none⟩) l.length l.length) l.length (bs l) ∧ Kept (fun _ => False) w w' := by
  obtain ⟨i0, hi, hz0, hz1, hz2⟩ := info_parts Tryd.infoB
  have HH : Hid (BytesAt w a l) := h
  clear h
  by_cases hnil : l = []
  · subst hnil
    go_enter Tryd.func62, Tryd.ntmps62
    go_wp2_with (at_make; refine wpList_make_full _ rfl _ _ 22 rfl w.heap.size 5 i0 (.int .u8 0) 1 Tryd.underlying22 hi hz0 hz1 _ _ _ _ 0 rfl rfl rfl rfl ?m1 ?m2 (Nat.le_refl _) ?_)
    case m1 => rw [hz2]; omega
    case m2 => unfold maxLen; omega
    · intro w1 hown hgrow
      have HO : Hid _ := hown
      have HG : Hid _ := hgrow
      clear hown hgrow
      go_wp2_with (refine wpList_copy_nothing rfl (.tmp 7) (.tmp 8) 22 22 rfl 5 Tryd.underlying22 Tryd.sizeB _ _ _ _ _ _ rfl rfl rfl ?_)
      go_ret
      refine ⟨rfl, ?_, (Kept.grown HG.out).mono (fun i hi => by cases hi)⟩
      obtain ⟨_, q2⟩ := HO.out
      rcases q2 with ⟨e, _⟩ | ⟨g, cap, cur, hv, hb, hg, _, hcm, hcs, _⟩
      · cases e
      · exact ⟨rfl, .inr ⟨g, cap, cur, hv, hb, hg, Nat.zero_le _, hcm, hcs, by simp [bs]⟩⟩
  · obtain ⟨b, off, rfl, hc⟩ := HH.out hnil
    have hlt : b < w.heap.size := World.block_lt_of_cell? w _ (hc 0 (List.length_pos_iff.2 hnil))
    have HC : Hid _ := hc
    have hpos := List.length_pos_iff.2 hnil
    have HNL : Hid (¬ l = []) := hnil
    clear hc hnil
    go_enter Tryd.func62, Tryd.ntmps62
    go_wp2_with (at_make; refine wpList_make_full _ rfl _ _ 22 rfl w.heap.size 5 i0 (.int .u8 0) 1 Tryd.underlying22 hi hz0 hz1 _ _ _ _ l.length rfl rfl rfl rfl ?n1 ?n2 (Nat.le_refl _) ?_)
    case n1 => rw [hz2]; omega
    case n2 => unfold maxLen; omega
    · intro w1 hown hgrow
      rcases hown.2 with ⟨e, _⟩ | ⟨g, cap, cur, hv, _, hg, _, _, hcs, _⟩
      · cases e
      · simp only [Value.slice.injEq, Option.some.injEq, Addr.mk.injEq, true_and, and_true] at hv
        obtain ⟨rfl, rfl⟩ := hv
        have hcell : ∀ j u, (bs l)[j]? = some u → w1.cell? ((⟨b, off, none⟩ : Addr).add j) = some u :=
          BytesAt.cells (fun k hk => (Kept.grown hgrow).cell (HC.out k hk) (by simp))
        have HCl : Hid _ := hcell
        have HG : Hid _ := hgrow
        have HGG : Hid (w1.heap[w.heap.size]? = some (.cells cur 5 (0, 0))) := hg
        have HCS : Hid (cur.size = l.length * 1) := hcs
        clear hown hgrow hg hcell hcs
        go_wp2_with (refine wpList_copy_own rfl (.tmp 7) (.tmp 8) 22 22 rfl 5 Tryd.underlying22 Tryd.sizeB w.heap.size 0 l.length l.length ⟨b, off, none⟩ l.length c rfl rfl cur 5 HGG.out (bs l) ?k1 HCl.out ?k2 (bs_one l) ?_)
        case k1 => rw [bs_length]; exact (Nat.min_self _).symm
        case k2 => rw [bs_length, HCS.out]; omega
        · have hrow : Hid ((bs l ++ cur.toList.drop (bs l).length).toArray = (bs l).toArray) := by
            show (bs l ++ cur.toList.drop (bs l).length).toArray = (bs l).toArray
            rw [bs_length, List.drop_eq_nil_of_le (by have := HCS.out; simp; omega)]
            simp
          rw [hrow.out]
          go_ret
          refine ⟨rfl, ⟨by rw [bs_length]; omega, .inr ⟨w.heap.size, l.length, (bs l).toArray, rfl, Nat.le_refl _, setRow_heap w1 w.heap.size cur _ 5 _ HGG.out, Nat.le_refl _, by unfold maxLen; omega, by simp [bs_length], ?_⟩⟩, ?_⟩
          · rw [List.toList_toArray, List.take_of_length_le (by rw [bs_length]; omega)]
          · refine ((Kept.grown HG.out).mono (fun i hi => by cases hi)).trans (G := fun k => k = w.heap.size) ⟨rfl, rfl, rfl, by simp [World.setRow], fun k _ hk => setRow_other w1 w.heap.size k _ (fun e => hk e)⟩ (fun i hi => .inr (by omega))

/-- The bytes that a Writer holds, as new memory. -/
theorem bytes_any (bw : Nat) (v : Value) (xs : List Int) (w : World) (h : Wr w bw v xs) (hl : xs.length ≤ 140737488355328) :
    Calls Tryd.prog 44 #[.pointer (some ⟨bw, 0, none⟩)] w fun e w' => e = .returned (.slice (some ⟨w.heap.size, 0, none⟩) xs.length xs.length) ∧ w'.ownsRow w.heap.size 5 1 (.slice (some ⟨w.heap.size, 0, none⟩) xs.length xs.length) xs.length (bs xs) ∧ Kept (fun _ => False) w w' := by
  have hc := h.cell
  obtain ⟨a, c, rfl, hb, _⟩ := bytes_of_own h.own
  have HB : Hid _ := hb
  clear h hb
  go_enter Tryd.func44, Tryd.ntmps44
  go_wp2_with (go_at_call 62; refine (fresh_any xs a c w HB.out hl).mono ?_; rintro e w1 ⟨rfl, ho, hk⟩)
  go_ret
  exact ⟨rfl, ho, hk⟩

/-- The Reader at block br: over the bytes l, at the place p. -/
structure Rd (w : World) (br : Nat) (v : Value) (l : List Int) (p : Nat) : Prop where
  blk : w.heap[br]? = some (.cells #[v, .int .i64 p] 68 (0, 0))
  own : w.ownsRow 0 5 1 v l.length (bs l)
  isb : IsBytes l
  le : p ≤ l.length
  sm : l.length ≤ 140737488355328
  frm : ∃ g, v = .slice (some ⟨g, 0, none⟩) l.length l.length
theorem Rd.kept {F : Nat → Prop} {w w' : World} {br : Nat} {v : Value} {l : List Int} {p : Nat} (h : Rd w br v l p) (k : Kept F w w') (h1 : ¬ F br) (h2 : ∀ i, v.ownBlock = some i → ¬ F i) : Rd w' br v l p :=
  ⟨k.heap h.blk h1, k.row h.own h2, h.isb, h.le, h.sm, h.frm⟩
theorem Rd.cell0 {w : World} {br : Nat} {v : Value} {l : List Int} {p : Nat} (h : Rd w br v l p) : w.cell? ⟨br, 0, none⟩ = some v := by simp [World.cell?, h.blk]
theorem Rd.cell1 {w : World} {br : Nat} {v : Value} {l : List Int} {p : Nat} (h : Rd w br v l p) : w.cell? ⟨br, 1, none⟩ = some (.int .i64 p) := by simp [World.cell?, h.blk]
theorem Rd.free1 {w : World} {br : Nat} {v : Value} {l : List Int} {p : Nat} (h : Rd w br v l p) : w.frozen? ⟨br, 1, none⟩ = false := by simp [World.frozen?, h.blk]
theorem Rd.ne {w : World} {br : Nat} {v : Value} {l : List Int} {p : Nat} (h : Rd w br v l p) : v.ownBlock ≠ some br := by
  intro e
  rcases h.own.2 with ⟨rfl, _⟩ | ⟨g, cap, cur, rfl, _, hg, _⟩
  · simp [Value.ownBlock] at e
  · simp [Value.ownBlock] at e
    subst e
    rw [h.blk] at hg
    simp at hg
/-- The place is set. -/
theorem Rd.move {w : World} {br : Nat} {v : Value} {l : List Int} {p : Nat} (h : Rd w br v l p) {q : Nat} (hq : q ≤ l.length) : Rd (w.setCell ⟨br, 1, none⟩ (.int .i64 q)) br v l q := by
  refine ⟨?_, ownsRow_setCell_other h.own h.ne _, h.isb, hq, h.sm, h.frm⟩
  simp only [World.setCell, Array.getElem?_modify, if_true, h.blk]
  rfl

theorem newr_any (l : List Int) (a : Option Addr) (c : Nat) (w : World) (h : BytesAt w a l) (hB : IsBytes l) (hl : l.length ≤ 140737488355328) :
    Calls Tryd.prog 33 #[.slice a l.length c] w fun e w' => ∃ br v, e = .returned (.pointer (some ⟨br, 0, none⟩)) ∧ Rd w' br v l 0 ∧ w.heap.size ≤ br ∧ (∀ k, v.ownBlock = some k → w.heap.size ≤ k) ∧ Kept (fun _ => False) w w' := by
  have HH := hide h
  clear h
  go_enter Tryd.func33, Tryd.ntmps33
  go_wp2_with (go_at_call 62; refine (fresh_any l a c w HH.out hl).mono ?_; rintro e w1 ⟨rfl, ho, hk⟩)
  have HO := hide ho
  have HK := hide hk
  clear ho hk
  go_wp2
  go_ret
  have hs := HK.out.size
  refine ⟨w1.heap.size, .slice (some ⟨w.heap.size, 0, none⟩) l.length l.length, rfl, ⟨heap_alloc_new w1 _, ?_, hB, Nat.zero_le _, hl, ⟨_, rfl⟩⟩, hs, fun k hk => by simp [Value.ownBlock] at hk; omega, HK.out.trans (Kept.alloc _ _) (fun _ hf => hf.elim)⟩
  have q := HO.out.alloc (.cells #[.slice (some ⟨w.heap.size, 0, none⟩) l.length l.length, .int .i64 0] 68)
  obtain ⟨q1, q2⟩ := q
  refine ⟨q1, q2.imp id ?_⟩
  rintro ⟨g, cap, cur, e1, _, rest⟩
  exact ⟨g, cap, cur, e1, Nat.zero_le _, rest⟩
end Go.Proofs.YtcbhgpdookappaaDoor
