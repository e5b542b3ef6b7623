import Derived.Test.YtiemiphlfbaojaaDoorSye
namespace Go.Proofs.YtiemiphlfbaojaaDoor
open Go.ChangeShapes Go.WideShapes Go.ChangeAt Go.RowKit
variable {w0 w w' : World} {b rc : Nat} {a0 : Option Addr} {R : List Tn} {v : Value} {s : MS}

theorem Mc.setOu (h : Mc w0 w b rc a0 R v s) (v' : Value) (ou' : List Lv) (ho : w.ownsRow w0.heap.size 50 3 v' ou'.length (lvv ou'.reverse)) : Mc w0 (w.setCell ⟨b, 7, none⟩ v') b rc a0 R v' { s with ou := ou' } := by
  have hne : v'.ownBlock ≠ some b := by
    intro x
    rcases ho.2 with ⟨rfl, _⟩ | ⟨g, cap, cur, rfl, _, hg, _⟩
    · simp [Value.ownBlock] at x
    · simp [Value.ownBlock] at x
      subst x
      rw [h.blk] at hg
      simp at hg
  obtain ⟨h1, _, h3⟩ := h.put 7 v'
  exact ⟨h1, ownsRow_setCell_other ho hne _, h3, h.hb, h.row, h.ha, h.hr, h.hm⟩
theorem lvv_len (L : List Lv) : (lvv L).length = L.length * 3 := by
  induction L with
  | nil => rfl
  | cons x L ih =>
    have e : lvv (x :: L) = lvC x ++ lvv L := rfl
    rw [e, List.length_append, ih, List.length_cons]
    show 3 + _ = _
    omega
/-- The list of levels without its last. -/
theorem own_cut {l : Lv} {r : List Lv} (ho : w.ownsRow w0.heap.size 50 3 v (l :: r).length (lvv (l :: r).reverse)) : ∃ g cap, v = .slice (some ⟨g, 0, none⟩) (r.length + 1) cap ∧ r.length ≤ cap ∧ w.ownsRow w0.heap.size 50 3 (.slice (some ⟨g, 0, none⟩) r.length cap) r.length (lvv r.reverse) ∧ (w.cell? ⟨g, r.length * 3, none⟩ = some (.int .i64 (l.n : Int)) ∧ w.cell? ⟨g, r.length * 3 + 1, none⟩ = some (.int .i64 (l.t : Int)) ∧ w.cell? ⟨g, r.length * 3 + 2, none⟩ = some (.bool l.s)) ∧ ∃ cs, w.heap[g]? = some (.cells cs 50 (0, 0)) := by
  have hrev : lvv (l :: r).reverse = lvv r.reverse ++ lvC l := by rw [List.reverse_cons, lvv_append]; show _ ++ (lvC l ++ []) = _; rw [List.append_nil]
  have hl : (lvv r.reverse).length = r.length * 3 := by rw [lvv_len, List.length_reverse]
  rcases ho.2 with ⟨_, e2⟩ | ⟨g, cap, cur, rfl, hb, hh, h1, h2, h3, h4⟩
  · simp at e2
  · refine ⟨g, cap, rfl, by simp at h1; omega, ⟨hl, .inr ⟨g, cap, cur, rfl, hb, hh, by simp at h1; omega, h2, h3, ?_⟩⟩, ?_, cur, hh⟩
    · have h5 := congrArg (List.take (r.length * 3)) h4
      rw [List.take_take, hrev, List.take_left' hl] at h5
      rw [show min (r.length * 3) ((l :: r).length * 3) = r.length * 3 by rw [List.length_cons]; omega] at h5
      exact h5
    · have hc : ∀ j u, (lvv (l :: r).reverse)[j]? = some u → w.cell? ⟨g, j, none⟩ = some u := fun j u hu => by
        have := ho.cells (g := g) rfl j u hu
        have hplain : (⟨g, 0, none⟩ : Addr).add j = ⟨g, j, none⟩ := by unfold Addr.add; split <;> simp_all
        rwa [hplain] at this
      rw [hrev] at hc
      refine ⟨hc _ _ ?_, hc _ _ ?_, hc _ _ ?_⟩
      · rw [List.getElem?_append_right (by omega), hl, Nat.sub_self]; rfl
      · rw [List.getElem?_append_right (by omega), hl, show r.length * 3 + 1 - r.length * 3 = 1 by omega]; rfl
      · rw [List.getElem?_append_right (by omega), hl, show r.length * 3 + 2 - r.length * 3 = 2 by omega]; rfl
set_option maxRecDepth 20000 in
set_option maxHeartbeats 4000000 in
theorem close_anyS (h : Mc w0 w b rc a0 R v s) (l : Lv) (r : List Lv) (hou : s.ou = l :: r) (h1 : s.top.n ≤ 500000000000) (h2 : r.length ≤ 500000000000) :
    Calls Tryd.prog 37 #[.pointer (some ⟨b, 0, none⟩)] w fun e w' => e = .returned (.tuple #[]) ∧ ∃ v', Mc w0 w' b rc a0 R v' (s.close' l r) := by
  have ho := h.own
  rw [hou] at ho
  obtain ⟨g, cap, rfl, hcap, ho2, ⟨y0, y1, y2⟩, cs, hgh⟩ := own_cut ho
  have hgb : ¬ g = b := by
    intro e
    subst e
    rw [h.blk] at hgh
    simp at hgh
  have hbg : ¬ b = g := fun e => hgb e.symm
  obtain ⟨-, -, -, x3, x4, x5, x6, x7⟩ := h.cells
  have f3 := h.free 3
  have f4 := h.free 4
  have f5 := h.free 5
  have f6 := h.free 6
  have f7 := h.free 7
  have H4 := (((h.setNe (s.top.n + 1) ((s.top.n : Int) + 1) (by omega)).setTn l.n _ rfl).setTt l.t _ rfl).setTs l.s
  have ho4 : (World.setCell (((w.setCell ⟨b, 3, none⟩ (.int .i64 ((s.top.n : Int) + 1))).setCell ⟨b, 4, none⟩ (.int .i64 (l.n : Int))).setCell ⟨b, 5, none⟩ (.int .i64 (l.t : Int))) ⟨b, 6, none⟩ (.bool l.s)).ownsRow w0.heap.size 50 3 (.slice (some ⟨g, 0, none⟩) r.length cap) r.length (lvv r.reverse) := by
    have hne : (Value.slice (some ⟨g, 0, none⟩) r.length cap).ownBlock ≠ some b := by simp [Value.ownBlock, hgb]
    exact ownsRow_setCell_other (ownsRow_setCell_other (ownsRow_setCell_other (ownsRow_setCell_other ho2 hne _) hne _) hne _) hne _
  have H5 := hideL (H4.setOu _ r ho4)
  have e5 : Hid (Mc w0 _ b rc a0 R _ (s.close' l r)) := H5
  clear H5 H4 ho4 ho2 ho hgh
  generalize s.close' l r = s' at *
  obtain ⟨ln, lt, ls⟩ := l
  dsimp only at y0 y1 y2 e5
  generalize s.top.n = tn at *
  generalize s.top.t = tt at *
  generalize s.top.s = ts at *
  generalize s.ne = ne at *
  generalize r.length = rn at *
  have hrz : (rn : Int) < (rn : Int) + 1 := by omega
  have hrc : (rn : Int) ≤ (cap : Int) := by omega
  clear h hou
  go_enter Tryd.func37, Tryd.ntmps37
  go_wp2_with fail
  first | go_ret | go_end0
  exact ⟨rfl, _, e5.out⟩
end Go.Proofs.YtiemiphlfbaojaaDoor
