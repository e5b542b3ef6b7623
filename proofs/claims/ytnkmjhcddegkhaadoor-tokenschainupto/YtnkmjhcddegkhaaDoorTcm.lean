import Derived.Test.YtnkmjhcddegkhaaDoorChn9
namespace Go.Proofs.YtnkmjhcddegkhaaDoor
open Go.ChangeShapes Go.WideShapes Go.ChangeAt Go.RowKit

/-- A token in its box. -/
def TokIn (W : World) (g : Nat) (t : ByteArray) (v p s e : Int) : Prop := W.heap[g]? = some (.cells #[.string t, .int .i64 v, .int .i64 p, .int .i64 s, .int .i64 e] 29 (0, 0))
theorem TokIn.cells {W : World} {g : Nat} {t : ByteArray} {v p s e : Int} (hh : TokIn W g t v p s e) :
    W.cell? ⟨g, 0, none⟩ = some (.string t) ∧ W.cell? ⟨g, 1, none⟩ = some (.int .i64 v) ∧ W.cell? ⟨g, 2, none⟩ = some (.int .i64 p) ∧ W.cell? ⟨g, 3, none⟩ = some (.int .i64 s) ∧ W.cell? ⟨g, 4, none⟩ = some (.int .i64 e) ∧ W.frozen? ⟨g, 0, none⟩ = false := by
  unfold TokIn at hh
  exact ⟨cell_of_row _ _ 0 _ _ _ hh, cell_of_row _ _ 1 _ _ _ hh, cell_of_row _ _ 2 _ _ _ hh, cell_of_row _ _ 3 _ _ _ hh, cell_of_row _ _ 4 _ _ _ hh, by simp [World.frozen?, hh]⟩
theorem TokIn.put {W : World} {g : Nat} {t : ByteArray} {v p s e : Int} (hh : TokIn W g t v p s e) (u : ByteArray) : TokIn (W.setCell ⟨g, 0, none⟩ (.string u)) g u v p s e := heap_setCell_same W g 0 _ _ (.string u) hh
theorem TokIn.kept {W W' : World} {g : Nat} {t : ByteArray} {v p s e : Int} (hh : TokIn W g t v p s e) (k : Kept (fun _ => False) W W') : TokIn W' g t v p s e := k.heap hh (fun f => f)
theorem kept_put {w W : World} {g : Nat} {u : Value} (k : Kept (fun _ => False) w W) (hg : w.heap.size ≤ g) : Kept (fun _ => False) w (W.setCell ⟨g, 0, none⟩ u) := k.trans (Kept.setCell _ _ _) (fun i e => .inr (by simp only at e; omega))
/-- The law's own box of the field. -/
def FdIn (W : World) (b : Nat) (nm : ByteArray) (fo st se : Bool) : Prop := W.heap[b]? = some (.cells #[.string nm, .int .i64 1, .bool fo, .bool st, .bool se] 23 (0, 0))
theorem FdIn.cells {W : World} {b : Nat} {nm : ByteArray} {fo st se : Bool} (hh : FdIn W b nm fo st se) : W.cell? ⟨b, 2, none⟩ = some (.bool fo) ∧ W.cell? ⟨b, 3, none⟩ = some (.bool st) ∧ W.cell? ⟨b, 4, none⟩ = some (.bool se) := by
  unfold FdIn at hh
  exact ⟨cell_of_row _ _ 2 _ _ _ hh, cell_of_row _ _ 3 _ _ _ hh, cell_of_row _ _ 4 _ _ _ hh⟩
theorem FdIn.kept {W W' : World} {b : Nat} {nm : ByteArray} {fo st se : Bool} (hh : FdIn W b nm fo st se) (k : Kept (fun _ => False) W W') : FdIn W' b nm fo st se := k.heap hh (fun f => f)
/-- The round of the law: what is known where it begins. -/
structure Rnd (w W2 wr : World) (b gg cg ng : Nat) (nm : ByteArray) (fo st se : Bool) (G : List Tk) : Prop where
  kw : Kept (fun _ => False) w W2
  kk : Kept (fun _ => False) W2 wr
  fd : FdIn W2 b nm fo st se
  got : ∀ n (h : n < G.length), W2.cell? ⟨gg, n * 5, none⟩ = some (.string G[n].t) ∧ W2.cell? ⟨gg, n * 5 + 1, none⟩ = some (.int .i64 G[n].v) ∧ W2.cell? ⟨gg, n * 5 + 2, none⟩ = some (.int .i64 G[n].p) ∧ W2.cell? ⟨gg, n * 5 + 3, none⟩ = some (.int .i64 G[n].s) ∧ W2.cell? ⟨gg, n * 5 + 4, none⟩ = some (.int .i64 G[n].e)
theorem chd_at (K : List Nat) (L : List Tk) (k : Nat) (h : k < L.length) (y : Tk) (hy : ch1 K L[k] = some y) : ∃ hl : (chd K (L.take k)).length < (chd K L).length, (chd K L)[(chd K (L.take k)).length] = y := by
  have e : chd K L = chd K (L.take k) ++ (y :: chd K (L.drop (k + 1))) := by
    conv => lhs; rw [← List.take_append_drop k L]
    unfold chd
    rw [List.filterMap_append, List.drop_eq_getElem_cons h, List.filterMap_cons_some hy]
  have hl : (chd K (L.take k)).length < (chd K L).length := by rw [e, List.length_append, List.length_cons]; omega
  have q : (chd K L)[(chd K (L.take k)).length]? = some y := by
    rw [e, List.getElem?_append_right (Nat.le_refl _), Nat.sub_self, List.getElem?_cons_zero]
  exact ⟨hl, Option.some.inj ((List.getElem?_eq_getElem hl).symm.trans q)⟩
end Go.Proofs.YtnkmjhcddegkhaaDoor
