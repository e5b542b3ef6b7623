import Derived.Test.YtiebmmpnmklpnaaDoorFld
namespace Go.Proofs.YtiebmmpnmklpnaaDoor
open Go.ChangeShapes Go.WideShapes Go.ChangeAt Go.RowKit

theorem hideG {p : Prop} (h : p) : Hid p := h
/-- A list that is grown, in memory younger than w0. -/
structure Gro (w0 w : World) (e : TypeId) (sz : Nat) (v : Value) (n : Nat) (xs : List Value) : Prop where
  own : w.ownsRow w0.heap.size e sz v n xs
  kept : Kept (fun _ => False) w0 w
theorem Gro.shape {w0 w : World} {e : TypeId} {sz : Nat} {v : Value} {n : Nat} {xs : List Value} (h : Gro w0 w e sz v n xs) : ∃ a c, v = .slice a n c := by
  rcases h.own.2 with ⟨rfl, rfl⟩ | ⟨g, cap, cur, rfl, _⟩
  · exact ⟨_, _, rfl⟩
  · exact ⟨_, _, rfl⟩
theorem Gro.later {w0 w w' : World} {e : TypeId} {sz : Nat} {v : Value} {n : Nat} {xs : List Value} (h : Gro w0 w e sz v n xs) (k : Kept (fun _ => False) w w') : Gro w0 w' e sz v n xs :=
  ⟨k.row h.own (fun _ _ f => f), h.kept.trans k (fun _ f => f.elim)⟩
theorem Gro.cell {w0 w : World} {e : TypeId} {sz : Nat} {a : Option Addr} {c n : Nat} {xs : List Value} (h : Gro w0 w e sz (.slice a n c) n xs) (hn : 0 < n) : ∃ g, a = some ⟨g, 0, none⟩ ∧ w0.heap.size ≤ g ∧ ∀ j u, xs[j]? = some u → w.cell? ⟨g, j, none⟩ = some u := by
  rcases h.own.2 with ⟨_, e2⟩ | ⟨g, cap, cur, e1, hg, _⟩
  · omega
  · have ea : a = some ⟨g, 0, none⟩ := by injection e1
    subst ea
    refine ⟨g, rfl, hg, fun j u hu => ?_⟩
    have := h.own.cells (g := g) rfl j u hu
    have hplain : (⟨g, 0, none⟩ : Addr).add j = ⟨g, j, none⟩ := by unfold Addr.add; split <;> simp_all
    rwa [hplain] at this
theorem gro_empty (w0 w : World) (e : TypeId) (sz : Nat) (k : Kept (fun _ => False) w0 w) : Gro w0 (w.alloc (.cells #[] e)) e sz (.slice (some ⟨w.heap.size, 0, none⟩) 0 0) 0 [] :=
  ⟨⟨(Nat.zero_mul sz).symm, .inr ⟨w.heap.size, 0, #[], rfl, k.size, heap_alloc_new w _, Nat.le_refl _, Nat.zero_le _, (Nat.zero_mul sz).symm, by rw [Nat.zero_mul]; rfl⟩⟩, k.trans (Kept.alloc _ _) (fun _ f => f.elim)⟩
theorem gro_nil (w : World) (e : TypeId) (sz : Nat) : Gro w w e sz (.slice none 0 0) 0 [] := ⟨⟨(Nat.zero_mul sz).symm, .inl ⟨rfl, rfl⟩⟩, Kept.refl _ _⟩
theorem row_news (w : World) (l : List Value) (t : TypeId) : ∀ (j : Nat) (u : Value), l[j]? = some u → (w.alloc (.cells l.toArray t)).cell? ((⟨w.heap.size, 0, none⟩ : Addr).add j) = some u := by
  intro j u hj
  have hplain : (⟨w.heap.size, 0, none⟩ : Addr).add j = ⟨w.heap.size, j, none⟩ := by unfold Addr.add; split <;> simp_all
  rw [hplain]
  simpa using hj
/-- 'append(s, x)': what stands new behind w is one element's row. -/
theorem wpList_push {w0 W : World} {ops : Array Oper} {rest : List Oper} {o : Oper} {act : Act} {Q : Exit → Act → World → Prop} (hgd : o.guard = none) (s x : Operand) (t : TypeId)
    (ho : o.op = .call { callee := .builtin .append, args := #[s, x], argTypes := #[t, t] }) (e : TypeId) (i : TypeInfo) (z : Value) (size bytes : Nat)
    (ht : Tryd.prog.underlying t = some (.slice e)) (hi : Tryd.prog.info? e = some i) (hz : i.zero = some z) (hsize : i.size = size) (hby : i.bytes = bytes) (hzs : z.cells.size = size) (hsz : 0 < size)
    (v : Value) (n : Nat) (xs news : List Value) (hs : act.eval s = v) (hG : Hid (Gro w0 W e size v n xs)) (hx : act.eval x = .slice (some ⟨W.heap.size, 0, none⟩) 1 1)
    (hl : news.length = size) (h1 : ∀ u ∈ news, u.oneCell' = true) (hb : Hid ((n + 1) * bytes ≤ 140737488355328)) (h63 : Hid (n + 1 ≤ maxLen))
    (h : ∀ a' c' W', Hid (Gro w0 W' e size (.slice a' (n + 1) c') (n + 1) (xs ++ news)) → wpList Tryd.prog ops Q rest (act.put o.dst (.slice a' (n + 1) c')) W') : wpList Tryd.prog ops Q (o :: rest) act (W.alloc (.cells news.toArray e)) := by
  refine wpList_append_own _ hgd s x t ho w0.heap.size e i z size bytes ht hi hz hsize hby hzs hsz v n xs hs (hG.out.own.alloc _) ⟨W.heap.size, 0, none⟩ 1 1 news hx (by omega) (row_news W news e) h1 h63.out hb.out (by have := hG.out.kept.size; simp; omega) ?_
  intro v' W' ho2 hg2 _
  have q : Gro w0 W' e size v' (n + 1) (xs ++ news) := ⟨ho2, (hG.out.kept.trans (Kept.alloc _ _) (fun _ f => f.elim)).trans (Kept.grown hg2) (fun i hi => .inr (hG.out.own.lt i hi).1)⟩
  obtain ⟨a', c', rfl⟩ := q.shape
  exact h a' c' W' q
/-- One place of a list of single cells written over. -/
theorem Gro.set {w0 w : World} {e : TypeId} {g c n : Nat} {xs : List Value} (h : Gro w0 w e 1 (.slice (some ⟨g, 0, none⟩) n c) n xs) (k : Nat) (v : Value) :
    Gro w0 (w.setCell ⟨g, k, none⟩ v) e 1 (.slice (some ⟨g, 0, none⟩) n c) n (xs.set k v) ∧ w.frozen? ⟨g, k, none⟩ = false := by
  rcases h.own.2 with ⟨e1, e2⟩ | ⟨g', cap, cur, e1, hg, hh, hn, hm, hs, ht⟩
  · cases e1
  · simp only [Value.slice.injEq, Option.some.injEq, Addr.mk.injEq, and_true, true_and] at e1
    obtain ⟨rfl, rfl⟩ := e1
    refine ⟨⟨⟨by rw [List.length_set]; exact h.own.1, .inr ⟨g, c, cur.setIfInBounds k v, rfl, hg, heap_setCell_same w g k cur e v hh, hn, hm, by rw [Array.size_setIfInBounds]; exact hs, ?_⟩⟩, h.kept.trans (Kept.setCell _ _ _) (fun i e => .inr (by simp only at e; omega))⟩, ?_⟩
    · rw [Array.toList_setIfInBounds, List.take_set, ht]
    · simp [World.frozen?, hh]
theorem Gro.at {w0 w : World} {e : TypeId} {sz g c n : Nat} {xs : List Value} (h : Gro w0 w e sz (.slice (some ⟨g, 0, none⟩) n c) n xs) {j : Nat} {u : Value} (hu : xs[j]? = some u) : w.cell? ⟨g, j, none⟩ = some u := by
  have := h.own.cells (g := g) rfl j u hu
  have hplain : (⟨g, 0, none⟩ : Addr).add j = ⟨g, j, none⟩ := by unfold Addr.add; split <;> simp_all
  rwa [hplain] at this
/-- Bytes as cells. -/
def bu (l : List UInt8) : List Value := l.map (fun c => .int .u8 (c.toNat : Int))
theorem bu_append (a b : List UInt8) : bu (a ++ b) = bu a ++ bu b := List.map_append
theorem bu_len (a : List UInt8) : (bu a).length = a.length := List.length_map ..
theorem gro_string {w0 w : World} {a : Option Addr} {c : Nat} {l : List UInt8} {n : Nat} (h : Gro w0 w 5 1 (.slice a n c) n (bu l)) (hn : n = l.length) : (convert 25 9 (.slice a n c)).run Tryd.prog w = .ok (.string ⟨l.toArray⟩) w := by
  subst hn
  rcases h.own.2 with ⟨e1, e2⟩ | ⟨g, cap, cur, e1, _⟩
  · have ea : a = none := by injection e1
    have el : l = [] := List.eq_nil_of_length_eq_zero e2
    subst ea el
    exact run_convert_bytes_nil w 25 5 Tryd.underlying25 Tryd.underlying5 0 c 9 Tryd.underlying9
  · have ea : a = some ⟨g, 0, none⟩ := by injection e1
    subst ea
    refine run_convert_bytes_back w 25 9 5 ⟨g, 0, none⟩ c l Tryd.underlying25 Tryd.underlying5 Tryd.underlying9 (fun j hj => ?_)
    exact h.own.cells (g := g) rfl j _ (by rw [bu, List.getElem?_map, List.getElem?_eq_getElem hj]; rfl)
/-- 'append(s, b)' of bytes. -/
theorem wpList_pushB {w0 W : World} {ops : Array Oper} {rest : List Oper} {o : Oper} {act : Act} {Q : Exit → Act → World → Prop} (hgd : o.guard = none) (s x : Operand)
    (ho : o.op = .call { callee := .builtin .append, args := #[s, x], argTypes := #[25, 25] }) (v : Value) (n m : Nat) (l l' : List UInt8) (c : UInt8) (z : Int) (hs : act.eval s = v) (hG : Hid (Gro w0 W 5 1 v n (bu l))) (hx : act.eval x = .slice (some ⟨W.heap.size, 0, none⟩) 1 1)
    (hc : Hid (z = (c.toNat : Int))) (hl : Hid (l' = l ++ [c])) (hm : m = n + 1) (hb : n + 1 ≤ 140737488355328)
    (h : ∀ a' c' W', Hid (Gro w0 W' 5 1 (.slice a' m c') m (bu l')) → wpList Tryd.prog ops Q rest (act.put o.dst (.slice a' m c')) W') : wpList Tryd.prog ops Q (o :: rest) act (W.alloc (.cells #[.int .u8 z] 5)) := by
  obtain ⟨i0, hi, hz0, hz1, hz2⟩ := info_parts Tryd.infoB
  have e1 := hl.out
  have e2 := hc.out
  subst e1 e2 hm
  refine wpList_push hgd s x 25 ho 5 i0 (.int .u8 0) 1 1 Tryd.underlying25 hi hz0 hz1 hz2 rfl (by decide) v n (bu l) [.int .u8 (c.toNat : Int)] hs hG hx rfl (by intro u hu; simp at hu; subst hu; rfl) (hideG (by omega)) (hideG (by unfold maxLen; omega)) ?_
  rw [bu_append] at h
  exact h
end Go.Proofs.YtiebmmpnmklpnaaDoor
