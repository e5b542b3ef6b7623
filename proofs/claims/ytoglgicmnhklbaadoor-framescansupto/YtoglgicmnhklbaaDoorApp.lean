import Derived.Test.YtoglgicmnhklbaaDoorEnc
namespace Go.Proofs.YtoglgicmnhklbaaDoor
open Go.ChangeShapes Go.WideShapes Go.ChangeAt Go.RowKit

/-- A slice of bytes in memory that is younger than w. -/
structure OwnB (w W : World) (v : Value) (xs : List Int) : Prop where
  row : W.ownsRow w.heap.size 5 1 v xs.length (bs xs)
  kept : Kept (fun _ => False) w W
theorem ownB_empty (w : World) : OwnB w (w.alloc (.cells #[] 5)) (.slice (some ⟨w.heap.size, 0, none⟩) 0 0) [] :=
  ⟨⟨rfl, .inr ⟨w.heap.size, 0, #[], rfl, Nat.le_refl _, heap_alloc_new w _, Nat.le_refl _, Nat.zero_le _, rfl, rfl⟩⟩, Kept.alloc w _⟩
theorem OwnB.at {w W : World} {v : Value} {xs : List Int} (h : OwnB w W v xs) : ∃ a c, v = .slice a xs.length c ∧ BytesAt W a xs ∧ (a = none → c = 0) := by
  obtain ⟨a, c, e, hb, _⟩ := bytes_of_own h.row
  refine ⟨a, c, e, hb, fun ha => ?_⟩
  rcases h.row.2 with ⟨e', _⟩ | ⟨g, cap, cur, e', _⟩
  · rw [e] at e'; simp only [Value.slice.injEq] at e'; exact e'.2.2
  · rw [e, ha] at e'; simp at e'
theorem OwnB.grow {w W W' : World} {v v' : Value} {xs ys : List Int} (h : OwnB w W v xs) (h1 : W'.ownsRow w.heap.size 5 1 v' ys.length (bs ys)) (h2 : W.grownBy W' v.ownBlock) : OwnB w W' v' ys := by
  refine ⟨h1, h.kept.trans (Kept.grown h2) ?_⟩
  intro i hi
  rcases h.row.2 with ⟨e, _⟩ | ⟨g, cap, cur, e, hg, _⟩
  · rw [e] at hi; simp [Value.ownBlock] at hi
  · rw [e] at hi
    simp only [Value.ownBlock, Option.some.injEq] at hi
    exact .inr (by omega)
/-- append(x, y...) of bytes: one law for whatever y. -/
theorem wpList_app {w W : World} {ops : Array Oper} {rest : List Oper} {o : Oper} {act : Act} {Q : Exit → Act → World → Prop} (hgd : o.guard = none) (s x : Operand)
    (ho : o.op = .call { callee := .builtin .append, args := #[s, x], argTypes := #[22, 22] })
    (v : Value) (xs l : List Int) (hs : act.eval s = v) (ad : Option Addr) (c : Nat) (hx : act.eval x = .slice ad l.length c)
    (hown : Hid (OwnB w W v xs)) (hB : Hid (BytesAt W ad l)) (ha : Hid (ad = none → c = 0)) (hr : xs.length + l.length ≤ 140737488355328)
    (h : ∀ a' c' W', Hid (OwnB w W' (.slice a' (xs ++ l).length c') (xs ++ l)) → wpList Tryd.prog ops Q rest (act.put o.dst (.slice a' (xs ++ l).length c')) W') : wpList Tryd.prog ops Q (o :: rest) act W := by
  obtain ⟨i0, hi, hz0, hz1, hz2⟩ := info_parts Tryd.infoB
  have hle : w.heap.size ≤ W.heap.size := hown.out.kept.size
  cases ad with
  | none =>
    obtain rfl : l = [] := by
      cases l with
      | nil => rfl
      | cons x r => obtain ⟨b, off, e, _⟩ := hB.out (by simp); cases e
    obtain rfl := ha.out rfl
    obtain ⟨a', c', rfl, _⟩ := hown.out.at
    refine wpList_append_own_none hgd s x 22 ho w.heap.size 5 i0 1 Tryd.underlying22 hi _ _ _ hs hown.out.row hx ?_
    have := h a' c' W (by rw [List.append_nil]; exact hown)
    rwa [List.append_nil] at this
  | some ad =>
    have hcl : ∀ j u, (bs l)[j]? = some u → W.cell? (ad.add j) = some u := by
      by_cases hl : l = []
      · subst hl; intro j u hu; simp [bs] at hu
      · obtain ⟨b, off, e, hcc⟩ := hB.out hl
        cases e
        exact BytesAt.cells hcc
    refine wpList_append_own_at _ hgd s x 22 ho w.heap.size 5 i0 (.int .u8 0) 1 1 Tryd.underlying22 hi hz0 hz1 hz2 rfl (by decide) _ _ _ hs hown.out.row ad l.length c (bs l) hx (by rw [bs_length]; omega) hcl (bs_one l) (by unfold maxLen; omega) (by omega) hle ?_
    intro v' w1 hown1 hgrow _ _
    have e : bs xs ++ bs l = bs (xs ++ l) := by simp [bs]
    rw [e, ← List.length_append] at hown1
    have q := hown.out.grow hown1 hgrow
    obtain ⟨a', c', rfl, _⟩ := q.at
    exact h a' c' w1 q
/-- The same, with lists and lengths that have names. -/
theorem wpList_apn {w W : World} {ops : Array Oper} {rest : List Oper} {o : Oper} {act : Act} {Q : Exit → Act → World → Prop} (hgd : o.guard = none) (s x : Operand)
    (ho : o.op = .call { callee := .builtin .append, args := #[s, x], argTypes := #[22, 22] })
    (v : Value) (xs l ys : List Int) (m n : Nat) (hs : act.eval s = v) (ad : Option Addr) (c : Nat) (hx : act.eval x = .slice ad m c)
    (hm : Hid (m = l.length)) (hys : Hid (ys = xs ++ l)) (hn : Hid (n = ys.length))
    (hown : Hid (OwnB w W v xs)) (hB : Hid (BytesAt W ad l)) (ha : Hid (ad = none → c = 0)) (hr : Hid (ys.length ≤ 140737488355328))
    (h : ∀ a' c' W', Hid (OwnB w W' (.slice a' n c') ys) → wpList Tryd.prog ops Q rest (act.put o.dst (.slice a' n c')) W') : wpList Tryd.prog ops Q (o :: rest) act W := by
  have h1 := hm.out
  have h2 := hys.out
  have h3 := hn.out
  have h4 := hr.out
  clear hm hys hn hr
  subst h1 h2 h3
  exact wpList_app hgd s x ho v xs l hs ad c hx hown hB ha (by rw [List.length_append] at h4; exact h4) h
end Go.Proofs.YtoglgicmnhklbaaDoor
