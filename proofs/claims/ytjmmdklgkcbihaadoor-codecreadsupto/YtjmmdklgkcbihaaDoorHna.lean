import Derived.Test.YtjmmdklgkcbihaaDoorRdB
import Derived.Laws.AppendOwnNone
import Derived.ArgAppend
namespace Go.Proofs.YtjmmdklgkcbihaaDoor
open Go.ChangeShapes Go.WideShapes Go.ChangeAt Go.RowKit

theorem hideH {p : Prop} (h : p) : Hid p := h
/-- A stopping mark. -/
structure StpH (p : Prop) : Prop where
  out : p
theorem StpH.go {p : Prop} (h : StpH p) : p := h.out
/-- A list of bytes at the beginning of a block, with its room. -/
def Lib (W : World) (v : Value) (l : List Int) : Prop :=
  (v = .slice none 0 0 ∧ l = []) ∨ ∃ b c cur, v = .slice (some ⟨b, 0, none⟩) l.length c ∧ W.heap[b]? = some (.cells cur 5 (0, 0)) ∧ l.length ≤ c ∧ c ≤ cur.size ∧ cur.toList.take l.length = bs l
theorem Lib.shape {W : World} {v : Value} {l : List Int} (h : Lib W v l) : ∃ a c, v = .slice a l.length c ∧ (a = none → l = [] ∧ c = 0) ∧ l.length ≤ c := by
  rcases h with ⟨rfl, rfl⟩ | ⟨b, c, cur, rfl, _, h, _⟩
  · exact ⟨none, 0, rfl, fun _ => ⟨rfl, rfl⟩, Nat.le_refl _⟩
  · exact ⟨_, c, rfl, fun e => (by cases e), h⟩
theorem Lib.lt {W : World} {v : Value} {l : List Int} (h : Lib W v l) {k : Nat} (e : v.ownBlock = some k) : k < W.heap.size := by
  rcases h with ⟨rfl, rfl⟩ | ⟨b, c, cur, rfl, hb, _⟩
  · cases e
  · have : b = k := Option.some.inj e
    rw [← this]
    exact lt_of_block hb
theorem Lib.kept {F : Nat → Prop} {W W' : World} {v : Value} {l : List Int} (h : Lib W v l) (k : Kept F W W') (hF : ∀ i, v.ownBlock = some i → ¬ F i) : Lib W' v l := by
  rcases h with ⟨rfl, rfl⟩ | ⟨b, c, cur, rfl, hb, r⟩
  · exact .inl ⟨rfl, rfl⟩
  · exact .inr ⟨b, c, cur, rfl, k.heap hb (hF b rfl), r⟩
theorem Lib.later {W W' : World} {v : Value} {l : List Int} (h : Lib W v l) (k : Kept (fun _ => False) W W') : Lib W' v l := h.kept k (fun _ _ f => f)
theorem Lib.of_own {W : World} {base n : Nat} {v : Value} {l : List Int} (h : W.ownsRow base 5 1 v n (bs l)) : Lib W v l := by
  have hn : n = l.length := by have := h.1; rw [bs_length] at this; omega
  rcases h.2 with ⟨rfl, e⟩ | ⟨g, cap, cur, rfl, _, hh, h1, h2, h3, h4⟩
  · exact .inl ⟨rfl, List.eq_nil_of_length_eq_zero (by omega)⟩
  · subst hn
    rw [Nat.mul_one] at h3 h4
    exact .inr ⟨g, cap, cur, rfl, hh, h1, by omega, h4⟩
theorem Lib.cells {W : World} {v : Value} {l : List Int} (h : Lib W v l) {j : Nat} (hj : j < l.length) : ∃ b c, v = .slice (some ⟨b, 0, none⟩) l.length c ∧ W.cell? ⟨b, j, none⟩ = some (.int .u8 (l[j]?.getD 0)) ∧ W.frozen? ⟨b, j, none⟩ = false := by
  rcases h with ⟨rfl, rfl⟩ | ⟨b, c, cur, rfl, hb, h1, h2, h3⟩
  · simp at hj
  · refine ⟨b, c, rfl, ?_, by simp [World.frozen?, hb]⟩
    rw [cell_of_row _ _ j _ _ _ hb]
    have h5 : (cur.toList.take l.length)[j]? = (bs l)[j]? := by rw [h3]
    rw [List.getElem?_take, if_pos hj, Array.getElem?_toList] at h5
    rw [h5]
    simp [bs, List.getElem?_eq_getElem hj]
theorem Lib.bytes {W : World} {v : Value} {l : List Int} (h : Lib W v l) : ∃ a c, v = .slice a l.length c ∧ BytesAt W a l := by
  obtain ⟨a, c, rfl, hz, -⟩ := h.shape
  refine ⟨a, c, rfl, fun hne => ?_⟩
  have h0 : 0 < l.length := List.length_pos_iff.2 hne
  obtain ⟨b, c', e, -⟩ := h.cells h0
  simp only [Value.slice.injEq] at e
  refine ⟨b, 0, e.1, fun k hk => ?_⟩
  obtain ⟨b', c2, e2, hc, -⟩ := h.cells hk
  simp only [Value.slice.injEq] at e2
  have : some (⟨b, 0, none⟩ : Addr) = some ⟨b', 0, none⟩ := e.1.symm.trans e2.1
  injection this with this
  injection this with this
  subst this
  rw [Nat.zero_add]
  exact hc
theorem Lib.set {W : World} {v : Value} {l : List Int} (h : Lib W v l) {b j : Nat} (hb : v.ownBlock = some b) (hj : j < l.length) (x : Int) : Lib (W.setCell ⟨b, j, none⟩ (.int .u8 x)) v (l.set j x) := by
  rcases h with ⟨rfl, rfl⟩ | ⟨b', c, cur, rfl, hh, h1, h2, h3⟩
  · simp at hj
  · have e : b' = b := Option.some.inj hb
    subst e
    refine .inr ⟨b', c, _, by rw [List.length_set], heap_setCell_same W b' j cur _ (.int .u8 x) hh, by rw [List.length_set]; exact h1, by simpa using h2, ?_⟩
    rw [Array.toList_setIfInBounds, List.length_set, List.take_set, h3]
    simp [bs, List.map_set]
theorem row_shapeH {w : World} {base n : Nat} {e : TypeId} {sz : Nat} {v : Value} {xs : List Value} (h : w.ownsRow base e sz v n xs) : ∃ a c, v = .slice a n c := by
  rcases h.2 with ⟨rfl, e⟩ | ⟨g, cap, cur, rfl, _⟩
  · exact ⟨none, 0, by rw [e]⟩
  · exact ⟨_, _, rfl⟩
/-- What an append leaves: the block is the elder one or a new one, and the beginning of the elder one stays. -/
structure LStep (W W' : World) (v v' : Value) (n : Nat) : Prop where
  kept : Kept (fun k => v.ownBlock = some k) W W'
  new : ∀ k, v'.ownBlock = some k → v.ownBlock = some k ∨ W.heap.size ≤ k
  pre : ∀ v0 l0, (v0.ownBlock = v.ownBlock → l0.length ≤ n) → Lib W v0 l0 → Lib W' v0 l0
theorem setCells_block {b : Nat} {t : TypeId} : ∀ (news : List Value) (o : Nat) (W : World) (cur : Array Value), W.heap[b]? = some (.cells cur t (0, 0)) → o + news.length ≤ cur.size → ∃ cur', (W.setCells b o news).heap[b]? = some (.cells cur' t (0, 0)) ∧ cur'.size = cur.size ∧ cur'.toList.take o = cur.toList.take o ∧ (cur'.toList.take (o + news.length)) = cur.toList.take o ++ news := by
  intro news
  induction news with
  | nil => intro o W cur h _; exact ⟨cur, h, rfl, rfl, by simp⟩
  | cons x r ih =>
    intro o W cur h hl
    rw [List.length_cons] at hl
    have h1 := heap_setCell_same W b o cur t x h
    obtain ⟨cur', h2, h3, h4, h5⟩ := ih (o + 1) _ _ h1 (by rw [Array.size_setIfInBounds]; omega)
    refine ⟨cur', h2, by rw [h3]; simp, ?_, ?_⟩
    · have e := congrArg (List.take o) h4
      rw [List.take_take, List.take_take, Nat.min_eq_left (by omega), Array.toList_setIfInBounds] at e
      rw [e, List.take_set_of_le (Nat.le_refl _)]
    · rw [List.length_cons, show o + (r.length + 1) = o + 1 + r.length by omega, h5, Array.toList_setIfInBounds, List.take_add_one, List.take_set_of_le (Nat.le_refl _), List.getElem?_set_self (by rw [Array.length_toList]; omega)]
      simp
theorem setCells_kept {b : Nat} : ∀ (news : List Value) (o : Nat) (W : World), Kept (fun k => k = b) W (W.setCells b o news) := by
  intro news
  induction news with
  | nil => intro o W; exact Kept.refl _ _
  | cons x r ih => intro o W; exact (Kept.setCell W ⟨b, o, none⟩ x).trans (ih (o + 1) _) (fun i e => .inl e)
/-- 'append(s, x...)' of bytes, wherever s lies. -/
theorem wpList_lib {W : World} {ops : Array Oper} {rest : List Oper} {o : Oper} {act : Act} {Q : Exit → Act → World → Prop} (hgd : o.guard = none) (s x : Operand)
    (ho : o.op = .call { callee := .builtin .append, args := #[s, x], argTypes := #[26, 26] }) (v : Value) (l ys : List Int) (hs : act.eval s = v) (hG : Hid (Lib W v l)) (xb m c : Nat) (hx : act.eval x = .slice (some ⟨xb, 0, none⟩) m c) (hm : Hid (m = ys.length)) (hc : Hid (∀ j u, (bs ys)[j]? = some u → W.cell? ((⟨xb, 0, none⟩ : Addr).add j) = some u)) (n : Nat) (hn : Hid (n = l.length)) (hm0 : 0 < m) (hb : n + m ≤ 70368744177664)
    (h : ∀ a' c' W', Hid (Lib W' (.slice a' (n + m) c') (l ++ ys)) → Hid (LStep W W' v (.slice a' (n + m) c') n) → wpList Tryd.prog ops Q rest (act.put o.dst (.slice a' (n + m) c')) W') : wpList Tryd.prog ops Q (o :: rest) act W := by
  obtain ⟨i0, hi, hz0, hz1, hz2⟩ := info_parts Tryd.infoB
  have hm' := hm.out
  have hn' := hn.out
  subst hm' hn'
  have grow : ∀ (ao : Option Addr) (cap : Nat), v = .slice ao l.length cap → (ao = none → l.length = 0 ∧ cap = 0) → (∀ b, ao = some b → ∀ j u, (bs l)[j]? = some u → W.cell? (b.add j) = some u) → cap < l.length + ys.length → wpList Tryd.prog ops Q (o :: rest) act W := by
    intro ao cap e h0 hcl hlt
    refine wpList_append_grows W hgd s x 26 ho 5 i0 (.int .u8 0) 1 1 Tryd.underlying26 hi hz0 hz1 hz2 rfl (by decide) ao l.length cap (bs l) (hs.trans e) h0 (by rw [bs_length]; omega) hcl ⟨xb, 0, none⟩ ys.length c (bs ys) hx (by rw [bs_length]; omega) hc.out (bs_one ys) hlt (by unfold maxLen; omega) (by omega) ?_
    intro v' w' ho' hg'
    rw [← bs_append] at ho'
    have hk : Kept (fun _ => False) W w' := (Kept.grown hg').mono (fun _ e => by cases e)
    obtain ⟨a', c', rfl⟩ := row_shapeH ho'
    refine h a' c' w' (hideH (Lib.of_own ho')) (hideH ⟨hk.mono (fun _ f => f.elim), fun k hk => .inr (ho'.lt k hk).1, fun v0 l0 _ h0 => h0.later hk⟩)
  rcases hG.out with ⟨rfl, rfl⟩ | ⟨b, cap, cur, rfl, hh, h1, h2, h3⟩
  · exact grow none 0 rfl (fun _ => ⟨rfl, rfl⟩) (fun b e => by cases e) (by simp; omega)
  · have hcl : ∀ j u, (bs l)[j]? = some u → W.cell? ⟨b, 0 + j, none⟩ = some u := by
      intro j u hu
      rw [← h3, List.getElem?_take] at hu
      split at hu
      · rw [Nat.zero_add, cell_of_row _ _ j _ _ _ hh]
        simpa using hu
      · cases hu
    refine wpList_append_arg W hgd s x 26 ho 5 i0 (.int .u8 0) 1 1 Tryd.underlying26 hi hz0 hz1 hz2 rfl (by decide) b 0 l.length cap (bs l) hs (by rw [bs_length]; omega) hcl ⟨xb, 0, none⟩ ys.length c (bs ys) hx (by rw [bs_length]; omega) hc.out (bs_one ys) ?_ (by unfold maxLen; omega) (by omega) ?_ ?_
    · intro hr j hj
      rw [bs_length] at hj
      have hlt : 0 + l.length * 1 + j < cur.size := by omega
      refine ⟨?_, by simp [World.frozen?, hh]⟩
      rw [cell_of_row _ _ _ _ _ _ hh, Array.getElem?_eq_getElem hlt]
      rfl
    · intro hr
      obtain ⟨cur', q1, q2, q3, q4⟩ := setCells_block (b := b) (t := 5) (bs ys) (0 + l.length * 1) W cur hh (by rw [bs_length]; omega)
      have e0 : 0 + l.length * 1 = l.length := by omega
      rw [e0] at q1 q3 q4 ⊢
      refine h _ cap _ (hideH (.inr ⟨b, cap, cur', by rw [List.length_append], q1, by rw [List.length_append]; exact hr, by omega, ?_⟩)) (hideH ⟨(setCells_kept _ _ _).mono (fun i e => .inl (by rw [e]; rfl)), fun k hk => .inl hk, fun v0 l0 hv h0 => ?_⟩)
      · rw [bs_length] at q4
        rw [List.length_append, q4, h3, bs_append]
      · by_cases hv0 : v0.ownBlock = some b
        · have hle := hv hv0
          rcases h0 with ⟨rfl, rfl⟩ | ⟨b', c0, cur0, rfl, hh0, r1, r2, r3⟩
          · exact .inl ⟨rfl, rfl⟩
          · have e : b' = b := Option.some.inj hv0
            subst e
            rw [hh] at hh0
            injection hh0 with hh0
            injection hh0 with hh0
            subst hh0
            refine .inr ⟨b', c0, cur', rfl, q1, r1, by omega, ?_⟩
            have e2 := congrArg (List.take l0.length) q3
            rw [List.take_take, List.take_take, Nat.min_eq_left hle] at e2
            rw [e2, r3]
        · exact h0.kept (setCells_kept _ _ _) (fun i e f => hv0 (by rw [e, f]))
    · intro hr v' w' ho' hg'
      rw [← bs_append] at ho'
      have hk : Kept (fun _ => False) W w' := (Kept.grown hg').mono (fun _ e => by cases e)
      obtain ⟨a', c', rfl⟩ := row_shapeH ho'
      exact h a' c' w' (hideH (Lib.of_own ho')) (hideH ⟨hk.mono (fun _ f => f.elim), fun k hk => .inr (ho'.lt k hk).1, fun v0 l0 _ h0 => h0.later hk⟩)
end Go.Proofs.YtjmmdklgkcbihaaDoor
