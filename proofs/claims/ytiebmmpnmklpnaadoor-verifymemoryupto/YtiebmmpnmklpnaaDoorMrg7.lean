import Derived.Test.YtiebmmpnmklpnaaDoorRdB
import Derived.Laws.AppendOwnNone
import Derived.ArgAppend
import Derived.Test.YtiebmmpnmklpnaaDoorMrg8
import Derived.Test.YtiebmmpnmklpnaaDoorMki
namespace Go.Proofs.YtiebmmpnmklpnaaDoor
open Go.ChangeShapes Go.WideShapes Go.ChangeAt Go.RowKit

theorem hideH {p : Prop} (h : p) : Hid p := h
/-- A stopping mark. -/
structure StpH (p : Prop) : Prop where
  out : p
theorem StpH.go {p : Prop} (h : StpH p) : p := h.out
/-- A list of bytes at the beginning of a block, with its room. -/
def Lib (W : World) (v : Value) (l : List Int) : Prop :=
  (v = .slice none 0 0 ∧ l = []) ∨ ∃ b c cur, v = .slice (some ⟨b, 0, none⟩) l.length c ∧ W.heap[b]? = some (.cells cur 5 (0, 0)) ∧ l.length ≤ c ∧ c ≤ cur.size ∧ cur.toList.take l.length = bs l
theorem Lib.shape {W : World} {v : Value} {l : List Int} (h : Lib W v l) : ∃ a c, v = .slice a l.length c ∧ (a = none → l = [] ∧ c = 0) ∧ l.length ≤ c := by
  rcases h with ⟨rfl, rfl⟩ | ⟨b, c, cur, rfl, _, h, _⟩
  · exact ⟨none, 0, rfl, fun _ => ⟨rfl, rfl⟩, Nat.le_refl _⟩
  · exact ⟨_, c, rfl, fun e => (by cases e), h⟩
theorem Lib.lt {W : World} {v : Value} {l : List Int} (h : Lib W v l) {k : Nat} (e : v.ownBlock = some k) : k < W.heap.size := by
  rcases h with ⟨rfl, rfl⟩ | ⟨b, c, cur, rfl, hb, _⟩
  · cases e
  · have : b = k := Option.some.inj e
    rw [← this]
    exact lt_of_block hb
theorem Lib.kept {F : Nat → Prop} {W W' : World} {v : Value} {l : List Int} (h : Lib W v l) (k : Kept F W W') (hF : ∀ i, v.ownBlock = some i → ¬ F i) : Lib W' v l := by
  rcases h with ⟨rfl, rfl⟩ | ⟨b, c, cur, rfl, hb, r⟩
  · exact .inl ⟨rfl, rfl⟩
  · exact .inr ⟨b, c, cur, rfl, k.heap hb (hF b rfl), r⟩
theorem Lib.later {W W' : World} {v : Value} {l : List Int} (h : Lib W v l) (k : Kept (fun _ => False) W W') : Lib W' v l := h.kept k (fun _ _ f => f)
theorem Lib.of_own {W : World} {base n : Nat} {v : Value} {l : List Int} (h : W.ownsRow base 5 1 v n (bs l)) : Lib W v l := by
  have hn : n = l.length := by have := h.1; rw [bs_length] at this; omega
  rcases h.2 with ⟨rfl, e⟩ | ⟨g, cap, cur, rfl, _, hh, h1, h2, h3, h4⟩
  · exact .inl ⟨rfl, List.eq_nil_of_length_eq_zero (by omega)⟩
  · subst hn
    rw [Nat.mul_one] at h3 h4
    exact .inr ⟨g, cap, cur, rfl, hh, h1, by omega, h4⟩
theorem Lib.cells {W : World} {v : Value} {l : List Int} (h : Lib W v l) {j : Nat} (hj : j < l.length) : ∃ b c, v = .slice (some ⟨b, 0, none⟩) l.length c ∧ W.cell? ⟨b, j, none⟩ = some (.int .u8 (l[j]?.getD 0)) ∧ W.frozen? ⟨b, j, none⟩ = false := by
  rcases h with ⟨rfl, rfl⟩ | ⟨b, c, cur, rfl, hb, h1, h2, h3⟩
  · simp at hj
  · refine ⟨b, c, rfl, ?_, by simp [World.frozen?, hb]⟩
    rw [cell_of_row _ _ j _ _ _ hb]
    have h5 : (cur.toList.take l.length)[j]? = (bs l)[j]? := by rw [h3]
    rw [List.getElem?_take, if_pos hj, Array.getElem?_toList] at h5
    rw [h5]
    simp [bs, List.getElem?_eq_getElem hj]
theorem Lib.bytes {W : World} {v : Value} {l : List Int} (h : Lib W v l) : ∃ a c, v = .slice a l.length c ∧ BytesAt W a l := by
  obtain ⟨a, c, rfl, hz, -⟩ := h.shape
  refine ⟨a, c, rfl, fun hne => ?_⟩
  have h0 : 0 < l.length := List.length_pos_iff.2 hne
  obtain ⟨b, c', e, -⟩ := h.cells h0
  simp only [Value.slice.injEq] at e
  refine ⟨b, 0, e.1, fun k hk => ?_⟩
  obtain ⟨b', c2, e2, hc, -⟩ := h.cells hk
  simp only [Value.slice.injEq] at e2
  have : some (⟨b, 0, none⟩ : Addr) = some ⟨b', 0, none⟩ := e.1.symm.trans e2.1
  injection this with this
  injection this with this
  subst this
  rw [Nat.zero_add]
  exact hc
theorem Lib.set {W : World} {v : Value} {l : List Int} (h : Lib W v l) {b j : Nat} (hb : v.ownBlock = some b) (hj : j < l.length) (x : Int) : Lib (W.setCell ⟨b, j, none⟩ (.int .u8 x)) v (l.set j x) := by
  rcases h with ⟨rfl, rfl⟩ | ⟨b', c, cur, rfl, hh, h1, h2, h3⟩
  · simp at hj
  · have e : b' = b := Option.some.inj hb
    subst e
    refine .inr ⟨b', c, _, by rw [List.length_set], heap_setCell_same W b' j cur _ (.int .u8 x) hh, by rw [List.length_set]; exact h1, by simpa using h2, ?_⟩
    rw [Array.toList_setIfInBounds, List.length_set, List.take_set, h3]
    simp [bs, List.map_set]
theorem row_shapeH {w : World} {base n : Nat} {e : TypeId} {sz : Nat} {v : Value} {xs : List Value} (h : w.ownsRow base e sz v n xs) : ∃ a c, v = .slice a n c := by
  rcases h.2 with ⟨rfl, e⟩ | ⟨g, cap, cur, rfl, _⟩
  · exact ⟨none, 0, by rw [e]⟩
  · exact ⟨_, _, rfl⟩
/-- What an append leaves: the block is the elder one or a new one, and the beginning of the elder one stays. -/
structure LStep (W W' : World) (v v' : Value) (n : Nat) : Prop where
  kept : Kept (fun k => v.ownBlock = some k) W W'
  new : ∀ k, v'.ownBlock = some k → v.ownBlock = some k ∨ W.heap.size ≤ k
  pre : ∀ v0 l0, (v0.ownBlock = v.ownBlock → l0.length ≤ n) → Lib W v0 l0 → Lib W' v0 l0
theorem setCells_block {b : Nat} {t : TypeId} : ∀ (news : List Value) (o : Nat) (W : World) (cur : Array Value), W.heap[b]? = some (.cells cur t (0, 0)) → o + news.length ≤ cur.size → ∃ cur', (W.setCells b o news).heap[b]? = some (.cells cur' t (0, 0)) ∧ cur'.size = cur.size ∧ cur'.toList.take o = cur.toList.take o ∧ (cur'.toList.take (o + news.length)) = cur.toList.take o ++ news := by
  intro news
  induction news with
  | nil => intro o W cur h _; exact ⟨cur, h, rfl, rfl, by simp⟩
  | cons x r ih =>
    intro o W cur h hl
    rw [List.length_cons] at hl
    have h1 := heap_setCell_same W b o cur t x h
    obtain ⟨cur', h2, h3, h4, h5⟩ := ih (o + 1) _ _ h1 (by rw [Array.size_setIfInBounds]; omega)
    refine ⟨cur', h2, by rw [h3]; simp, ?_, ?_⟩
    · have e := congrArg (List.take o) h4
      rw [List.take_take, List.take_take, Nat.min_eq_left (by omega), Array.toList_setIfInBounds] at e
      rw [e, List.take_set_of_le (Nat.le_refl _)]
    · rw [List.length_cons, show o + (r.length + 1) = o + 1 + r.length by omega, h5, Array.toList_setIfInBounds, List.take_add_one, List.take_set_of_le (Nat.le_refl _), List.getElem?_set_self (by rw [Array.length_toList]; omega)]
      simp
theorem setCells_kept {b : Nat} : ∀ (news : List Value) (o : Nat) (W : World), Kept (fun k => k = b) W (W.setCells b o news) := by
  intro news
  induction news with
  | nil => intro o W; exact Kept.refl _ _
  | cons x r ih => intro o W; exact (Kept.setCell W ⟨b, o, none⟩ x).trans (ih (o + 1) _) (fun i e => .inl e)
/-- 'append(s, x...)' of bytes, wherever s lies. -/
theorem wpList_lib {W : World} {ops : Array Oper} {rest : List Oper} {o : Oper} {act : Act} {Q : Exit → Act → World → Prop} (hgd : o.guard = none) (s x : Operand)
    (ho : o.op = .call { callee := .builtin .append, args := #[s, x], argTypes := #[25, 25] }) (v : Value) (l ys : List Int) (hs : act.eval s = v) (hG : Hid (Lib W v l)) (xb m c : Nat) (hx : act.eval x = .slice (some ⟨xb, 0, none⟩) m c) (hm : Hid (m = ys.length)) (hc : Hid (∀ j u, (bs ys)[j]? = some u → W.cell? ((⟨xb, 0, none⟩ : Addr).add j) = some u)) (n : Nat) (hn : Hid (n = l.length)) (hm0 : 0 < m) (hb : n + m ≤ 70368744177664)
    (h : ∀ a' c' W', Hid (Lib W' (.slice a' (n + m) c') (l ++ ys)) → Hid (LStep W W' v (.slice a' (n + m) c') n) → wpList Tryd.prog ops Q rest (act.put o.dst (.slice a' (n + m) c')) W') : wpList Tryd.prog ops Q (o :: rest) act W := by
  obtain ⟨i0, hi, hz0, hz1, hz2⟩ := info_parts Tryd.infoB
  have hm' := hm.out
  have hn' := hn.out
  subst hm' hn'
  have grow : ∀ (ao : Option Addr) (cap : Nat), v = .slice ao l.length cap → (ao = none → l.length = 0 ∧ cap = 0) → (∀ b, ao = some b → ∀ j u, (bs l)[j]? = some u → W.cell? (b.add j) = some u) → cap < l.length + ys.length → wpList Tryd.prog ops Q (o :: rest) act W := by
    intro ao cap e h0 hcl hlt
    refine wpList_append_grows W hgd s x 25 ho 5 i0 (.int .u8 0) 1 1 Tryd.underlying25 hi hz0 hz1 hz2 rfl (by decide) ao l.length cap (bs l) (hs.trans e) h0 (by rw [bs_length]; omega) hcl ⟨xb, 0, none⟩ ys.length c (bs ys) hx (by rw [bs_length]; omega) hc.out (bs_one ys) hlt (by unfold maxLen; omega) (by omega) ?_
    intro v' w' ho' hg'
    rw [← bs_append] at ho'
    have hk : Kept (fun _ => False) W w' := (Kept.grown hg').mono (fun _ e => by cases e)
    obtain ⟨a', c', rfl⟩ := row_shapeH ho'
    refine h a' c' w' (hideH (Lib.of_own ho')) (hideH ⟨hk.mono (fun _ f => f.elim), fun k hk => .inr (ho'.lt k hk).1, fun v0 l0 _ h0 => h0.later hk⟩)
  rcases hG.out with ⟨rfl, rfl⟩ | ⟨b, cap, cur, rfl, hh, h1, h2, h3⟩
  · exact grow none 0 rfl (fun _ => ⟨rfl, rfl⟩) (fun b e => by cases e) (by simp; omega)
  · have hcl : ∀ j u, (bs l)[j]? = some u → W.cell? ⟨b, 0 + j, none⟩ = some u := by
      intro j u hu
      rw [← h3, List.getElem?_take] at hu
      split at hu
      · rw [Nat.zero_add, cell_of_row _ _ j _ _ _ hh]
        simpa using hu
      · cases hu
    refine wpList_append_arg W hgd s x 25 ho 5 i0 (.int .u8 0) 1 1 Tryd.underlying25 hi hz0 hz1 hz2 rfl (by decide) b 0 l.length cap (bs l) hs (by rw [bs_length]; omega) hcl ⟨xb, 0, none⟩ ys.length c (bs ys) hx (by rw [bs_length]; omega) hc.out (bs_one ys) ?_ (by unfold maxLen; omega) (by omega) ?_ ?_
    · intro hr j hj
      rw [bs_length] at hj
      have hlt : 0 + l.length * 1 + j < cur.size := by omega
      refine ⟨?_, by simp [World.frozen?, hh]⟩
      rw [cell_of_row _ _ _ _ _ _ hh, Array.getElem?_eq_getElem hlt]
      rfl
    · intro hr
      obtain ⟨cur', q1, q2, q3, q4⟩ := setCells_block (b := b) (t := 5) (bs ys) (0 + l.length * 1) W cur hh (by rw [bs_length]; omega)
      have e0 : 0 + l.length * 1 = l.length := by omega
      rw [e0] at q1 q3 q4 ⊢
      refine h _ cap _ (hideH (.inr ⟨b, cap, cur', by rw [List.length_append], q1, by rw [List.length_append]; exact hr, by omega, ?_⟩)) (hideH ⟨(setCells_kept _ _ _).mono (fun i e => .inl (by rw [e]; rfl)), fun k hk => .inl hk, fun v0 l0 hv h0 => ?_⟩)
      · rw [bs_length] at q4
        rw [List.length_append, q4, h3, bs_append]
      · by_cases hv0 : v0.ownBlock = some b
        · have hle := hv hv0
          rcases h0 with ⟨rfl, rfl⟩ | ⟨b', c0, cur0, rfl, hh0, r1, r2, r3⟩
          · exact .inl ⟨rfl, rfl⟩
          · have e : b' = b := Option.some.inj hv0
            subst e
            rw [hh] at hh0
            injection hh0 with hh0
            injection hh0 with hh0
            subst hh0
            refine .inr ⟨b', c0, cur', rfl, q1, r1, by omega, ?_⟩
            have e2 := congrArg (List.take l0.length) q3
            rw [List.take_take, List.take_take, Nat.min_eq_left hle] at e2
            rw [e2, r3]
        · exact h0.kept (setCells_kept _ _ _) (fun i e f => hv0 (by rw [e, f]))
    · intro hr v' w' ho' hg'
      rw [← bs_append] at ho'
      have hk : Kept (fun _ => False) W w' := (Kept.grown hg').mono (fun _ e => by cases e)
      obtain ⟨a', c', rfl⟩ := row_shapeH ho'
      exact h a' c' w' (hideH (Lib.of_own ho')) (hideH ⟨hk.mono (fun _ f => f.elim), fun k hk => .inr (ho'.lt k hk).1, fun v0 l0 _ h0 => h0.later hk⟩)
end Go.Proofs.YtiebmmpnmklpnaaDoor
namespace Go.Proofs.YtiebmmpnmklpnaaDoor
open Go.ChangeShapes Go.WideShapes Go.ChangeAt Go.RowKit

def isH (l : List Int) : List Value := l.map (Value.int .i64)
theorem isH_length (l : List Int) : (isH l).length = l.length := List.length_map ..
theorem isH_append (a b : List Int) : isH (a ++ b) = isH a ++ isH b := List.map_append
theorem isH_one (a : List Int) : ∀ u ∈ isH a, u.oneCell' = true := by
  intro u hu
  obtain ⟨x, _, rfl⟩ := List.mem_map.1 hu
  rfl
theorem Tryd.infoIH : (Tryd.prog.info? 3).map (fun i => (i.zero, i.size, i.bytes)) = some (some (.int .i64 0), 1, 8) := by kernel_rfl

/-- A list of bytes at the beginning of a block, with its room. -/
def LibI (W : World) (v : Value) (l : List Int) : Prop :=
  (v = .slice none 0 0 ∧ l = []) ∨ ∃ b c cur, v = .slice (some ⟨b, 0, none⟩) l.length c ∧ W.heap[b]? = some (.cells cur 3 (0, 0)) ∧ l.length ≤ c ∧ c ≤ cur.size ∧ cur.toList.take l.length = isH l
theorem LibI.shape {W : World} {v : Value} {l : List Int} (h : LibI W v l) : ∃ a c, v = .slice a l.length c ∧ (a = none → l = [] ∧ c = 0) ∧ l.length ≤ c := by
  rcases h with ⟨rfl, rfl⟩ | ⟨b, c, cur, rfl, _, h, _⟩
  · exact ⟨none, 0, rfl, fun _ => ⟨rfl, rfl⟩, Nat.le_refl _⟩
  · exact ⟨_, c, rfl, fun e => (by cases e), h⟩
theorem LibI.lt {W : World} {v : Value} {l : List Int} (h : LibI W v l) {k : Nat} (e : v.ownBlock = some k) : k < W.heap.size := by
  rcases h with ⟨rfl, rfl⟩ | ⟨b, c, cur, rfl, hb, _⟩
  · cases e
  · have : b = k := Option.some.inj e
    rw [← this]
    exact lt_of_block hb
theorem LibI.kept {F : Nat → Prop} {W W' : World} {v : Value} {l : List Int} (h : LibI W v l) (k : Kept F W W') (hF : ∀ i, v.ownBlock = some i → ¬ F i) : LibI W' v l := by
  rcases h with ⟨rfl, rfl⟩ | ⟨b, c, cur, rfl, hb, r⟩
  · exact .inl ⟨rfl, rfl⟩
  · exact .inr ⟨b, c, cur, rfl, k.heap hb (hF b rfl), r⟩
theorem LibI.later {W W' : World} {v : Value} {l : List Int} (h : LibI W v l) (k : Kept (fun _ => False) W W') : LibI W' v l := h.kept k (fun _ _ f => f)
theorem LibI.of_own {W : World} {base n : Nat} {v : Value} {l : List Int} (h : W.ownsRow base 3 1 v n (isH l)) : LibI W v l := by
  have hn : n = l.length := by have := h.1; rw [isH_length] at this; omega
  rcases h.2 with ⟨rfl, e⟩ | ⟨g, cap, cur, rfl, _, hh, h1, h2, h3, h4⟩
  · exact .inl ⟨rfl, List.eq_nil_of_length_eq_zero (by omega)⟩
  · subst hn
    rw [Nat.mul_one] at h3 h4
    exact .inr ⟨g, cap, cur, rfl, hh, h1, by omega, h4⟩
theorem LibI.cells {W : World} {v : Value} {l : List Int} (h : LibI W v l) {j : Nat} (hj : j < l.length) : ∃ b c, v = .slice (some ⟨b, 0, none⟩) l.length c ∧ W.cell? ⟨b, j, none⟩ = some (.int .i64 (l[j]?.getD 0)) ∧ W.frozen? ⟨b, j, none⟩ = false := by
  rcases h with ⟨rfl, rfl⟩ | ⟨b, c, cur, rfl, hb, h1, h2, h3⟩
  · simp at hj
  · refine ⟨b, c, rfl, ?_, by simp [World.frozen?, hb]⟩
    rw [cell_of_row _ _ j _ _ _ hb]
    have h5 : (cur.toList.take l.length)[j]? = (isH l)[j]? := by rw [h3]
    rw [List.getElem?_take, if_pos hj, Array.getElem?_toList] at h5
    rw [h5]
    simp [isH, List.getElem?_eq_getElem hj]
theorem LibI.set {W : World} {v : Value} {l : List Int} (h : LibI W v l) {b j : Nat} (hb : v.ownBlock = some b) (hj : j < l.length) (x : Int) : LibI (W.setCell ⟨b, j, none⟩ (.int .i64 x)) v (l.set j x) := by
  rcases h with ⟨rfl, rfl⟩ | ⟨b', c, cur, rfl, hh, h1, h2, h3⟩
  · simp at hj
  · have e : b' = b := Option.some.inj hb
    subst e
    refine .inr ⟨b', c, _, by rw [List.length_set], heap_setCell_same W b' j cur _ (.int .i64 x) hh, by rw [List.length_set]; exact h1, by simpa using h2, ?_⟩
    rw [Array.toList_setIfInBounds, List.length_set, List.take_set, h3]
    simp [isH, List.map_set]
/-- What an append leaves: the block is the elder one or a new one, and the beginning of the elder one stays. -/
structure LStepI (W W' : World) (v v' : Value) (n : Nat) : Prop where
  kept : Kept (fun k => v.ownBlock = some k) W W'
  new : ∀ k, v'.ownBlock = some k → v.ownBlock = some k ∨ W.heap.size ≤ k
  pre : ∀ v0 l0, (v0.ownBlock = v.ownBlock → l0.length ≤ n) → LibI W v0 l0 → LibI W' v0 l0
/-- 'append(s, x...)' of bytes, wherever s lies. -/
theorem wpList_libI {W : World} {ops : Array Oper} {rest : List Oper} {o : Oper} {act : Act} {Q : Exit → Act → World → Prop} (hgd : o.guard = none) (s x : Operand)
    (ho : o.op = .call { callee := .builtin .append, args := #[s, x], argTypes := #[22, 22] }) (v : Value) (l ys : List Int) (hs : act.eval s = v) (hG : Hid (LibI W v l)) (xb m c : Nat) (hx : act.eval x = .slice (some ⟨xb, 0, none⟩) m c) (hm : Hid (m = ys.length)) (hc : Hid (∀ j u, (isH ys)[j]? = some u → W.cell? ((⟨xb, 0, none⟩ : Addr).add j) = some u)) (n : Nat) (hn : Hid (n = l.length)) (hm0 : 0 < m) (hb : n + m ≤ 8796093022208)
    (h : ∀ a' c' W', Hid (LibI W' (.slice a' (n + m) c') (l ++ ys)) → Hid (LStepI W W' v (.slice a' (n + m) c') n) → wpList Tryd.prog ops Q rest (act.put o.dst (.slice a' (n + m) c')) W') : wpList Tryd.prog ops Q (o :: rest) act W := by
  obtain ⟨i0, hi, hz0, hz1, hz2⟩ := info_parts Tryd.infoIH
  have hm' := hm.out
  have hn' := hn.out
  subst hm' hn'
  have grow : ∀ (ao : Option Addr) (cap : Nat), v = .slice ao l.length cap → (ao = none → l.length = 0 ∧ cap = 0) → (∀ b, ao = some b → ∀ j u, (isH l)[j]? = some u → W.cell? (b.add j) = some u) → cap < l.length + ys.length → wpList Tryd.prog ops Q (o :: rest) act W := by
    intro ao cap e h0 hcl hlt
    refine wpList_append_grows W hgd s x 22 ho 3 i0 (.int .i64 0) 1 8 Tryd.underlying22 hi hz0 hz1 hz2 rfl (by decide) ao l.length cap (isH l) (hs.trans e) h0 (by rw [isH_length]; omega) hcl ⟨xb, 0, none⟩ ys.length c (isH ys) hx (by rw [isH_length]; omega) hc.out (isH_one ys) hlt (by unfold maxLen; omega) (by omega) ?_
    intro v' w' ho' hg'
    rw [← isH_append] at ho'
    have hk : Kept (fun _ => False) W w' := (Kept.grown hg').mono (fun _ e => by cases e)
    obtain ⟨a', c', rfl⟩ := row_shapeH ho'
    refine h a' c' w' (hideH (LibI.of_own ho')) (hideH ⟨hk.mono (fun _ f => f.elim), fun k hk => .inr (ho'.lt k hk).1, fun v0 l0 _ h0 => h0.later hk⟩)
  rcases hG.out with ⟨rfl, rfl⟩ | ⟨b, cap, cur, rfl, hh, h1, h2, h3⟩
  · exact grow none 0 rfl (fun _ => ⟨rfl, rfl⟩) (fun b e => by cases e) (by simp; omega)
  · have hcl : ∀ j u, (isH l)[j]? = some u → W.cell? ⟨b, 0 + j, none⟩ = some u := by
      intro j u hu
      rw [← h3, List.getElem?_take] at hu
      split at hu
      · rw [Nat.zero_add, cell_of_row _ _ j _ _ _ hh]
        simpa using hu
      · cases hu
    refine wpList_append_arg W hgd s x 22 ho 3 i0 (.int .i64 0) 1 8 Tryd.underlying22 hi hz0 hz1 hz2 rfl (by decide) b 0 l.length cap (isH l) hs (by rw [isH_length]; omega) hcl ⟨xb, 0, none⟩ ys.length c (isH ys) hx (by rw [isH_length]; omega) hc.out (isH_one ys) ?_ (by unfold maxLen; omega) (by omega) ?_ ?_
    · intro hr j hj
      rw [isH_length] at hj
      have hlt : 0 + l.length * 1 + j < cur.size := by omega
      refine ⟨?_, by simp [World.frozen?, hh]⟩
      rw [cell_of_row _ _ _ _ _ _ hh, Array.getElem?_eq_getElem hlt]
      rfl
    · intro hr
      obtain ⟨cur', q1, q2, q3, q4⟩ := setCells_block (b := b) (t := 3) (isH ys) (0 + l.length * 1) W cur hh (by rw [isH_length]; omega)
      have e0 : 0 + l.length * 1 = l.length := by omega
      rw [e0] at q1 q3 q4 ⊢
      refine h _ cap _ (hideH (.inr ⟨b, cap, cur', by rw [List.length_append], q1, by rw [List.length_append]; exact hr, by omega, ?_⟩)) (hideH ⟨(setCells_kept _ _ _).mono (fun i e => .inl (by rw [e]; rfl)), fun k hk => .inl hk, fun v0 l0 hv h0 => ?_⟩)
      · rw [isH_length] at q4
        rw [List.length_append, q4, h3, isH_append]
      · by_cases hv0 : v0.ownBlock = some b
        · have hle := hv hv0
          rcases h0 with ⟨rfl, rfl⟩ | ⟨b', c0, cur0, rfl, hh0, r1, r2, r3⟩
          · exact .inl ⟨rfl, rfl⟩
          · have e : b' = b := Option.some.inj hv0
            subst e
            rw [hh] at hh0
            injection hh0 with hh0
            injection hh0 with hh0
            subst hh0
            refine .inr ⟨b', c0, cur', rfl, q1, r1, by omega, ?_⟩
            have e2 := congrArg (List.take l0.length) q3
            rw [List.take_take, List.take_take, Nat.min_eq_left hle] at e2
            rw [e2, r3]
        · exact h0.kept (setCells_kept _ _ _) (fun i e f => hv0 (by rw [e, f]))
    · intro hr v' w' ho' hg'
      rw [← isH_append] at ho'
      have hk : Kept (fun _ => False) W w' := (Kept.grown hg').mono (fun _ e => by cases e)
      obtain ⟨a', c', rfl⟩ := row_shapeH ho'
      exact h a' c' w' (hideH (LibI.of_own ho')) (hideH ⟨hk.mono (fun _ f => f.elim), fun k hk => .inr (ho'.lt k hk).1, fun v0 l0 _ h0 => h0.later hk⟩)
end Go.Proofs.YtiebmmpnmklpnaaDoor
namespace Go.Proofs.YtiebmmpnmklpnaaDoor
open Go.ChangeShapes Go.WideShapes Go.ChangeAt Go.RowKit

/-! The law's ways: every way through the instructions, by a list of what is still to be done. -/
def sn (Sn : List Bool) (t : Nat) : Prop := Sn[t]?.getD false = true
def hs (Hs : List Int) (t : Nat) : Int := Hs[t]?.getD 0
/-- What holds at an instruction that has been done. -/
def Dn (p : Pg) (L : List In) (Hs : List Int) (Sn : List Bool) (t : Nat) : Prop :=
  ∃ (ht : t < L.length) (h : Nat), hs Hs t = h ∧ (L[t].op = 0 ↔ t = L.length - 1) ∧ (L[t].op = 0 → h = 1) ∧ (L[t].op ≠ 0 → StpOk p L[t] h ∧ sn Sn (t + 1) ∧ hs Hs (t + 1) = ((h + 1 - tkN L[t] : Nat) : Int) ∧
    ((L[t].op = 15 ∨ L[t].op = 16) → t + 1 + L[t].a < L.length ∧ sn Sn (t + 1 + L[t].a) ∧ hs Hs (t + 1 + L[t].a) = ((h + 1 - tkN L[t] : Nat) : Int)))
/-- The state; i is in hand (none: L.length). -/
structure Wy (p : Pg) (L : List In) (Hs : List Int) (Sn : List Bool) (D : List Int) (i : Nat) : Prop where
  hl : Hs.length = L.length
  sl : Sn.length = L.length
  n1 : 1 ≤ L.length
  s0 : sn Sn 0
  h0 : hs Hs 0 = 0
  td : ∀ d ∈ D, ∃ t : Nat, d = t ∧ t < L.length ∧ sn Sn t
  bd : ∀ t, sn Sn t → ∃ h : Nat, hs Hs t = h ∧ h ≤ t
  gd : Gd p L → ∀ t, sn Sn t → hs Hs t = (hA L t : Nat)
  dn : ∀ t, sn Sn t → (t : Int) ∈ D ∨ t = i ∨ Dn p L Hs Sn t
theorem sn_lt {Sn : List Bool} {t : Nat} (h : sn Sn t) : t < Sn.length := by
  unfold sn at h
  by_cases q : t < Sn.length
  · exact q
  · rw [List.getElem?_eq_none (by omega)] at h; cases h
theorem sn_set {Sn : List Bool} {t u : Nat} (ht : t < Sn.length) : sn (Sn.set t true) u ↔ u = t ∨ sn Sn u := by
  unfold sn
  rw [List.getElem?_set]
  by_cases h : t = u
  · subst h; simp [ht]
  · rw [if_neg h]
    constructor
    · intro q; exact .inr q
    · rintro (q | q)
      · exact absurd q.symm h
      · exact q
theorem hs_same {Hs : List Int} {t : Nat} (x : Int) (ht : t < Hs.length) : hs (Hs.set t x) t = x := by
  unfold hs; simp [ht]
theorem hs_other {Hs : List Int} {t u : Nat} (x : Int) (h : t ≠ u) : hs (Hs.set t x) u = hs Hs u := by
  unfold hs; rw [List.getElem?_set, if_neg h]
theorem wy_start {p : Pg} {L : List In} (h : 1 ≤ L.length) : Wy p L (List.replicate L.length 0) ((List.replicate L.length false).set 0 true) [0] L.length := by
  have hr : ∀ t, ¬ sn (List.replicate L.length false) t := fun t q => by
    unfold sn at q
    rw [List.getElem?_replicate] at q
    split at q <;> cases q
  have hz : ∀ t, hs (List.replicate L.length 0) t = 0 := fun t => by
    unfold hs
    rw [List.getElem?_replicate]
    split <;> rfl
  have h1 : ∀ u, sn ((List.replicate L.length false).set 0 true) u → u = 0 := fun u q => by
    rcases (sn_set (by simp; omega)).1 q with e | e
    · exact e
    · exact absurd e (hr u)
  refine ⟨by simp, by simp, h, (sn_set (by simp; omega)).2 (.inl rfl), hz 0, ?_, ?_, ?_, ?_⟩
  · intro d hd
    simp at hd
    exact ⟨0, by simp [hd], by omega, (sn_set (by simp; omega)).2 (.inl rfl)⟩
  · intro t ht; rw [h1 t ht]; exact ⟨0, by rw [hz]; rfl, Nat.le_refl _⟩
  · intro _ t ht; rw [h1 t ht, hz]; rfl
  · intro t ht; rw [h1 t ht]; exact .inl (by simp)
theorem wy_pop {p : Pg} {L : List In} {Hs : List Int} {Sn : List Bool} {D : List Int} {d : Int} (h : Wy p L Hs Sn (D ++ [d]) L.length) : ∃ i : Nat, d = i ∧ i < L.length ∧ sn Sn i ∧ Wy p L Hs Sn D i := by
  obtain ⟨i, e, hi, hs⟩ := h.td d (by simp)
  refine ⟨i, e, hi, hs, h.hl, h.sl, h.n1, h.s0, h.h0, fun d hd => h.td d (by simp [hd]), h.bd, h.gd, fun t ht => ?_⟩
  rcases h.dn t ht with q | q | q
  · rw [List.mem_append, List.mem_singleton, e] at q
    rcases q with q | q
    · exact .inl q
    · exact .inr (.inl (by omega))
  · have := sn_lt ht; rw [h.sl] at this; omega
  · exact .inr (.inr q)
theorem dn_put {p : Pg} {L : List In} {Hs : List Int} {Sn : List Bool} {t u : Nat} {x : Int} (ht : t < Sn.length) (hn : ¬ sn Sn t) (hu : sn Sn u) (h : Dn p L Hs Sn u) : Dn p L (Hs.set t x) (Sn.set t true) u := by
  have ne : ∀ v, sn Sn v → t ≠ v := fun v hv e => hn (by rw [e]; exact hv)
  obtain ⟨hul, k, e1, e2, e3, e4⟩ := h
  refine ⟨hul, k, by rw [hs_other x (ne u hu)]; exact e1, e2, e3, fun h0 => ?_⟩
  obtain ⟨a1, a2, a3, a4⟩ := e4 h0
  refine ⟨a1, (sn_set ht).2 (.inr a2), by rw [hs_other x (ne _ a2)]; exact a3, fun hk => ?_⟩
  obtain ⟨b1, b2, b3⟩ := a4 hk
  exact ⟨b1, (sn_set ht).2 (.inr b2), by rw [hs_other x (ne _ b2)]; exact b3⟩
theorem wy_put {p : Pg} {L : List In} {Hs : List Int} {Sn : List Bool} {D : List Int} {i t h : Nat} (w : Wy p L Hs Sn D i) (ht : t < L.length) (hn : ¬ sn Sn t) (hle : h ≤ t) (hg : Gd p L → hA L t = h) : Wy p L (Hs.set t (h : Int)) (Sn.set t true) (D ++ [(t : Int)]) i := by
  have hts : t < Sn.length := by rw [w.sl]; exact ht
  have hth : t < Hs.length := by rw [w.hl]; exact ht
  have ne : ∀ v, sn Sn v → t ≠ v := fun v hv e => hn (by rw [e]; exact hv)
  refine ⟨by rw [List.length_set]; exact w.hl, by rw [List.length_set]; exact w.sl, w.n1, (sn_set hts).2 (.inr w.s0), by rw [hs_other _ (ne 0 w.s0)]; exact w.h0, ?_, ?_, ?_, ?_⟩
  · intro d hd
    rw [List.mem_append, List.mem_singleton] at hd
    rcases hd with hd | hd
    · obtain ⟨u, a, b, c⟩ := w.td d hd
      exact ⟨u, a, b, (sn_set hts).2 (.inr c)⟩
    · exact ⟨t, hd, ht, (sn_set hts).2 (.inl rfl)⟩
  · intro u hu
    rcases (sn_set hts).1 hu with rfl | q
    · exact ⟨h, hs_same _ hth, hle⟩
    · rw [hs_other _ (ne u q)]; exact w.bd u q
  · intro g u hu
    rcases (sn_set hts).1 hu with rfl | q
    · rw [hs_same _ hth, hg g]
    · rw [hs_other _ (ne u q)]; exact w.gd g u q
  · intro u hu
    rcases (sn_set hts).1 hu with rfl | q
    · exact .inl (by simp)
    · rcases w.dn u q with a | a | a
      · exact .inl (by simp [a])
      · exact .inr (.inl a)
      · exact .inr (.inr (dn_put hts hn q a))
theorem wy_done {p : Pg} {L : List In} {Hs : List Int} {Sn : List Bool} {D : List Int} {i : Nat} (w : Wy p L Hs Sn D i) (hd : Dn p L Hs Sn i) : Wy p L Hs Sn D L.length :=
  ⟨w.hl, w.sl, w.n1, w.s0, w.h0, w.td, w.bd, w.gd, fun t ht => by
    rcases w.dn t ht with a | a | a
    · exact .inl a
    · exact .inr (.inr (by rw [a]; exact hd))
    · exact .inr (.inr a)⟩
theorem wy_end {p : Pg} {L : List In} {Hs : List Int} {Sn : List Bool} (w : Wy p L Hs Sn [] L.length) : Gd p L ∧ Hs = hL L := by
  have dn : ∀ t, sn Sn t → Dn p L Hs Sn t := fun t ht => by
    rcases w.dn t ht with a | a | a
    · cases a
    · have := sn_lt ht; rw [w.sl] at this; omega
    · exact a
  have key : ∀ k, k < L.length → sn Sn k ∧ hs Hs k = (hA L k : Nat) := by
    intro k
    induction k with
    | zero => intro _; exact ⟨w.s0, w.h0⟩
    | succ k ih =>
      intro hk
      obtain ⟨a, b⟩ := ih (by omega)
      obtain ⟨hl, h, e1, e2, e3, e4⟩ := dn k a
      have h0 : L[k].op ≠ 0 := fun e => by have := e2.1 e; omega
      obtain ⟨q1, q2, q3, -⟩ := e4 h0
      rw [b] at e1
      have e1 : hA L k = h := by omega
      refine ⟨q2, ?_⟩
      rw [q3, hA_next hl, e1]
  have fin : ∀ k (hk : k < L.length), (L[k].op = 0 ↔ k = L.length - 1) ∧ (L[k].op = 0 → hA L k = 1) ∧ (L[k].op ≠ 0 → StpOk p L[k] (hA L k) ∧ ((L[k].op = 15 ∨ L[k].op = 16) → k + 1 + L[k].a < L.length ∧ hA L (k + 1 + L[k].a) = hA L (k + 1))) := by
    intro k hk
    obtain ⟨a, b⟩ := key k hk
    obtain ⟨hl, h, e1, e2, e3, e4⟩ := dn k a
    rw [b] at e1
    have e1 : hA L k = h := by omega
    subst e1
    refine ⟨e2, e3, fun h0 => ?_⟩
    obtain ⟨q1, q2, q3, q4⟩ := e4 h0
    refine ⟨q1, fun hsk => ?_⟩
    obtain ⟨r1, r2, r3⟩ := q4 hsk
    refine ⟨r1, ?_⟩
    have := (key _ r1).2
    rw [this] at r3
    rw [hA_next hl]
    omega
  have tk1 : ∀ x : In, x.op = 15 ∨ x.op = 16 → tkN x = 1 := fun x e => by
    unfold tkN
    rcases e with e | e
    · rw [if_neg (by rw [e]; decide), e]; rfl
    · rw [if_neg (by rw [e]; decide), e]; rfl
  refine ⟨⟨⟨w.n1, fun k hk => (fin k hk).1⟩, fun k hk => ?_, fun k hk => ?_, fun k hk hsk => ?_, ?_⟩, ?_⟩
  · by_cases h0 : L[k].op = 0
    · unfold OpOk
      rw [h0]
      exact ⟨fun e => absurd e (by decide), fun e => absurd e (by decide), fun e => absurd e (by decide), fun e => absurd e (by decide), fun e => absurd e (by decide), fun e => absurd e (by decide)⟩
    · obtain ⟨q1, q2⟩ := (fin k hk).2.2 h0
      exact ⟨q1.2.2.1, q1.2.2.2.1, q1.2.2.2.2.1, q1.2.2.2.2.2, fun e => by have := (q2 (.inl e)).1; omega, fun e => by have := (q2 (.inr e)).1; omega⟩
  · by_cases h0 : L[k].op = 0
    · have := (fin k hk).2.1 h0
      have e : tkN L[k] = 1 := by
        unfold tkN
        rw [if_neg (by rw [h0]; decide), h0]; rfl
      omega
    · exact ((fin k hk).2.2 h0).1.2.1
  · have h0 : L[k].op ≠ 0 := fun e => by rw [e] at hsk; rcases hsk with q | q <;> cases q
    obtain ⟨q1, q2⟩ := (fin k hk).2.2 h0
    rw [(q2 hsk).2, hA_next hk, tk1 _ hsk]
    have := q1.2.1
    rw [tk1 _ hsk] at this
    omega
  · have hk : L.length - 1 < L.length := by have := w.n1; omega
    exact (fin _ hk).2.1 ((fin _ hk).1.2 rfl)
  · apply List.ext_getElem
    · rw [w.hl, hL_len]
    · intro k h1 h2
      have hk : k < L.length := by rw [← w.hl]; exact h1
      have := (key k hk).2
      unfold hs at this
      rw [List.getElem?_eq_getElem h1] at this
      rw [hL_get]
      exact this
end Go.Proofs.YtiebmmpnmklpnaaDoor
namespace Go.Proofs.YtiebmmpnmklpnaaDoor
open Go.ChangeShapes Go.WideShapes Go.ChangeAt Go.RowKit

/-! The memory of the law's ways: heights at gH, seen at gS, the list of what is still to be done. -/
def bls (l : List Bool) : List Value := l.map Value.bool
theorem mkB_cells (n : Nat) : madeCells #[Value.bool false] n = (bls (List.replicate n false)).toArray := by
  apply Array.ext
  · rw [size_madeCells, List.size_toArray]; simp [bls]
  · intro i h1 h2
    simp [madeCells, bls, Nat.mod_one]
theorem Tryd.infoBV : (Tryd.prog.info? 4).map (fun i => (i.zero, i.size, i.bytes)) = some (some (.bool false), 1, 1) := by kernel_rfl
/-- How many haven't been seen. -/
def unO (o : Option Obj) : Nat := match o with | some (.cells cur _ _) => cur.toList.countP (fun v => match v with | .bool false => true | _ => false) | _ => 0
theorem unO_bls (Sn : List Bool) (t : TypeId) (x : Nat × Nat) : unO (some (.cells (bls Sn).toArray t x)) = Sn.countP (fun b => !b) := by
  unfold unO bls
  simp only [List.countP_map]
  congr 1
  funext b
  cases b <;> rfl
theorem un_set {Sn : List Bool} {t : Nat} (ht : t < Sn.length) (hn : ¬ sn Sn t) : (Sn.set t true).countP (fun b => !b) + 1 = Sn.countP (fun b => !b) := by
  have hf : Sn[t] = false := by
    unfold sn at hn
    rw [List.getElem?_eq_getElem ht] at hn
    simpa using hn
  induction Sn generalizing t with
  | nil => simp at ht
  | cons b r ih =>
    cases t with
    | zero =>
      simp at hf
      subst hf
      simp
    | succ t =>
      have h1 : t < r.length := by simpa using ht
      have h2 : ¬ sn r t := by unfold sn at hn ⊢; simpa using hn
      have h3 : r[t] = false := by simpa using hf
      have := ih h1 h2 h3
      rw [List.set_cons_succ, List.countP_cons, List.countP_cons]
      omega
structure WyM (w wr : World) (gH gS : Nat) (Hs : List Int) (Sn : List Bool) (v : Value) (D : List Int) : Prop where
  h : wr.heap[gH]? = some (.cells (is Hs).toArray 3 (0, 0))
  s : wr.heap[gS]? = some (.cells (bls Sn).toArray 4 (0, 0))
  d : LibI wr v D
  o : ∀ k, v.ownBlock = some k → k ≠ gH ∧ k ≠ gS ∧ w.heap.size ≤ k
  k : Kept (fun _ => False) w wr
theorem WyM.later {w wr wr' : World} {gH gS : Nat} {Hs : List Int} {Sn : List Bool} {v : Value} {D : List Int} (m : WyM w wr gH gS Hs Sn v D) (k : Kept (fun _ => False) wr wr') : WyM w wr' gH gS Hs Sn v D :=
  ⟨k.heap m.h (fun f => f), k.heap m.s (fun f => f), m.d.later k, m.o, m.k.trans k (fun _ f => f.elim)⟩
theorem WyM.hat {w wr : World} {gH gS : Nat} {Hs : List Int} {Sn : List Bool} {v : Value} {D : List Int} (m : WyM w wr gH gS Hs Sn v D) {t : Nat} (ht : t < Hs.length) : wr.cell? ⟨gH, t, none⟩ = some (.int .i64 (hs Hs t)) ∧ wr.frozen? ⟨gH, t, none⟩ = false := by
  refine ⟨?_, by simp [World.frozen?, m.h]⟩
  rw [cell_of_row _ gH t _ _ _ m.h]
  unfold hs
  rw [List.getElem?_eq_getElem ht]
  simp [is, ht]
theorem WyM.sat {w wr : World} {gH gS : Nat} {Hs : List Int} {Sn : List Bool} {v : Value} {D : List Int} (m : WyM w wr gH gS Hs Sn v D) {t : Nat} (ht : t < Sn.length) : wr.cell? ⟨gS, t, none⟩ = some (.bool (Sn[t]?.getD false)) ∧ wr.frozen? ⟨gS, t, none⟩ = false := by
  refine ⟨?_, by simp [World.frozen?, m.s]⟩
  rw [cell_of_row _ gS t _ _ _ m.s]
  rw [List.getElem?_eq_getElem ht]
  simp [bls, ht]
theorem WyM.setS {w wr : World} {gH gS : Nat} {Hs : List Int} {Sn : List Bool} {v : Value} {D : List Int} (m : WyM w wr gH gS Hs Sn v D) (hne : gH ≠ gS) (hw : w.heap.size ≤ gS) (t : Nat) : WyM w (wr.setCell ⟨gS, t, none⟩ (.bool true)) gH gS Hs (Sn.set t true) v D := by
  have K := Kept.setCell wr ⟨gS, t, none⟩ (.bool true)
  refine ⟨K.heap m.h (fun e => hne e), ?_, m.d.kept K (fun i hi e => (m.o i hi).2.1 e), m.o, m.k.trans K (fun i e => .inr (by simp only at e; omega))⟩
  rw [heap_setCell_same wr gS t _ _ _ m.s]
  simp [bls, List.map_set]
theorem WyM.setH {w wr : World} {gH gS : Nat} {Hs : List Int} {Sn : List Bool} {v : Value} {D : List Int} (m : WyM w wr gH gS Hs Sn v D) (hne : gH ≠ gS) (hw : w.heap.size ≤ gH) (t : Nat) (x : Int) : WyM w (wr.setCell ⟨gH, t, none⟩ (.int .i64 x)) gH gS (Hs.set t x) Sn v D := by
  have K := Kept.setCell wr ⟨gH, t, none⟩ (.int .i64 x)
  refine ⟨?_, K.heap m.s (fun e => hne e.symm), m.d.kept K (fun i hi e => (m.o i hi).1 e), m.o, m.k.trans K (fun i e => .inr (by simp only at e; omega))⟩
  rw [heap_setCell_same wr gH t _ _ _ m.h]
  simp [is, List.map_set]
theorem WyM.app {w wr wr' : World} {gH gS n : Nat} {Hs : List Int} {Sn : List Bool} {v v' : Value} {D E : List Int} (m : WyM w wr gH gS Hs Sn v D) (hH : gH < wr.heap.size) (hS : gS < wr.heap.size) (l : LibI wr' v' E) (st : LStepI wr wr' v v' n) : WyM w wr' gH gS Hs Sn v' E :=
  ⟨st.kept.heap m.h (fun e => (m.o _ e).1 rfl), st.kept.heap m.s (fun e => (m.o _ e).2.1 rfl), l, fun k hk => by
    rcases st.new k hk with e | e
    · exact m.o k e
    · have := m.k.size; exact ⟨by omega, by omega, by omega⟩, m.k.trans st.kept (fun i e => .inr (m.o i e).2.2)⟩
theorem LibI.cut {W : World} {b n c : Nat} {D : List Int} {x : Int} (h : LibI W (.slice (some ⟨b, 0, none⟩) n c) (D ++ [x])) : n = D.length + 1 ∧ LibI W (.slice (some ⟨b, 0, none⟩) D.length c) D ∧ W.cell? ⟨b, D.length, none⟩ = some (.int .i64 x) ∧ D.length + 1 ≤ c := by
  rcases h with ⟨e, _⟩ | ⟨b', c', cur, e, hh, h1, h2, h3⟩
  · cases e
  · simp only [Value.slice.injEq, Option.some.injEq, Addr.mk.injEq, and_true] at e
    obtain ⟨rfl, e2, rfl⟩ := e
    rw [List.length_append] at e2 h1 h3
    simp only [List.length_singleton] at e2 h1 h3
    refine ⟨e2, .inr ⟨b, c, cur, rfl, hh, by omega, h2, ?_⟩, ?_, h1⟩
    · have := congrArg (List.take D.length) h3
      rw [List.take_take, Nat.min_eq_left (by omega)] at this
      rw [this, isH_append, List.take_append_of_le_length (by rw [isH_length]; exact Nat.le_refl _), List.take_of_length_le (by rw [isH_length]; exact Nat.le_refl _)]
    · rw [cell_of_row _ b D.length _ _ _ hh]
      have h5 := congrArg (fun l => l[D.length]?) h3
      simp only [List.getElem?_take] at h5
      rw [if_pos (by omega), Array.getElem?_toList] at h5
      rw [h5, isH_append, List.getElem?_append_right (by rw [isH_length]; exact Nat.le_refl _), isH_length, Nat.sub_self]
      rfl
theorem lib_new (W : World) (x : Int) : LibI (W.alloc (.cells #[.int .i64 x] 3)) (.slice (some ⟨W.heap.size, 0, none⟩) 1 1) [x] :=
  .inr ⟨W.heap.size, 1, #[.int .i64 x], rfl, heap_alloc_new W _, Nat.le_refl _, Nat.le_refl _, rfl⟩
end Go.Proofs.YtiebmmpnmklpnaaDoor
