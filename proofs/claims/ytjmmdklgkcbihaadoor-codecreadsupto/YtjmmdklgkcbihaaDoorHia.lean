import Derived.Test.YtjmmdklgkcbihaaDoorHnd
import Derived.Laws.AppendOwnNone
import Derived.ArgAppend
namespace Go.Proofs.YtjmmdklgkcbihaaDoor
open Go.ChangeShapes Go.WideShapes Go.ChangeAt Go.RowKit

def isH (l : List Int) : List Value := l.map (Value.int .i64)
theorem isH_length (l : List Int) : (isH l).length = l.length := List.length_map ..
theorem isH_append (a b : List Int) : isH (a ++ b) = isH a ++ isH b := List.map_append
theorem isH_one (a : List Int) : ∀ u ∈ isH a, u.oneCell' = true := by
  intro u hu
  obtain ⟨x, _, rfl⟩ := List.mem_map.1 hu
  rfl
theorem Tryd.infoIH : (Tryd.prog.info? 3).map (fun i => (i.zero, i.size, i.bytes)) = some (some (.int .i64 0), 1, 8) := by kernel_rfl

/-- A list of bytes at the beginning of a block, with its room. -/
def LibI (W : World) (v : Value) (l : List Int) : Prop :=
  (v = .slice none 0 0 ∧ l = []) ∨ ∃ b c cur, v = .slice (some ⟨b, 0, none⟩) l.length c ∧ W.heap[b]? = some (.cells cur 3 (0, 0)) ∧ l.length ≤ c ∧ c ≤ cur.size ∧ cur.toList.take l.length = isH l
theorem LibI.shape {W : World} {v : Value} {l : List Int} (h : LibI W v l) : ∃ a c, v = .slice a l.length c ∧ (a = none → l = [] ∧ c = 0) ∧ l.length ≤ c := by
  rcases h with ⟨rfl, rfl⟩ | ⟨b, c, cur, rfl, _, h, _⟩
  · exact ⟨none, 0, rfl, fun _ => ⟨rfl, rfl⟩, Nat.le_refl _⟩
  · exact ⟨_, c, rfl, fun e => (by cases e), h⟩
theorem LibI.lt {W : World} {v : Value} {l : List Int} (h : LibI W v l) {k : Nat} (e : v.ownBlock = some k) : k < W.heap.size := by
  rcases h with ⟨rfl, rfl⟩ | ⟨b, c, cur, rfl, hb, _⟩
  · cases e
  · have : b = k := Option.some.inj e
    rw [← this]
    exact lt_of_block hb
theorem LibI.kept {F : Nat → Prop} {W W' : World} {v : Value} {l : List Int} (h : LibI W v l) (k : Kept F W W') (hF : ∀ i, v.ownBlock = some i → ¬ F i) : LibI W' v l := by
  rcases h with ⟨rfl, rfl⟩ | ⟨b, c, cur, rfl, hb, r⟩
  · exact .inl ⟨rfl, rfl⟩
  · exact .inr ⟨b, c, cur, rfl, k.heap hb (hF b rfl), r⟩
theorem LibI.later {W W' : World} {v : Value} {l : List Int} (h : LibI W v l) (k : Kept (fun _ => False) W W') : LibI W' v l := h.kept k (fun _ _ f => f)
theorem LibI.of_own {W : World} {base n : Nat} {v : Value} {l : List Int} (h : W.ownsRow base 3 1 v n (isH l)) : LibI W v l := by
  have hn : n = l.length := by have := h.1; rw [isH_length] at this; omega
  rcases h.2 with ⟨rfl, e⟩ | ⟨g, cap, cur, rfl, _, hh, h1, h2, h3, h4⟩
  · exact .inl ⟨rfl, List.eq_nil_of_length_eq_zero (by omega)⟩
  · subst hn
    rw [Nat.mul_one] at h3 h4
    exact .inr ⟨g, cap, cur, rfl, hh, h1, by omega, h4⟩
theorem LibI.cells {W : World} {v : Value} {l : List Int} (h : LibI W v l) {j : Nat} (hj : j < l.length) : ∃ b c, v = .slice (some ⟨b, 0, none⟩) l.length c ∧ W.cell? ⟨b, j, none⟩ = some (.int .i64 (l[j]?.getD 0)) ∧ W.frozen? ⟨b, j, none⟩ = false := by
  rcases h with ⟨rfl, rfl⟩ | ⟨b, c, cur, rfl, hb, h1, h2, h3⟩
  · simp at hj
  · refine ⟨b, c, rfl, ?_, by simp [World.frozen?, hb]⟩
    rw [cell_of_row _ _ j _ _ _ hb]
    have h5 : (cur.toList.take l.length)[j]? = (isH l)[j]? := by rw [h3]
    rw [List.getElem?_take, if_pos hj, Array.getElem?_toList] at h5
    rw [h5]
    simp [isH, List.getElem?_eq_getElem hj]
theorem LibI.set {W : World} {v : Value} {l : List Int} (h : LibI W v l) {b j : Nat} (hb : v.ownBlock = some b) (hj : j < l.length) (x : Int) : LibI (W.setCell ⟨b, j, none⟩ (.int .i64 x)) v (l.set j x) := by
  rcases h with ⟨rfl, rfl⟩ | ⟨b', c, cur, rfl, hh, h1, h2, h3⟩
  · simp at hj
  · have e : b' = b := Option.some.inj hb
    subst e
    refine .inr ⟨b', c, _, by rw [List.length_set], heap_setCell_same W b' j cur _ (.int .i64 x) hh, by rw [List.length_set]; exact h1, by simpa using h2, ?_⟩
    rw [Array.toList_setIfInBounds, List.length_set, List.take_set, h3]
    simp [isH, List.map_set]
/-- What an append leaves: the block is the elder one or a new one, and the beginning of the elder one stays. -/
structure LStepI (W W' : World) (v v' : Value) (n : Nat) : Prop where
  kept : Kept (fun k => v.ownBlock = some k) W W'
  new : ∀ k, v'.ownBlock = some k → v.ownBlock = some k ∨ W.heap.size ≤ k
  pre : ∀ v0 l0, (v0.ownBlock = v.ownBlock → l0.length ≤ n) → LibI W v0 l0 → LibI W' v0 l0
/-- 'append(s, x...)' of bytes, wherever s lies. -/
theorem wpList_libI {W : World} {ops : Array Oper} {rest : List Oper} {o : Oper} {act : Act} {Q : Exit → Act → World → Prop} (hgd : o.guard = none) (s x : Operand)
    (ho : o.op = .call { callee := .builtin .append, args := #[s, x], argTypes := #[35, 35] }) (v : Value) (l ys : List Int) (hs : act.eval s = v) (hG : Hid (LibI W v l)) (xb m c : Nat) (hx : act.eval x = .slice (some ⟨xb, 0, none⟩) m c) (hm : Hid (m = ys.length)) (hc : Hid (∀ j u, (isH ys)[j]? = some u → W.cell? ((⟨xb, 0, none⟩ : Addr).add j) = some u)) (n : Nat) (hn : Hid (n = l.length)) (hm0 : 0 < m) (hb : n + m ≤ 8796093022208)
    (h : ∀ a' c' W', Hid (LibI W' (.slice a' (n + m) c') (l ++ ys)) → Hid (LStepI W W' v (.slice a' (n + m) c') n) → wpList Tryd.prog ops Q rest (act.put o.dst (.slice a' (n + m) c')) W') : wpList Tryd.prog ops Q (o :: rest) act W := by
  obtain ⟨i0, hi, hz0, hz1, hz2⟩ := info_parts Tryd.infoIH
  have hm' := hm.out
  have hn' := hn.out
  subst hm' hn'
  have grow : ∀ (ao : Option Addr) (cap : Nat), v = .slice ao l.length cap → (ao = none → l.length = 0 ∧ cap = 0) → (∀ b, ao = some b → ∀ j u, (isH l)[j]? = some u → W.cell? (b.add j) = some u) → cap < l.length + ys.length → wpList Tryd.prog ops Q (o :: rest) act W := by
    intro ao cap e h0 hcl hlt
    refine wpList_append_grows W hgd s x 35 ho 3 i0 (.int .i64 0) 1 8 Tryd.underlying35 hi hz0 hz1 hz2 rfl (by decide) ao l.length cap (isH l) (hs.trans e) h0 (by rw [isH_length]; omega) hcl ⟨xb, 0, none⟩ ys.length c (isH ys) hx (by rw [isH_length]; omega) hc.out (isH_one ys) hlt (by unfold maxLen; omega) (by omega) ?_
    intro v' w' ho' hg'
    rw [← isH_append] at ho'
    have hk : Kept (fun _ => False) W w' := (Kept.grown hg').mono (fun _ e => by cases e)
    obtain ⟨a', c', rfl⟩ := row_shapeH ho'
    refine h a' c' w' (hideH (LibI.of_own ho')) (hideH ⟨hk.mono (fun _ f => f.elim), fun k hk => .inr (ho'.lt k hk).1, fun v0 l0 _ h0 => h0.later hk⟩)
  rcases hG.out with ⟨rfl, rfl⟩ | ⟨b, cap, cur, rfl, hh, h1, h2, h3⟩
  · exact grow none 0 rfl (fun _ => ⟨rfl, rfl⟩) (fun b e => by cases e) (by simp; omega)
  · have hcl : ∀ j u, (isH l)[j]? = some u → W.cell? ⟨b, 0 + j, none⟩ = some u := by
      intro j u hu
      rw [← h3, List.getElem?_take] at hu
      split at hu
      · rw [Nat.zero_add, cell_of_row _ _ j _ _ _ hh]
        simpa using hu
      · cases hu
    refine wpList_append_arg W hgd s x 35 ho 3 i0 (.int .i64 0) 1 8 Tryd.underlying35 hi hz0 hz1 hz2 rfl (by decide) b 0 l.length cap (isH l) hs (by rw [isH_length]; omega) hcl ⟨xb, 0, none⟩ ys.length c (isH ys) hx (by rw [isH_length]; omega) hc.out (isH_one ys) ?_ (by unfold maxLen; omega) (by omega) ?_ ?_
    · intro hr j hj
      rw [isH_length] at hj
      have hlt : 0 + l.length * 1 + j < cur.size := by omega
      refine ⟨?_, by simp [World.frozen?, hh]⟩
      rw [cell_of_row _ _ _ _ _ _ hh, Array.getElem?_eq_getElem hlt]
      rfl
    · intro hr
      obtain ⟨cur', q1, q2, q3, q4⟩ := setCells_block (b := b) (t := 3) (isH ys) (0 + l.length * 1) W cur hh (by rw [isH_length]; omega)
      have e0 : 0 + l.length * 1 = l.length := by omega
      rw [e0] at q1 q3 q4 ⊢
      refine h _ cap _ (hideH (.inr ⟨b, cap, cur', by rw [List.length_append], q1, by rw [List.length_append]; exact hr, by omega, ?_⟩)) (hideH ⟨(setCells_kept _ _ _).mono (fun i e => .inl (by rw [e]; rfl)), fun k hk => .inl hk, fun v0 l0 hv h0 => ?_⟩)
      · rw [isH_length] at q4
        rw [List.length_append, q4, h3, isH_append]
      · by_cases hv0 : v0.ownBlock = some b
        · have hle := hv hv0
          rcases h0 with ⟨rfl, rfl⟩ | ⟨b', c0, cur0, rfl, hh0, r1, r2, r3⟩
          · exact .inl ⟨rfl, rfl⟩
          · have e : b' = b := Option.some.inj hv0
            subst e
            rw [hh] at hh0
            injection hh0 with hh0
            injection hh0 with hh0
            subst hh0
            refine .inr ⟨b', c0, cur', rfl, q1, r1, by omega, ?_⟩
            have e2 := congrArg (List.take l0.length) q3
            rw [List.take_take, List.take_take, Nat.min_eq_left hle] at e2
            rw [e2, r3]
        · exact h0.kept (setCells_kept _ _ _) (fun i e f => hv0 (by rw [e, f]))
    · intro hr v' w' ho' hg'
      rw [← isH_append] at ho'
      have hk : Kept (fun _ => False) W w' := (Kept.grown hg').mono (fun _ e => by cases e)
      obtain ⟨a', c', rfl⟩ := row_shapeH ho'
      exact h a' c' w' (hideH (LibI.of_own ho')) (hideH ⟨hk.mono (fun _ f => f.elim), fun k hk => .inr (ho'.lt k hk).1, fun v0 l0 _ h0 => h0.later hk⟩)
end Go.Proofs.YtjmmdklgkcbihaaDoor
