import Derived.Test.YtjmmdklgkcbihaaDoorKwj
import Derived.Test.YtjmmdklgkcbihaaDoorHnk
import Derived.Test.YtjmmdklgkcbihaaDoorMrg3
import Derived.Test.YtjmmdklgkcbihaaDoorMrg1
namespace Go.Proofs.YtjmmdklgkcbihaaDoor
open Go.ChangeShapes Go.WideShapes Go.ChangeAt Go.RowKit

/-- 'append(s, x...)' to an owned row of bytes, x empty or not: the block is the elder one or a new one. -/
theorem wpList_catN {base : Nat} {W : World} {ops : Array Oper} {rest : List Oper} {o : Oper} {act : Act} {Q : Exit → Act → World → Prop} (hgd : o.guard = none) (s x : Operand)
    (ho : o.op = .call { callee := .builtin .append, args := #[s, x], argTypes := #[26, 26] }) (v : Value) (n : Nat) (xs ys : List Int) (hs : act.eval s = v) (hG : Hid (W.ownsRow base 5 1 v n (bs xs))) (ad : Option Addr) (m c : Nat) (hx : act.eval x = .slice ad m c)
    (hl : Hid (m = ys.length)) (hc : Hid (BytesAt W ad ys)) (h0 : Hid (ad = none → c = 0)) (hb : n + m ≤ 70368744177664) (hb0 : Hid (base ≤ W.heap.size))
    (h : ∀ a' c' W', Hid (W'.ownsRow base 5 1 (.slice a' (n + m) c') (n + m) (bs (xs ++ ys))) → Hid (Kept (fun k => v.ownBlock = some k) W W') → Hid (∀ k, (Value.slice a' (n + m) c').ownBlock = some k → v.ownBlock = some k ∨ W.heap.size ≤ k) → wpList Tryd.prog ops Q rest (act.put o.dst (.slice a' (n + m) c')) W') : wpList Tryd.prog ops Q (o :: rest) act W := by
  obtain ⟨i0, hi, hz0, hz1, hz2⟩ := info_parts Tryd.infoB
  cases ad with
  | none =>
    have e0 : ys = [] := by
      cases ys with
      | nil => rfl
      | cons y r => obtain ⟨b, off, e, _⟩ := hc.out (by simp); cases e
    subst e0
    have hm : m = 0 := hl.out
    subst hm
    obtain rfl := h0.out rfl
    obtain ⟨a', c', rfl⟩ := row_shapeH hG.out
    refine wpList_append_own_none hgd s x 26 ho base 5 i0 1 Tryd.underlying26 hi _ n (bs xs) hs hG.out hx ?_
    have := h a' c' W (hideH (by rw [List.append_nil]; exact hG.out)) (hideH (Kept.refl _ _)) (hideH (fun k e => .inl e))
    exact this
  | some p =>
    have hcl : ∀ j u, (bs ys)[j]? = some u → W.cell? (p.add j) = some u := by
      intro j u hu
      have hne : ys ≠ [] := by rintro rfl; simp [bs] at hu
      obtain ⟨b, off, e, hcc⟩ := hc.out hne
      cases e
      exact BytesAt.cells hcc j u hu
    refine wpList_append_own_at W hgd s x 26 ho base 5 i0 (.int .u8 0) 1 1 Tryd.underlying26 hi hz0 hz1 hz2 rfl (by decide) v n (bs xs) hs hG.out p m c (bs ys) hx (by rw [bs_length, hl.out, Nat.mul_one]) hcl (bs_one ys) (by unfold maxLen; omega) (by omega) hb0.out ?_
    intro v' w1 ho1 hg1 _ hat
    rw [← bs_append] at ho1
    obtain ⟨a', c', rfl⟩ := row_shapeH ho1
    refine h a' c' w1 (hideH ho1) (hideH (Kept.grown hg1)) (hideH (fun k e => ?_))
    rcases hat with q | q
    · exact .inl (by rw [← q]; exact e)
    · rw [q] at e
      have e2 := Option.some.inj e
      exact .inr (by omega)
/-- A function changed at one place. -/
def upK {α : Type} (f : Nat → α) (i : Nat) (a : α) : Nat → α := fun j => if j = i then a else f j
theorem upK_at {α : Type} (f : Nat → α) (i : Nat) (a : α) : upK f i a i = a := if_pos rfl
theorem upK_ne {α : Type} (f : Nat → α) {i j : Nat} (a : α) (h : j ≠ i) : upK f i a j = f j := if_neg h
/-- What the law holds: the Writers (0, 1), the list of two lists (2), these (3, 4), the book (5), the lists that are kept (6), their texts (7), what is elder than the law (9), the book's lists (10 and more): who owns a block is told by o. Only those whose number is told by P are sure. -/
structure Ws (P : Nat → Prop) (w W : World) (o : Nat → Nat) (bW : Nat → Nat) (vW : Nat → Value) (XW : Nat → List Int) (gh : Nat) (vh : Nat → Value) (XH : Nat → List Int) (kb : Nat) (vB vK vT : Value) (V VK : List Value) (Ls LT : List (List Int)) : Prop where
  wr : ∀ i, i < 2 → P i → Wr W (bW i) (vW i) (XW i)
  ow : ∀ i, i < 2 → P i → ∀ k, WF (bW i) (vW i) k → o k = i
  hh : P 2 → W.heap[gh]? = some (.cells #[vh 0, vh 1] 26 (0, 0))
  oh : P 2 → o gh = 2
  hl : ∀ i, i < 2 → P (3 + i) → W.ownsRow 0 5 1 (vh i) (XH i).length (bs (XH i))
  ol : ∀ i, i < 2 → P (3 + i) → ∀ k, (vh i).ownBlock = some k → o k = 3 + i
  bk : P 5 → Bok 0 W kb vB V
  ok : P 5 → o kb = 5
  oB : P 5 → ∀ k, vB.ownBlock = some k → o k = 5
  kr : P 6 → W.ownsRow 0 26 1 vK VK.length VK
  oK : P 6 → ∀ k, vK.ownBlock = some k → o k = 6
  tr : P 7 → W.ownsRow 0 9 1 vT LT.length (LT.map (fun l => Value.string (strOfNums l)))
  oT : P 7 → ∀ k, vT.ownBlock = some k → o k = 7
  ls : ∀ t (h : t < V.length), P (10 + t) → Lib W V[t] (Ls[t]?.getD [])
  os : ∀ t (h : t < V.length), P (10 + t) → ∀ k, V[t].ownBlock = some k → o k = 10 + t
  lo : ∀ k, k < w.heap.size → o k = 9
  p9 : P 9
  kp : Kept (fun _ => False) w W
abbrev AllK : Nat → Prop := fun _ => True
theorem Ws.step {P P' : Nat → Prop} {w W : World} {o : Nat → Nat} {bW : Nat → Nat} {vW : Nat → Value} {XW : Nat → List Int} {gh : Nat} {vh : Nat → Value} {XH : Nat → List Int} {kb : Nat} {vB vK vT : Value} {V VK : List Value} {Ls LT : List (List Int)} {W' : World} {F : Nat → Prop} (h : Ws P w W o bW vW XW gh vh XH kb vB vK vT V VK Ls LT) (k : Kept F W W') (o' : Nat → Nat) (hP : ∀ c, P' c → P c) (h9 : P' 9) (hF : ∀ q, F q → q < W.heap.size → ¬ P' (o q)) (key : ∀ q, q < W.heap.size → o' q = o q) : Ws P' w W' o' bW vW XW gh vh XH kb vB vK vT V VK Ls LT := by
  have kl : P' 5 → kb < W.heap.size := fun p => lt_of_block (h.bk (hP _ p)).obj
  have gl : P' 2 → gh < W.heap.size := fun p => lt_of_block (h.hh (hP _ p))
  have no : ∀ {c q : Nat}, P' c → o q = c → q < W.heap.size → ¬ F q := fun p e l f => hF _ f l (by rw [e]; exact p)
  exact { wr := fun i hi p => (h.wr i hi (hP _ p)).kept k (fun j hj => no p (h.ow i hi (hP _ p) j hj) ((h.wr i hi (hP _ p)).wf_lt hj))
          ow := fun i hi p j hj => (key j ((h.wr i hi (hP _ p)).wf_lt hj)).trans (h.ow i hi (hP _ p) j hj)
          hh := fun p => k.heap (h.hh (hP _ p)) (no p (h.oh (hP _ p)) (gl p))
          oh := fun p => (key gh (gl p)).trans (h.oh (hP _ p))
          hl := fun i hi p => k.row (h.hl i hi (hP _ p)) (fun j hj => no p (h.ol i hi (hP _ p) j hj) ((h.hl i hi (hP _ p)).lt j hj).2)
          ol := fun i hi p j hj => (key j ((h.hl i hi (hP _ p)).lt j hj).2).trans (h.ol i hi (hP _ p) j hj)
          bk := fun p => (h.bk (hP _ p)).kept k (no p (h.ok (hP _ p)) (kl p)) (fun j hj => no p (h.oB (hP _ p) j hj) ((h.bk (hP _ p)).row.lt j hj).2)
          ok := fun p => (key kb (kl p)).trans (h.ok (hP _ p))
          oB := fun p j hj => (key j ((h.bk (hP _ p)).row.lt j hj).2).trans (h.oB (hP _ p) j hj)
          kr := fun p => k.row (h.kr (hP _ p)) (fun j hj => no p (h.oK (hP _ p) j hj) ((h.kr (hP _ p)).lt j hj).2)
          oK := fun p j hj => (key j ((h.kr (hP _ p)).lt j hj).2).trans (h.oK (hP _ p) j hj)
          tr := fun p => k.row (h.tr (hP _ p)) (fun j hj => no p (h.oT (hP _ p) j hj) ((h.tr (hP _ p)).lt j hj).2)
          oT := fun p j hj => (key j ((h.tr (hP _ p)).lt j hj).2).trans (h.oT (hP _ p) j hj)
          ls := fun t ht p => (h.ls t ht (hP _ p)).kept k (fun j hj => no p (h.os t ht (hP _ p) j hj) ((h.ls t ht (hP _ p)).lt hj))
          os := fun t ht p j hj => (key j ((h.ls t ht (hP _ p)).lt hj)).trans (h.os t ht (hP _ p) j hj)
          lo := fun q hq => (key q (Nat.lt_of_lt_of_le hq h.kp.size)).trans (h.lo q hq)
          p9 := h9
          kp := h.kp.trans k (fun q f => .inr (by
            apply Classical.byContradiction
            intro c
            have q1 : q < w.heap.size := by omega
            exact hF q f (Nat.lt_of_lt_of_le q1 h.kp.size) (by rw [h.lo q q1]; exact h9))) }
theorem Ws.later {P : Nat → Prop} {w W : World} {o : Nat → Nat} {bW : Nat → Nat} {vW : Nat → Value} {XW : Nat → List Int} {gh : Nat} {vh : Nat → Value} {XH : Nat → List Int} {kb : Nat} {vB vK vT : Value} {V VK : List Value} {Ls LT : List (List Int)} {W' : World} (h : Ws P w W o bW vW XW gh vh XH kb vB vK vT V VK Ls LT) (k : Kept (fun _ => False) W W') : Ws P w W' o bW vW XW gh vh XH kb vB vK vT V VK Ls LT := h.step k o (fun _ p => p) h.p9 (fun _ f => f.elim) (fun _ _ => rfl)
/-- The blocks from a number on get a code. -/
def newK (n c : Nat) (o : Nat → Nat) : Nat → Nat := fun q => if n ≤ q then c else o q
theorem newK_old {n c : Nat} {o : Nat → Nat} {q : Nat} (h : q < n) : newK n c o q = o q := if_neg (by omega)
theorem newK_new {n c : Nat} {o : Nat → Nat} {q : Nat} (h : n ≤ q) : newK n c o q = c := if_pos h
theorem Ws.fresh {P : Nat → Prop} {w W : World} {o : Nat → Nat} {bW : Nat → Nat} {vW : Nat → Value} {XW : Nat → List Int} {gh : Nat} {vh : Nat → Value} {XH : Nat → List Int} {kb : Nat} {vB vK vT : Value} {V VK : List Value} {Ls LT : List (List Int)} {W' : World} (h : Ws P w W o bW vW XW gh vh XH kb vB vK vT V VK Ls LT) (k : Kept (fun _ => False) W W') (c : Nat) : Ws P w W' (newK W.heap.size c o) bW vW XW gh vh XH kb vB vK vT V VK Ls LT := h.step k _ (fun _ p => p) h.p9 (fun _ f => f.elim) (fun _ hq => newK_old hq)
theorem Ws.old {P : Nat → Prop} {w W : World} {o : Nat → Nat} {bW : Nat → Nat} {vW : Nat → Value} {XW : Nat → List Int} {gh : Nat} {vh : Nat → Value} {XH : Nat → List Int} {kb : Nat} {vB vK vT : Value} {V VK : List Value} {Ls LT : List (List Int)} (h : Ws P w W o bW vW XW gh vh XH kb vB vK vT V VK Ls LT) {k : Nat} (hk : o k ≠ 9) : w.heap.size ≤ k := by
  apply Classical.byContradiction
  intro q
  exact hk (h.lo k (by omega))
/-- A Writer has written. -/
theorem Ws.write {w W : World} {o : Nat → Nat} {bW : Nat → Nat} {vW : Nat → Value} {XW : Nat → List Int} {gh : Nat} {vh : Nat → Value} {XH : Nat → List Int} {kb : Nat} {vB vK vT : Value} {V VK : List Value} {Ls LT : List (List Int)} {W' : World} (i : Nat) (hi : i < 2) {v' : Value} {X' : List Int} (h : Ws AllK w W o bW vW XW gh vh XH kb vB vK vT V VK Ls LT) (st : WStep W W' (bW i) (vW i) v') (hw : Wr W' (bW i) v' X') :
    ∃ o', Ws AllK w W' o' bW (upK vW i v') (upK XW i X') gh vh XH kb vB vK vT V VK Ls LT ∧ (∀ q, q < W.heap.size → o' q = o q) ∧ ∀ q, W.heap.size ≤ q → ¬ WF (bW i) v' q → o' q = 8 := by
  refine ⟨fun q => if W.heap.size ≤ q then (if v'.ownBlock = some q then i else 8) else o q, ?_, fun q hq => if_neg (by omega), fun q hq hn => ?_⟩
  · have key : ∀ q, q < W.heap.size → (if W.heap.size ≤ q then (if v'.ownBlock = some q then i else 8) else o q) = o q := fun q hq => if_neg (by omega)
    have s := h.step (P' := fun c => c ≠ i) st.kept (fun q => if W.heap.size ≤ q then (if v'.ownBlock = some q then i else 8) else o q) (fun _ _ => trivial) (by omega) (fun q f _ p => p (h.ow i hi trivial q f)) key
    refine { wr := fun j hj _ => ?_, ow := fun j hj _ k hk => ?_, hh := fun _ => s.hh (by omega), oh := fun _ => s.oh (by omega), hl := fun j hj _ => s.hl j hj (by omega), ol := fun j hj _ => s.ol j hj (by omega), bk := fun _ => s.bk (by omega), ok := fun _ => s.ok (by omega), oB := fun _ => s.oB (by omega), kr := fun _ => s.kr (by omega), oK := fun _ => s.oK (by omega), tr := fun _ => s.tr (by omega), oT := fun _ => s.oT (by omega), ls := fun t ht _ => s.ls t ht (by omega), os := fun t ht _ => s.os t ht (by omega), lo := s.lo, p9 := trivial, kp := s.kp }
    · by_cases e : j = i
      · subst e
        rw [upK_at, upK_at]
        exact hw
      · rw [upK_ne _ _ e, upK_ne _ _ e]
        exact s.wr j hj e
    · by_cases e : j = i
      · subst e
        rw [upK_at] at hk
        rcases hk with rfl | hk
        · exact (key _ (h.wr j hj trivial).lt).trans (h.ow j hj trivial _ (.inl rfl))
        · by_cases c : W.heap.size ≤ k
          · show (if W.heap.size ≤ k then (if v'.ownBlock = some k then j else 8) else o k) = j
            rw [if_pos c, if_pos hk]
          · rcases st.new k hk with q | q
            · exact (key _ (by omega)).trans (h.ow j hj trivial _ (.inr q))
            · omega
      · rw [upK_ne _ _ e] at hk
        exact s.ow j hj e k hk
  · show (if W.heap.size ≤ q then (if v'.ownBlock = some q then i else 8) else o q) = 8
    rw [if_pos hq, if_neg (fun e => hn (.inr e))]
/-- One of the two lists is another one. -/
theorem Ws.hold {w W : World} {o : Nat → Nat} {bW : Nat → Nat} {vW : Nat → Value} {XW : Nat → List Int} {gh : Nat} {vh : Nat → Value} {XH : Nat → List Int} {kb : Nat} {vB vK vT : Value} {V VK : List Value} {Ls LT : List (List Int)} {W' : World} (i : Nat) (hi : i < 2) {v' : Value} {X' : List Int} (h : Ws AllK w W o bW vW XW gh vh XH kb vB vK vT V VK Ls LT) (k : Kept (fun q => (vh i).ownBlock = some q) W W') (nw : ∀ q, v'.ownBlock = some q → (vh i).ownBlock = some q ∨ W.heap.size ≤ q) (hr : W'.ownsRow 0 5 1 v' X'.length (bs X')) :
    Ws AllK w (W'.setCell ⟨gh, i, none⟩ v') (newK W.heap.size (3 + i) o) bW vW XW gh (upK vh i v') (upK XH i X') kb vB vK vT V VK Ls LT := by
  have s := h.step (P' := fun c => c ≠ 3 + i) k (newK W.heap.size (3 + i) o) (fun _ _ => trivial) (by omega) (fun q f _ p => p (h.ol i hi trivial q f)) (fun q hq => newK_old hq)
  have ow' : ∀ q, v'.ownBlock = some q → newK W.heap.size (3 + i) o q = 3 + i := fun q e => by
    by_cases c : W.heap.size ≤ q
    · exact newK_new c
    · rw [newK_old (by omega)]
      rcases nw q e with d | d
      · exact h.ol i hi trivial q d
      · omega
  have ks := Kept.setCell W' ⟨gh, i, none⟩ v'
  have s2 := s.step (P' := fun c => c ≠ 3 + i ∧ c ≠ 2) ks (newK W.heap.size (3 + i) o) (fun _ p => p.1) (by omega) (fun q f _ p => p.2 (by have f2 : q = gh := f; rw [f2]; exact s.oh (by omega))) (fun _ _ => rfl)
  refine { wr := fun j hj _ => s2.wr j hj (by omega), ow := fun j hj _ => s2.ow j hj (by omega), hh := fun _ => ?_, oh := fun _ => s.oh (by omega), hl := fun j hj _ => ?_, ol := fun j hj _ q hq => ?_, bk := fun _ => s2.bk (by omega), ok := fun _ => s2.ok (by omega), oB := fun _ => s2.oB (by omega), kr := fun _ => s2.kr (by omega), oK := fun _ => s2.oK (by omega), tr := fun _ => s2.tr (by omega), oT := fun _ => s2.oT (by omega), ls := fun t ht _ => s2.ls t ht (by omega), os := fun t ht _ => s2.os t ht (by omega), lo := s2.lo, p9 := trivial, kp := s2.kp }
  · have q := heap_setCell_same W' gh i _ _ v' (s.hh (by omega))
    rw [q]
    rcases (show i = 0 ∨ i = 1 by omega) with rfl | rfl
    · rfl
    · rfl
  · by_cases e : j = i
    · subst e
      rw [upK_at, upK_at]
      refine ks.row hr (fun q hq f => ?_)
      have f2 : q = gh := f
      have h1 := ow' q hq
      have h2 := s.oh (by omega)
      rw [f2, h2] at h1
      omega
    · rw [upK_ne _ _ e, upK_ne _ _ e]
      exact s2.hl j hj (by omega)
  · by_cases e : j = i
    · subst e
      rw [upK_at] at hq
      exact ow' q hq
    · rw [upK_ne _ _ e] at hq
      exact s2.ol j hj (by omega) q hq
/-- The row of the book, of the kept lists, of their texts grows. -/
theorem new_code {W : World} {o : Nat → Nat} {c : Nat} {v v' : Value} (ho : ∀ k, v.ownBlock = some k → o k = c) (nw : ∀ k, v'.ownBlock = some k → v.ownBlock = some k ∨ W.heap.size ≤ k) : ∀ k, v'.ownBlock = some k → newK W.heap.size c o k = c := fun k e => by
  by_cases q : W.heap.size ≤ k
  · exact newK_new q
  · rw [newK_old (by omega)]
    rcases nw k e with d | d
    · exact ho k d
    · omega
theorem Ws.book {w W : World} {o : Nat → Nat} {bW : Nat → Nat} {vW : Nat → Value} {XW : Nat → List Int} {gh : Nat} {vh : Nat → Value} {XH : Nat → List Int} {kb : Nat} {vB vK vT : Value} {V VK : List Value} {Ls LT : List (List Int)} {W' : World} {vB' b : Value} {l : List Int} (h : Ws AllK w W o bW vW XW gh vh XH kb vB vK vT V VK Ls LT) (k : Kept (fun q => q = kb ∨ vB.ownBlock = some q) W W') (hb : Bok 0 W' kb vB' (V ++ [b])) (nw : ∀ q, vB'.ownBlock = some q → vB.ownBlock = some q ∨ W.heap.size ≤ q) (hl : Lib W b l) (ho : ∀ q, b.ownBlock = some q → o q = 10 + V.length) (hn : Ls.length = V.length) :
    Ws AllK w W' (newK W.heap.size 5 o) bW vW XW gh vh XH kb vB' vK vT (V ++ [b]) VK (Ls ++ [l]) LT := by
  have s := h.step (P' := fun c => c ≠ 5) k (newK W.heap.size 5 o) (fun _ _ => trivial) (by omega) (fun q f _ p => p (f.elim (fun e => by rw [e]; exact h.ok trivial) (fun e => h.oB trivial q e))) (fun q hq => newK_old hq)
  have kl : kb < W.heap.size := lt_of_block (h.bk trivial).obj
  refine { wr := fun j hj _ => s.wr j hj (by omega), ow := fun j hj _ => s.ow j hj (by omega), hh := fun _ => s.hh (by omega), oh := fun _ => s.oh (by omega), hl := fun j hj _ => s.hl j hj (by omega), ol := fun j hj _ => s.ol j hj (by omega), bk := fun _ => hb, ok := fun _ => (newK_old kl).trans (h.ok trivial), oB := fun _ => new_code (h.oB trivial) nw, kr := fun _ => s.kr (by omega), oK := fun _ => s.oK (by omega), tr := fun _ => s.tr (by omega), oT := fun _ => s.oT (by omega), ls := fun t ht _ => ?_, os := fun t ht _ q hq => ?_, lo := s.lo, p9 := trivial, kp := s.kp }
  · rw [List.length_append, List.length_singleton] at ht
    by_cases e : t < V.length
    · rw [List.getElem_append_left e, List.getElem?_append_left (by omega)]
      exact s.ls t e (by omega)
    · obtain rfl : t = V.length := by omega
      rw [List.getElem_append_right (Nat.le_refl _), List.getElem?_append_right (by omega)]
      simp only [Nat.sub_self, List.getElem_cons_zero, hn, List.getElem?_cons_zero, Option.getD_some]
      exact hl.kept k (fun q hq f => by
        have h1 := ho q hq
        have h2 : o q = 5 := f.elim (fun e => by rw [e]; exact h.ok trivial) (fun e => h.oB trivial q e)
        omega)
  · rw [List.length_append, List.length_singleton] at ht
    by_cases e : t < V.length
    · rw [List.getElem_append_left e] at hq
      exact s.os t e (by omega) q hq
    · obtain rfl : t = V.length := by omega
      rw [List.getElem_append_right (Nat.le_refl _)] at hq
      simp only [Nat.sub_self, List.getElem_cons_zero] at hq
      rw [newK_old (hl.lt hq)]
      exact ho q hq
theorem Ws.keep {w W : World} {o : Nat → Nat} {bW : Nat → Nat} {vW : Nat → Value} {XW : Nat → List Int} {gh : Nat} {vh : Nat → Value} {XH : Nat → List Int} {kb : Nat} {vB vK vT : Value} {V VK : List Value} {Ls LT : List (List Int)} {W' : World} {vK' b : Value} (h : Ws AllK w W o bW vW XW gh vh XH kb vB vK vT V VK Ls LT) (k : Kept (fun q => vK.ownBlock = some q) W W') (hr : W'.ownsRow 0 26 1 vK' (VK ++ [b]).length (VK ++ [b])) (nw : ∀ q, vK'.ownBlock = some q → vK.ownBlock = some q ∨ W.heap.size ≤ q) :
    Ws AllK w W' (newK W.heap.size 6 o) bW vW XW gh vh XH kb vB vK' vT V (VK ++ [b]) Ls LT := by
  have s := h.step (P' := fun c => c ≠ 6) k (newK W.heap.size 6 o) (fun _ _ => trivial) (by omega) (fun q f _ p => p (h.oK trivial q f)) (fun q hq => newK_old hq)
  exact { wr := fun j hj _ => s.wr j hj (by omega), ow := fun j hj _ => s.ow j hj (by omega), hh := fun _ => s.hh (by omega), oh := fun _ => s.oh (by omega), hl := fun j hj _ => s.hl j hj (by omega), ol := fun j hj _ => s.ol j hj (by omega), bk := fun _ => s.bk (by omega), ok := fun _ => s.ok (by omega), oB := fun _ => s.oB (by omega), kr := fun _ => hr, oK := fun _ => new_code (h.oK trivial) nw, tr := fun _ => s.tr (by omega), oT := fun _ => s.oT (by omega), ls := fun t ht _ => s.ls t ht (by omega), os := fun t ht _ => s.os t ht (by omega), lo := s.lo, p9 := trivial, kp := s.kp }
theorem Ws.want {w W : World} {o : Nat → Nat} {bW : Nat → Nat} {vW : Nat → Value} {XW : Nat → List Int} {gh : Nat} {vh : Nat → Value} {XH : Nat → List Int} {kb : Nat} {vB vK vT : Value} {V VK : List Value} {Ls LT : List (List Int)} {W' : World} {vT' : Value} {l : List Int} (h : Ws AllK w W o bW vW XW gh vh XH kb vB vK vT V VK Ls LT) (k : Kept (fun q => vT.ownBlock = some q) W W') (hr : W'.ownsRow 0 9 1 vT' (LT ++ [l]).length ((LT ++ [l]).map (fun l => Value.string (strOfNums l)))) (nw : ∀ q, vT'.ownBlock = some q → vT.ownBlock = some q ∨ W.heap.size ≤ q) :
    Ws AllK w W' (newK W.heap.size 7 o) bW vW XW gh vh XH kb vB vK vT' V VK Ls (LT ++ [l]) := by
  have s := h.step (P' := fun c => c ≠ 7) k (newK W.heap.size 7 o) (fun _ _ => trivial) (by omega) (fun q f _ p => p (h.oT trivial q f)) (fun q hq => newK_old hq)
  exact { wr := fun j hj _ => s.wr j hj (by omega), ow := fun j hj _ => s.ow j hj (by omega), hh := fun _ => s.hh (by omega), oh := fun _ => s.oh (by omega), hl := fun j hj _ => s.hl j hj (by omega), ol := fun j hj _ => s.ol j hj (by omega), bk := fun _ => s.bk (by omega), ok := fun _ => s.ok (by omega), oB := fun _ => s.oB (by omega), kr := fun _ => s.kr (by omega), oK := fun _ => s.oK (by omega), tr := fun _ => hr, oT := fun _ => new_code (h.oT trivial) nw, ls := fun t ht _ => s.ls t ht (by omega), os := fun t ht _ => s.os t ht (by omega), lo := s.lo, p9 := trivial, kp := s.kp }
/-- The book's lists share nothing. -/
theorem ws_unshared {w W : World} {o : Nat → Nat} {bW : Nat → Nat} {vW : Nat → Value} {XW : Nat → List Int} {gh : Nat} {vh : Nat → Value} {XH : Nat → List Int} {kb : Nat} {vB vK vT : Value} {V VK : List Value} {Ls LT : List (List Int)} (bm : Nat → Nat → Int) (hbm : BmI bm) (h : Ws AllK w W o bW vW XW gh vh XH kb vB vK vT V VK Ls LT) (hn : V.length ≤ 1099511627776) (hL : ∀ l ∈ Ls, l.length ≤ 35184372088832) :
    Calls Tryd.prog 12 #[.pointer (some ⟨kb, 0, none⟩)] W fun e W' => e = .returned (.bool true) ∧ Ws (fun c => c < 10) w W' o bW vW XW gh vh XH kb vB vK vT V VK Ls LT := by
  have hb := h.bk trivial
  obtain ⟨aB, cB, eB⟩ := row_shapeH hb.row
  let u : Nat → Nat := fun q => if 10 ≤ o q then o q - 10 else V.length
  have lowU : ∀ q, o q < 10 → u q = V.length := fun q hq => if_neg (by omega)
  have c0 : W.cell? ⟨kb, 0, none⟩ = some (.slice aB V.length cB) := by rw [cell_of_row _ _ 0 _ _ _ hb.obj, ← eB]; rfl
  have c1 : W.cell? ⟨kb, 1, none⟩ = some (.slice none 0 0) := by rw [cell_of_row _ _ 1 _ _ _ hb.obj]; rfl
  have c2 : W.cell? ⟨kb, 2, none⟩ = some (.slice none 0 0) := by rw [cell_of_row _ _ 2 _ _ _ hb.obj]; rfl
  have hV : VAt W aB V := by
    intro hne
    have hr := hb.row
    rcases hr.2 with ⟨_, e2⟩ | ⟨g, cap, cur, e1, _⟩
    · exact absurd (List.length_pos_iff.2 hne) (by omega)
    · rw [eB] at e1
      simp only [Value.slice.injEq] at e1
      obtain ⟨rfl, -, -⟩ := e1
      exact ⟨g, 0, rfl, fun k hk => by have q := hr.cells (g := g) (by rw [eB]; rfl) k _ (List.getElem?_eq_getElem hk); rwa [Go.WideShapes.add_plain] at q⟩
  refine (unshared_bytes bm hbm kb aB V.length cB V (fun t => Ls[t]?.getD []) u W c0 c1 c2 hV rfl ⟨fun t ht => h.ls t ht trivial, fun t ht k e => ?_⟩ (Nat.le_of_eq (lowU kb (by rw [h.ok trivial]; decide)).symm) (fun p e => Nat.le_of_eq (lowU p.block (by rw [h.oB trivial p.block (by rw [eB, e]; rfl)]; decide)).symm) hn (fun t ht => ?_)).mono ?_
  · have q := h.os t ht trivial k e
    show (if 10 ≤ o k then o k - 10 else V.length) = t
    rw [if_pos (by omega)]
    omega
  · cases e : Ls[t]? with
    | none => simp
    | some l => exact hL l (List.mem_of_getElem? e)
  · rintro e W' ⟨rfl, k⟩
    refine ⟨rfl, h.step (P' := fun c => c < 10) k o (fun _ _ => trivial) (by omega) (fun q f _ p => ?_) (fun _ _ => rfl)⟩
    have f2 : u q < V.length := f
    rw [lowU q p] at f2
    omega
theorem size_allocK (W : World) (x : Obj) : (W.alloc x).heap.size = W.heap.size + 1 := by simp
theorem row_newK (W : World) (t : TypeId) : (W.alloc (.cells #[] t)).ownsRow 0 t 1 (.slice (some ⟨W.heap.size, 0, none⟩) 0 0) 0 [] := ⟨rfl, .inr ⟨W.heap.size, 0, #[], rfl, Nat.zero_le _, heap_alloc_new W _, Nat.le_refl _, Nat.zero_le _, rfl, rfl⟩⟩
end Go.Proofs.YtjmmdklgkcbihaaDoor
namespace Go.Proofs.YtjmmdklgkcbihaaDoor
open Go.ChangeShapes Go.WideShapes Go.ChangeAt Go.RowKit

theorem kout_small {w : World} {o : OpD} (h : o.At w) : (kout o).length ≤ 32 * o.size := by
  obtain ⟨kd, sec, nn, U, ii, ba, bc, B, s, la, lc, L⟩ := o
  have h : OpAt w ii U ba bc B s la L := h.op
  have hz := zig_bd ii h.i0 h.i1
  have h1 := uvb_len U h.u
  have h2 := uvb_len (zig ii).toNat (by omega)
  have h3 := uvb_len s.size (by have := h.ns; omega)
  have h4 := uvb_len L.length (by have := h.nl; omega)
  have hA : (rising L).length ≤ 10 + 10 * L.length := by
    have := risb_length L 0 (fun x hx => (h.li x hx).2)
    rw [rising, List.length_append]
    omega
  have hP : pko L = 0 → (packed L).length ≤ 12 + 8 * L.length := by
    intro hm
    have hng : ngB L = false := by
      cases q : ngB L with
      | false => rfl
      | true => rw [pko, if_pos q] at hm; omega
    have hw := orl_bits L (ngB_no hng) h.li
    have hmul : L.length * bitLen (orl L) ≤ L.length * 63 := Nat.mul_le_mul_left _ hw
    rw [uvb_length] at h4
    have e := packed_length L
    split at e <;> omega
  have z0 : ([] : List Int).length = 0 := rfl
  have z1 : [nn % 256].length = 1 := rfl
  have z4 := le_length 4 U
  have z8 := le_length 8 U
  have zs : (uvb s.size ++ sb s).length = (uvb s.size).length + s.size := by rw [List.length_append, sb_length]
  have ha : (rbo L).length ≤ 10 + 10 * L.length := by
    unfold rbo
    by_cases hm : rko L = 0
    · rw [if_pos hm]; exact hA
    · rw [if_neg hm]; omega
  have hp : (pbo L).length ≤ 12 + 8 * L.length := by
    unfold pbo
    by_cases hm : pko L = 0
    · rw [if_pos hm]; exact hP hm
    · rw [if_neg hm]; omega
  show (kout ⟨kd, sec, nn, U, ii, ba, bc, B, s, la, lc, L⟩).length ≤ 32 * (B.length + s.size + L.length + 1)
  obtain ⟨N, hN⟩ : ∃ N, N = 32 * (B.length + s.size + L.length + 1) := ⟨_, rfl⟩
  have key : ∀ (c : Prop) [Decidable c] (p q : List Int), p.length ≤ N → q.length ≤ N → (if c then p else q).length ≤ N := by
    intro c _ p q hp hq
    by_cases hc : c
    · rw [if_pos hc]; exact hp
    · rw [if_neg hc]; exact hq
  rw [← hN]
  unfold kout
  refine key _ _ _ (by show [nn % 256].length ≤ _; omega) (key _ _ _ (by show (uvb U).length ≤ _; omega) (key _ _ _ (by show (uvb (zig ii).toNat).length ≤ _; omega) (key _ _ _ (by show (le 4 U).length ≤ _; omega) (key _ _ _ (by show (le 8 U).length ≤ _; omega) (key _ _ _ (by show (uvb s.size ++ sb s).length ≤ _; omega) (key _ _ _ (by show B.length ≤ _; omega) (key _ _ _ (by show (rbo L).length ≤ _; omega) (key _ _ _ (by show (pbo L).length ≤ _; omega) (by show ([] : List Int).length ≤ _; omega)))))))))
/-- What the law holds ahead of its loop. -/
theorem ws_start {w W1 W2 W3 : World} (k1 : Kept (fun _ => False) w W1) (h0 : Wr W2 W1.heap.size (.slice none 0 0) []) (k2 : Kept (fun _ => False) W1 W2) (h1 : Wr W3 W2.heap.size (.slice none 0 0) []) (k3 : Kept (fun _ => False) W2 W3) :
    ∃ o, Ws AllK w ((((((W3.alloc (.cells #[] 5)).alloc (.cells #[] 5)).alloc (.cells #[.slice (some ⟨W3.heap.size, 0, none⟩) 0 0, .slice (some ⟨W3.heap.size + 1, 0, none⟩) 0 0] 26)).alloc (.cells #[.slice none 0 0, .slice none 0 0, .slice none 0 0] 32)).alloc (.cells #[] 26)).alloc (.cells #[] 9)) o (fun j => if j = 0 then W1.heap.size else W2.heap.size) (fun _ => .slice none 0 0) (fun _ => []) (W3.heap.size + 2) (fun j => .slice (some ⟨W3.heap.size + j, 0, none⟩) 0 0) (fun _ => []) (W3.heap.size + 3) (.slice none 0 0) (.slice (some ⟨W3.heap.size + 4, 0, none⟩) 0 0) (.slice (some ⟨W3.heap.size + 5, 0, none⟩) 0 0) [] [] [] [] := by
  obtain ⟨A1, e1⟩ : ∃ A, A = W3.alloc (.cells #[] 5) := ⟨_, rfl⟩
  obtain ⟨A2, e2⟩ : ∃ A, A = A1.alloc (.cells #[] 5) := ⟨_, rfl⟩
  obtain ⟨A3, e3⟩ : ∃ A, A = A2.alloc (.cells #[.slice (some ⟨W3.heap.size, 0, none⟩) 0 0, .slice (some ⟨W3.heap.size + 1, 0, none⟩) 0 0] 26) := ⟨_, rfl⟩
  obtain ⟨A4, e4⟩ : ∃ A, A = A3.alloc (.cells #[.slice none 0 0, .slice none 0 0, .slice none 0 0] 32) := ⟨_, rfl⟩
  obtain ⟨A5, e5⟩ : ∃ A, A = A4.alloc (.cells #[] 26) := ⟨_, rfl⟩
  obtain ⟨A6, e6⟩ : ∃ A, A = A5.alloc (.cells #[] 9) := ⟨_, rfl⟩
  rw [← e1, ← e2, ← e3, ← e4, ← e5, ← e6]
  have z1 : A1.heap.size = W3.heap.size + 1 := by rw [e1]; exact size_allocK _ _
  have z2 : A2.heap.size = W3.heap.size + 2 := by rw [e2, size_allocK, z1]
  have z3 : A3.heap.size = W3.heap.size + 3 := by rw [e3, size_allocK, z2]
  have z4 : A4.heap.size = W3.heap.size + 4 := by rw [e4, size_allocK, z3]
  have z5 : A5.heap.size = W3.heap.size + 5 := by rw [e5, size_allocK, z4]
  have q1 : Kept (fun _ => False) W3 A1 := by rw [e1]; exact Kept.alloc _ _
  have q2 : Kept (fun _ => False) A1 A2 := by rw [e2]; exact Kept.alloc _ _
  have q3 : Kept (fun _ => False) A2 A3 := by rw [e3]; exact Kept.alloc _ _
  have q4 : Kept (fun _ => False) A3 A4 := by rw [e4]; exact Kept.alloc _ _
  have q5 : Kept (fun _ => False) A4 A5 := by rw [e5]; exact Kept.alloc _ _
  have q6 : Kept (fun _ => False) A5 A6 := by rw [e6]; exact Kept.alloc _ _
  have j5 := q6
  have j4 := q5.trans j5 (fun _ f => f.elim)
  have j3 := q4.trans j4 (fun _ f => f.elim)
  have j2 := q3.trans j3 (fun _ f => f.elim)
  have j1 := q2.trans j2 (fun _ f => f.elim)
  have j0 := q1.trans j1 (fun _ f => f.elim)
  have s1 := k1.size
  have l0 : W1.heap.size < W2.heap.size := h0.lt
  have l1 : W2.heap.size < W3.heap.size := h1.lt
  have r0 : A6.ownsRow 0 5 1 (.slice (some ⟨W3.heap.size, 0, none⟩) 0 0) 0 [] := by have := row_newK W3 5; rw [← e1] at this; exact j1.row this (fun _ _ f => f)
  have r1 : A6.ownsRow 0 5 1 (.slice (some ⟨W3.heap.size + 1, 0, none⟩) 0 0) 0 [] := by have := row_newK A1 5; rw [← e2, z1] at this; exact j2.row this (fun _ _ f => f)
  have r2 : A6.heap[W3.heap.size + 2]? = some (.cells #[.slice (some ⟨W3.heap.size, 0, none⟩) 0 0, .slice (some ⟨W3.heap.size + 1, 0, none⟩) 0 0] 26 (0, 0)) := by
    have q := heap_alloc_new A2 (.cells #[.slice (some ⟨W3.heap.size, 0, none⟩) 0 0, .slice (some ⟨W3.heap.size + 1, 0, none⟩) 0 0] 26)
    rw [← e3, z2] at q
    exact j3.heap q (fun f => f)
  have r3 : A6.heap[W3.heap.size + 3]? = some (.cells #[.slice none 0 0, .slice none 0 0, .slice none 0 0] 32 (0, 0)) := by
    have q := heap_alloc_new A3 (.cells #[.slice none 0 0, .slice none 0 0, .slice none 0 0] 32)
    rw [← e4, z3] at q
    exact j4.heap q (fun f => f)
  have r4 : A6.ownsRow 0 26 1 (.slice (some ⟨W3.heap.size + 4, 0, none⟩) 0 0) 0 [] := by have := row_newK A4 26; rw [← e5, z4] at this; exact j5.row this (fun _ _ f => f)
  have r5 : A6.ownsRow 0 9 1 (.slice (some ⟨W3.heap.size + 5, 0, none⟩) 0 0) 0 [] := by have := row_newK A5 9; rw [← e6, z5] at this; exact this
  obtain ⟨o, ho⟩ : ∃ o : Nat → Nat, o = fun q => if q < w.heap.size then 9 else if q = W1.heap.size then 0 else if q = W2.heap.size then 1 else if q = W3.heap.size then 3 else if q = W3.heap.size + 1 then 4 else if q = W3.heap.size + 2 then 2 else if q = W3.heap.size + 3 then 5 else if q = W3.heap.size + 4 then 6 else 7 := ⟨_, rfl⟩
  have o0 : o W1.heap.size = 0 := by rw [ho]; exact (if_neg (by omega)).trans ((if_pos rfl))
  have o1 : o W2.heap.size = 1 := by rw [ho]; exact (if_neg (by omega)).trans ((if_neg (by omega)).trans ((if_pos rfl)))
  have o3 : o W3.heap.size = 3 := by rw [ho]; exact (if_neg (by omega)).trans ((if_neg (by omega)).trans ((if_neg (by omega)).trans ((if_pos rfl))))
  have o4 : o (W3.heap.size + 1) = 4 := by rw [ho]; exact (if_neg (by omega)).trans ((if_neg (by omega)).trans ((if_neg (by omega)).trans ((if_neg (by omega)).trans ((if_pos rfl)))))
  have o2 : o (W3.heap.size + 2) = 2 := by rw [ho]; exact (if_neg (by omega)).trans ((if_neg (by omega)).trans ((if_neg (by omega)).trans ((if_neg (by omega)).trans ((if_neg (by omega)).trans ((if_pos rfl))))))
  have o5 : o (W3.heap.size + 3) = 5 := by rw [ho]; exact (if_neg (by omega)).trans ((if_neg (by omega)).trans ((if_neg (by omega)).trans ((if_neg (by omega)).trans ((if_neg (by omega)).trans ((if_neg (by omega)).trans ((if_pos rfl)))))))
  have o6 : o (W3.heap.size + 4) = 6 := by rw [ho]; exact (if_neg (by omega)).trans ((if_neg (by omega)).trans ((if_neg (by omega)).trans ((if_neg (by omega)).trans ((if_neg (by omega)).trans ((if_neg (by omega)).trans ((if_neg (by omega)).trans ((if_pos rfl))))))))
  have o7 : o (W3.heap.size + 5) = 7 := by rw [ho]; exact (if_neg (by omega)).trans ((if_neg (by omega)).trans ((if_neg (by omega)).trans ((if_neg (by omega)).trans ((if_neg (by omega)).trans ((if_neg (by omega)).trans ((if_neg (by omega)).trans ((if_neg (by omega)))))))))
  have o9 : ∀ k, k < w.heap.size → o k = 9 := fun k hk => by rw [ho]; exact if_pos hk
  clear ho e1 e2 e3 e4 e5 e6
  have two : ∀ i, i < 2 → i = 0 ∨ i = 1 := fun i hi => by omega
  refine ⟨o, { wr := fun i hi _ => ?_, ow := fun i hi _ k hk => ?_, hh := fun _ => r2, oh := fun _ => o2, hl := fun i hi _ => ?_, ol := fun i hi _ k hk => ?_, bk := fun _ => ⟨r3, ⟨rfl, .inl ⟨rfl, rfl⟩⟩, fun e => (by cases e)⟩, ok := fun _ => o5, oB := fun _ k e => (by cases e), kr := fun _ => r4, oK := fun _ k e => ?_, tr := fun _ => r5, oT := fun _ k e => ?_, ls := fun t ht => absurd ht (Nat.not_lt_zero _), os := fun t ht => absurd ht (Nat.not_lt_zero _), lo := o9, p9 := trivial, kp := ((k1.trans k2 (fun _ f => f.elim)).trans k3 (fun _ f => f.elim)).trans j0 (fun _ f => f.elim) }⟩
  · rcases two i hi with rfl | rfl
    · exact (h0.kept k3 (fun _ _ f => f)).kept j0 (fun _ _ f => f)
    · exact h1.kept j0 (fun _ _ f => f)
  · rcases two i hi with rfl | rfl
    · rcases hk with rfl | e
      · exact o0
      · cases e
    · rcases hk with rfl | e
      · exact o1
      · cases e
  · rcases two i hi with rfl | rfl
    · exact r0
    · exact r1
  · rcases two i hi with rfl | rfl
    · have e : W3.heap.size + 0 = k := Option.some.inj hk
      rw [← e]
      exact o3
    · have e : W3.heap.size + 1 = k := Option.some.inj hk
      rw [← e]
      exact o4
  · have e : W3.heap.size + 4 = k := Option.some.inj e
    rw [← e]
    exact o6
  · have e : W3.heap.size + 5 = k := Option.some.inj e
    rw [← e]
    exact o7
theorem ws_cell {P : Nat → Prop} {w W : World} {o : Nat → Nat} {bW : Nat → Nat} {vW : Nat → Value} {XW : Nat → List Int} {gh : Nat} {vh : Nat → Value} {XH : Nat → List Int} {kb : Nat} {vB vK vT : Value} {V VK : List Value} {Ls LT : List (List Int)} (h : Ws P w W o bW vW XW gh vh XH kb vB vK vT V VK Ls LT) (p : P 2) : W.cell? ⟨gh, 0, none⟩ = some (vh 0) ∧ W.cell? ⟨gh, 1, none⟩ = some (vh 1) ∧ W.frozen? ⟨gh, 0, none⟩ = false ∧ W.frozen? ⟨gh, 1, none⟩ = false := by
  refine ⟨?_, ?_, ?_, ?_⟩
  · rw [cell_of_row _ _ 0 _ _ _ (h.hh p)]; rfl
  · rw [cell_of_row _ _ 1 _ _ _ (h.hh p)]; rfl
  · simp [World.frozen?, h.hh p]
  · simp [World.frozen?, h.hh p]
end Go.Proofs.YtjmmdklgkcbihaaDoor
