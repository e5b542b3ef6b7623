import Derived.Test.YtidgofpmnlddaaaGreatDoorMil
import Derived.Test.YtidgofpmnlddaaaGreatDoorPhy
import Derived.Test.YtidgofpmnlddaaaGreatDoorPrl
namespace Go.Proofs.YtidgofpmnlddaaaGreatDoor
open Go.ChangeShapes Go.WideShapes Go.ChangeAt Go.RowKit

/-- A list of the call's own: its value, its elements' type, its cells. -/
structure Ent where
  v : Value
  t : TypeId
  n : Nat
  xs : List Value
/-- Lists of the call's own, apart from one another. -/
structure Fam (w W : World) (fs : List Ent) : Prop where
  own : ∀ e ∈ fs, W.ownsRow w.heap.size e.t 1 e.v e.n e.xs
  two : fs.Pairwise (fun x y => Apa x.v y.v)
  kept : Kept (fun _ => False) w W
theorem Fam.perm {w W : World} {fs gs : List Ent} (h : Fam w W fs) (p : fs.Perm gs) : Fam w W gs :=
  ⟨fun e he => h.own e (p.mem_iff.2 he), (List.Perm.pairwise_iff (fun h => Apa.symm h) p).1 h.two, h.kept⟩
theorem Fam.head {w W W' : World} {fs : List Ent} {x x' : Ent} (h : Fam w W (x :: fs)) (k : Kept (fun i => x.v.ownBlock = some i) W W') (ho : W'.ownsRow w.heap.size x'.t 1 x'.v x'.n x'.xs) (hn : ∀ i, x'.v.ownBlock = some i → x.v.ownBlock = some i ∨ W.heap.size ≤ i) : Fam w W' (x' :: fs) := by
  have h2 := List.pairwise_cons.1 h.two
  refine ⟨fun e he => ?_, List.pairwise_cons.2 ⟨fun e he j hj he' => ?_, h2.2⟩, h.kept.trans k (fun i hi => .inr ((h.own x (List.mem_cons_self ..)).lt i hi).1)⟩
  · rcases List.mem_cons.1 he with rfl | he
    · exact ho
    · exact k.row (h.own e (List.mem_cons_of_mem _ he)) (fun j hj f => h2.1 e he j f hj)
  · rcases hn j hj with q | q
    · exact h2.1 e he j q he'
    · have := ((h.own e (List.mem_cons_of_mem _ he)).lt j he').2
      omega
theorem Fam.mid {w W W' : World} {pre post : List Ent} {x x' : Ent} (h : Fam w W (pre ++ x :: post)) (k : Kept (fun i => x.v.ownBlock = some i) W W') (ho : W'.ownsRow w.heap.size x'.t 1 x'.v x'.n x'.xs) (hn : ∀ i, x'.v.ownBlock = some i → x.v.ownBlock = some i ∨ W.heap.size ≤ i) : Fam w W' (pre ++ x' :: post) :=
  (Fam.head (h.perm List.perm_middle) k ho hn).perm List.perm_middle.symm
theorem Fam.later {w W W' : World} {fs : List Ent} (h : Fam w W fs) (k : Kept (fun _ => False) W W') : Fam w W' fs :=
  ⟨fun e he => k.row (h.own e he) (fun _ _ f => f), h.two, h.kept.trans k (fun _ f => f.elim)⟩
theorem Fam.new {w W W' : World} {fs : List Ent} {x' : Ent} (h : Fam w W fs) (k : Kept (fun _ => False) W W') (ho : W'.ownsRow W.heap.size x'.t 1 x'.v x'.n x'.xs) : Fam w W' (x' :: fs) := by
  refine ⟨fun e he => ?_, List.pairwise_cons.2 ⟨fun e he j hj he' => ?_, h.two⟩, h.kept.trans k (fun _ f => f.elim)⟩
  · rcases List.mem_cons.1 he with rfl | he
    · exact row_lower ho h.kept.size
    · exact k.row (h.own e he) (fun _ _ f => f)
  · have h1 := (ho.lt j hj).1
    have h3 := ((h.own e he).lt j he').2
    omega
theorem fam_nil (w : World) : Fam w w [] := ⟨fun _ h => (by cases h), List.Pairwise.nil, Kept.refl _ _⟩
theorem row_shape {W : World} {base n : Nat} {e : TypeId} {v : Value} {xs : List Value} (h : W.ownsRow base e 1 v n xs) : ∃ a c, v = .slice a n c ∧ n ≤ c ∧ (0 < n → ∃ g, a = some ⟨g, 0, none⟩) := by
  rcases h.2 with ⟨rfl, rfl⟩ | ⟨g, cap, cur, rfl, _, _, hn, _⟩
  · exact ⟨none, 0, rfl, Nat.le_refl _, fun h => by omega⟩
  · exact ⟨_, _, rfl, hn, fun _ => ⟨g, rfl⟩⟩
theorem row_at {W : World} {base n g c : Nat} {e : TypeId} {xs : List Value} (h : W.ownsRow base e 1 (.slice (some ⟨g, 0, none⟩) n c) n xs) {j : Nat} {u : Value} (hu : xs[j]? = some u) : W.cell? ⟨g, j, none⟩ = some u := by
  have q := h.cells (g := g) rfl j u hu
  rw [Go.WideShapes.add_plain, Nat.zero_add] at q
  exact q
def eI (x : Il) : Ent := ⟨svx x, 3, x.l.length, is x.l⟩
def eL (v : Value) (n : Nat) (L : List Il) : Ent := ⟨v, 24, n, svl L⟩
/-- 'append(s, x)' of one list, to a list of lists among others. -/
theorem wpList_famL {w W : World} {ops : Array Oper} {rest : List Oper} {o : Oper} {act : Act} {Q : Exit → Act → World → Prop} (hgd : o.guard = none) (s x : Operand)
    (ho : o.op = .call { callee := .builtin .append, args := #[s, x], argTypes := #[23, 23] }) (pre post : List Ent) (v : Value) (n : Nat) (L : List Il) (y : Il) (hs : act.eval s = v) (hF : Hid (Fam w W (pre ++ eL v n L :: post))) (b : Nat) (hbb : b = W.heap.size) (hx : act.eval x = .slice (some ⟨b, 0, none⟩) 1 1) (hb : n ≤ 1099511627776) (u : Value) (hu : u = svx y)
    (h : ∀ g c' W', Hid (Fam w W' (pre ++ eL (.slice (some ⟨g, 0, none⟩) (n + 1) c') (n + 1) (L ++ [y]) :: post)) → wpList Tryz.prog ops Q rest (act.put o.dst (.slice (some ⟨g, 0, none⟩) (n + 1) c')) W') : wpList Tryz.prog ops Q (o :: rest) act (W.alloc (.cells #[u] 24)) := by
  subst hbb hu
  obtain ⟨i0, hi0, hz0, hz1, hz2⟩ := info_partsP Tryz.infoLi
  have kA := Kept.alloc W (.cells #[svx y] 24)
  have hF1 := hF.out.later kA
  have ho1 := hF1.own (eL v n L) (by simp)
  refine wpList_append_lies _ hgd s x 23 ho w.heap.size 24 i0 (.slice none 0 0) 1 24 Tryz.underlying23 hi0 hz0 hz1 hz2 rfl (by decide) v n (svl L) hs ho1 ⟨W.heap.size, 0, none⟩ 1 1 [svx y] hx rfl (row_news W [svx y] 24) (by
    intro u hu
    simp only [List.mem_singleton] at hu
    subst hu
    rfl) (by decide) (by unfold maxLen; omega) (by omega) hF1.kept.size _ rfl ?_
  intro g c' W' ho2 hg2 hat _
  refine h g c' W' (hideP (hF1.mid (x' := eL (.slice (some ⟨g, 0, none⟩) (n + 1) c') (n + 1) (L ++ [y])) (Kept.grown hg2) ?_ ?_))
  · have e : svl (L ++ [y]) = svl L ++ [svx y] := svl_app L y
    show W'.ownsRow w.heap.size 24 1 (.slice (some ⟨g, 0, none⟩) (n + 1) c') (n + 1) (svl (L ++ [y]))
    rw [e]
    exact ho2
  · intro i hi
    have e : g = i := by simpa [eL, Value.ownBlock] using hi
    subst e
    exact hat.imp id (fun e => by rw [e]; exact Nat.le_refl _)
/-- A list without its spare room. -/
def cutI (x : Il) : Il := ⟨x.a, x.c, x.l.take (x.l.length - 80)⟩
theorem ints_take {W : World} {a : Option Addr} {l : List Int} (h : IntsAt W a l) (n : Nat) : IntsAt W a (l.take n) := by
  intro hne
  have hne2 : l ≠ [] := by rintro rfl; simp at hne
  obtain ⟨b, off, e, hc⟩ := h hne2
  refine ⟨b, off, e, fun k hk => ?_⟩
  rw [List.length_take] at hk
  have := hc k (by omega)
  rw [List.getElem?_take, if_pos (by omega)]
  exact this
theorem row_ints {W : World} {base : Nat} {x : Il} (h : W.ownsRow base 3 1 (svx x) x.l.length (is x.l)) : IntsAt W x.a x.l ∧ x.l.length ≤ x.c ∧ (x.l ≠ [] → ∃ g, x.a = some ⟨g, 0, none⟩) := by
  obtain ⟨a, c, e, hn, hg⟩ := row_shape h
  unfold svx at e
  simp only [Value.slice.injEq, true_and] at e
  refine ⟨fun hne => ?_, by omega, fun hne => ?_⟩
  · obtain ⟨g, e2⟩ := hg (List.length_pos_iff.2 hne)
    have ea : x.a = some ⟨g, 0, none⟩ := e.1.trans e2
    have h' := h
    unfold svx at h'
    rw [ea] at h'
    rw [ea]
    exact own_intsM h' hne
  · obtain ⟨g, e2⟩ := hg (List.length_pos_iff.2 hne)
    exact ⟨g, e.1.trans e2⟩
/-- A list of lists that lie apart. -/
theorem fam_li {w W : World} {fs : List Ent} {a : Option Addr} {n c : Nat} {B : List Il} (h : Fam w W fs) (h1 : eL (.slice a n c) n (B.map cutI) ∈ fs) (h2 : ∀ x ∈ B, eI x ∈ fs) : LiAt W a (B.map cutI) := by
  intro hne
  have ho := h.own _ h1
  have hn : n = (B.map cutI).length := by
    have := ho.1
    simp only [eL, svl_len] at this
    omega
  obtain ⟨a', c', e, _, hg⟩ := row_shape ho
  simp only [eL, Value.slice.injEq, true_and] at e
  obtain ⟨g, e2⟩ := hg (by simp only [eL]; rw [hn]; exact List.length_pos_iff.2 hne)
  have ea : a = some ⟨g, 0, none⟩ := e.1.trans e2
  subst ea
  refine ⟨g, 0, rfl, fun k hk => ⟨?_, ?_⟩⟩
  · rw [Nat.zero_add]
    exact row_at ho (by show (svl (B.map cutI))[k]? = _; unfold svl; rw [List.getElem?_map, List.getElem?_eq_getElem hk]; rfl)
  · have hk2 : k < B.length := by rw [List.length_map] at hk; exact hk
    rw [List.getElem_map]
    exact ints_take (row_ints (h.own _ (h2 _ (List.getElem_mem hk2)))).1 _
/-- The same of lists that have no spare room. -/
theorem fam_liP {w W : World} {fs : List Ent} {a : Option Addr} {n c : Nat} {B : List Il} (h : Fam w W fs) (h1 : eL (.slice a n c) n B ∈ fs) (h2 : ∀ x ∈ B, eI x ∈ fs) : LiAt W a B := by
  intro hne
  have ho := h.own _ h1
  have hn : n = B.length := by
    have := ho.1
    simp only [eL, svl_len] at this
    omega
  obtain ⟨a', c', e, _, hg⟩ := row_shape ho
  simp only [eL, Value.slice.injEq, true_and] at e
  obtain ⟨g, e2⟩ := hg (by simp only [eL]; rw [hn]; exact List.length_pos_iff.2 hne)
  have ea : a = some ⟨g, 0, none⟩ := e.1.trans e2
  subst ea
  refine ⟨g, 0, rfl, fun k hk => ⟨?_, (row_ints (h.own _ (h2 _ (List.getElem_mem hk)))).1⟩⟩
  rw [Nat.zero_add]
  exact row_at ho (by show (svl B)[k]? = _; unfold svl; rw [List.getElem?_map, List.getElem?_eq_getElem hk]; rfl)
/-- Is a phrase within its limits? -/
def gdpM (M : List (List Int)) (O : List Int) (sl : Int) : Bool := decide (M.length = O.length) && decide (0 ≤ sl ∧ sl ≤ 2147483647) && inl O && M.all inl
theorem gdpM_iff {L : List Il} {O : List Int} {sl : Int} : gdpM (L.map (·.l)) O sl = true ↔ gdp L O sl := by
  unfold gdpM gdp
  simp only [Bool.and_eq_true, decide_eq_true_eq, List.length_map, inl_iff, List.all_eq_true, List.mem_map, forall_exists_index, and_imp, forall_apply_eq_imp_iff₂]
  constructor
  · rintro ⟨⟨⟨h1, h2⟩, h3⟩, h4⟩
    exact ⟨h1, h2, h3, h4⟩
  · rintro ⟨h1, h2, h3, h4⟩
    exact ⟨⟨⟨h1, h2⟩, h3⟩, h4⟩
/-- What PhraseFreq answers. -/
def frq (M : List (List Int)) (O : List Int) (sl : Int) : Nat := if gdpM M O sl = true then cntP (M.zip O) sl else 0
theorem frq_good {L : List Il} {O : List Int} {sl : Int} (h : gdp L O sl) : frq (L.map (·.l)) O sl = (risl (plP (prs L O))).countP (okw L O sl) := by
  unfold frq
  rw [if_pos (gdpM_iff.2 h), prs_cnt h.1]
  rfl
theorem frq_bad {L : List Il} {O : List Int} {sl : Int} (h : ¬ gdp L O sl) : frq (L.map (·.l)) O sl = 0 := by
  unfold frq
  rw [if_neg (fun e => h (gdpM_iff.1 e))]
theorem pp_frq {L : List Il} {O : List Int} {sl : Int} {W w' : World} {e : Ending} (h : ppPost L O sl W e w') : e = .returned (.int .i64 ((frq (L.map (·.l)) O sl : Nat) : Int)) ∧ Kept (fun _ => False) W w' := by
  obtain ⟨n, rfl, k, hb, hg⟩ := h
  refine ⟨?_, k⟩
  by_cases q : gdp L O sl
  · rw [frq_good q, hg q _ (prs_alp q.1)]
  · rw [frq_bad q, hb q]
theorem rf_frq {L : List Il} {O : List Int} {sl : Int} {W w' : World} {e : Ending} (h : rfPost L O sl W e w') : e = .returned (.int .i64 ((frq (L.map (·.l)) O sl : Nat) : Int)) ∧ Kept (fun _ => False) W w' := by
  obtain ⟨n, rfl, k, hb, hg⟩ := h
  refine ⟨?_, k⟩
  by_cases q : gdp L O sl
  · obtain ⟨A, hA, e⟩ := hg q
    have hB := prs_alp (L := L) (O := O) q.1
    rw [frq_good q, e, rsg_eq hA.rs hB.rs (fun x => by rw [hA.mem, hB.mem])]
  · rw [frq_bad q, hb q]
end Go.Proofs.YtidgofpmnlddaaaGreatDoor
