import Derived.Test.YtakjaablankipaaDoorLba
namespace Go.Proofs.YtakjaablankipaaDoor
open Go.ChangeShapes Go.WideShapes Go.ChangeAt Go.RowKit

/-! Patterns come back; blanks ahead and behind. -/
/-- The elements of a pattern: letters, and wild marks that are none. -/
def Els (E : List (UInt8 × Bool)) : Prop := ∀ x ∈ E, x.2 = true ∨ wdB x.1 = true
def csg (x : UInt8 × Bool) : UInt8 × Bool := (x.1, x.2 && (wdB x.1 || x.1 == 92))
def psg (f : Bool) (x : UInt8 × Bool) : UInt8 × Bool := if isW x then (x.1, false) else (x.1, !plB f x.1)
theorem cnE_wr (x : UInt8 × Bool) : cnE x = wr1 (csg x) := by unfold cnE wr1 csg; rfl
theorem els_p {E : List (UInt8 × Bool)} (h : Els E) : sgn (E.flatMap wr1) = E := by
  refine sgn_wr0 E ?_
  intro x hx
  rcases h x hx with q | q
  · exact .inl q
  · exact .inr ((pl_facts x.1).2.2 q).2.2
theorem els_c {E : List (UInt8 × Bool)} (h : Els E) : sgn (E.flatMap cnE) = E.map csg := by
  have e : E.flatMap cnE = (E.map csg).flatMap wr1 := by
    rw [List.flatMap_map]
    congr 1
  rw [e]
  refine sgn_wr0 _ ?_
  intro y hy
  obtain ⟨x, hx, rfl⟩ := List.mem_map.1 hy
  by_cases q : x.1 = 92
  · rcases h x hx with q2 | q2
    · exact .inl (by unfold csg; rw [q2, q]; rfl)
    · exact absurd q ((pl_facts x.1).2.2 q2).2.2
  · exact .inr q
theorem csg_W {x : UInt8 × Bool} (h : x.2 = true ∨ wdB x.1 = true) : isW (csg x) = isW x := by
  obtain ⟨c, b⟩ := x
  unfold isW csg
  dsimp only at h ⊢
  cases b <;> cases hw : wdB c <;> simp_all
theorem csg_E {x : UInt8 × Bool} (h : x.2 = true ∨ wdB x.1 = true) : isE (csg x) = false ∧ isE x = false := by
  obtain ⟨c, b⟩ := x
  unfold isE csg
  dsimp only at h ⊢
  cases b with
  | true => cases hw : wdB c <;> by_cases q : c = 92 <;> simp_all
  | false =>
    rcases h with q | q
    · cases q
    · have := ((pl_facts c).2.2 q).2.2
      simp [this]
theorem any_congr {α : Type} {f g : α → Bool} : ∀ (L : List α), (∀ x ∈ L, f x = g x) → L.any f = L.any g := by
  intro L
  induction L with
  | nil => intro _; rfl
  | cons x L ih => intro h; rw [List.any_cons, List.any_cons, h x (List.mem_cons_self ..), ih (fun y hy => h y (List.mem_cons_of_mem _ hy))]
theorem any_no {α : Type} {f : α → Bool} (L : List α) (h : ∀ x ∈ L, f x = false) : L.any f = false := by
  rw [any_congr L (g := fun _ => false) h]
  induction L with
  | nil => rfl
  | cons x L ih => rw [List.any_cons, ih (fun y hy => h y (List.mem_cons_of_mem _ hy))]; rfl
theorem els_any {E : List (UInt8 × Bool)} (h : Els E) : (E.map csg).any isW = E.any isW ∧ E.any isE = false ∧ (E.map csg).any isE = false := by
  refine ⟨?_, any_no _ (fun x hx => (csg_E (h x hx)).2), ?_⟩
  · rw [List.any_map]; exact any_congr _ (fun x hx => csg_W (h x hx))
  · rw [List.any_map]; exact any_no _ (fun x hx => (csg_E (h x hx)).1)
theorem ptF_csg {E : List (UInt8 × Bool)} : Els E → ∀ o, ptF o (E.map csg) = ptF o E := by
  induction E with
  | nil => intro _ o; rfl
  | cons x E ih =>
    intro h o
    have h1 := ih (fun y hy => h y (List.mem_cons_of_mem _ hy))
    show ptF (o ++ if isW (csg x) then [(csg x).1] else pl o.isEmpty (csg x).1) (E.map csg) = ptF (o ++ if isW x then [x.1] else pl o.isEmpty x.1) E
    rw [csg_W (h x (List.mem_cons_self ..)), h1]
    rfl
/-- A pattern and its canonical form are written alike. -/
theorem pat_same {E : List (UInt8 × Bool)} (h : Els E) : patF (E.flatMap wr1) = (if E.any isW then ptF [] E else []) ∧ patF (E.flatMap cnE) = patF (E.flatMap wr1) := by
  obtain ⟨h1, h2, h3⟩ := els_any h
  unfold patF
  rw [els_p h, els_c h, h1, h2, h3, ptF_csg h]
  refine ⟨?_, rfl⟩
  cases E.any isW <;> rfl
theorem pat_lone {E : List (UInt8 × Bool)} (h : Els E) : patF (E.flatMap wr1 ++ [92]) = [] := by
  have e : sgn (E.flatMap wr1 ++ [92]) = E ++ [(92, false)] := by
    rw [sgn_wr [92] E]
    · rfl
    · intro x hx
      rcases h x hx with q | q
      · exact .inl q
      · exact .inr ((pl_facts x.1).2.2 q).2.2
  unfold patF
  rw [e, if_neg]
  rw [List.any_append (f := isE)]
  show ¬ (_ && !(_ || true)) = true
  simp
theorem ptF_ne (g : List (UInt8 × Bool)) : ∀ (o : List UInt8), o ≠ [] → ptF o g = o ++ (g.map (psg false)).flatMap wr1 := by
  induction g with
  | nil => intro o _; show o = o ++ []; rw [List.append_nil]
  | cons x g ih =>
    intro o ho
    have he : o.isEmpty = false := by cases o <;> simp_all
    show ptF (o ++ if isW x then [x.1] else pl o.isEmpty x.1) g = _
    rw [he, ih _ (by cases o <;> simp_all), List.map_cons, List.flatMap_cons, List.append_assoc]
    congr 2
    unfold psg
    split
    · rfl
    · exact pl_wr _ _
theorem ptF_cons (x : UInt8 × Bool) (g : List (UInt8 × Bool)) : ptF [] (x :: g) = (psg true x :: g.map (psg false)).flatMap wr1 := by
  have e : (if isW x then [x.1] else pl true x.1) = wr1 (psg true x) := by
    unfold psg
    split
    · rfl
    · exact pl_wr _ _
  show ptF ([] ++ if isW x then [x.1] else pl true x.1) g = _
  rw [List.nil_append, e, ptF_ne g _ (by unfold wr1; split <;> simp), List.flatMap_cons]
theorem psg_facts {x : UInt8 × Bool} (f : Bool) (h : x.2 = true ∨ wdB x.1 = true) : ((psg f x).2 = true ∨ isR (psg f x).1 = true ∧ (f = true → isB (psg f x).1 = true)) ∧ isW (psg f x) = isW x ∧ cnE (psg f x) = cnE x := by
  obtain ⟨c, b⟩ := x
  cases hW : isW (c, b) with
  | true =>
    obtain ⟨hb, hw⟩ : b = false ∧ wdB c = true := by
      unfold isW at hW
      cases b <;> simp_all
    subst hb
    have e : psg f (c, false) = (c, false) := by unfold psg; rw [if_pos hW]
    rw [e]
    have := (pl_facts c).2.2 hw
    exact ⟨.inr ⟨this.2.1, fun _ => this.1⟩, hW, rfl⟩
  | false =>
    have hb : b = true := by
      unfold isW at hW
      dsimp only at h hW
      cases b with
      | true => rfl
      | false => rcases h with q | q
                 · exact q
                 · rw [q] at hW; cases hW
    subst hb
    have e : psg f (c, true) = (c, !plB f c) := by unfold psg; rw [hW]; rfl
    rw [e]
    cases hp : plB f c with
    | true =>
      have q := plR f c hp
      refine ⟨.inr ⟨q.1, ?_⟩, ?_, ?_⟩
      · intro hf; subst hf; exact ((pl_facts c).1 hp).1
      · unfold isW; show (!(!true) && wdB c) = false; rw [q.2.1]; rfl
      · unfold cnE; show (if ((!true) && (wdB c || c == 92)) = true then _ else _) = (if (true && (wdB c || c == 92)) = true then _ else _); rw [q.2.1, beq_eq_false_iff_ne.2 q.2.2]; rfl
    | false => exact ⟨.inl rfl, rfl, rfl⟩
theorem pat_back {E : List (UInt8 × Bool)} (h : Els E) (hw : E.any isW = true) : scanF (patF (E.flatMap wr1)) = ([⟨2, E.flatMap cnE, 0, 0, (patF (E.flatMap wr1)).length⟩, endT (patF (E.flatMap wr1)).length], none) := by
  have e : patF (E.flatMap wr1) = ptF [] E := by rw [(pat_same h).1, if_pos hw]
  rw [e]
  cases E with
  | nil => cases hw
  | cons x g =>
    have h0 := psg_facts true (h x (List.mem_cons_self ..))
    have hX : ∀ y ∈ g, ((psg false y).2 = true ∨ isR (psg false y).1 = true ∧ (false = true → isB (psg false y).1 = true)) ∧ isW (psg false y) = isW y ∧ cnE (psg false y) = cnE y := fun y hy => psg_facts false (h y (List.mem_cons_of_mem _ hy))
    have b0 : (psg true x).2 = true ∨ isB (psg true x).1 = true ∧ isR (psg true x).1 = true := by
      rcases h0.1 with q | ⟨q, q2⟩
      · exact .inl q
      · exact .inr ⟨q2 rfl, q⟩
    have bX : ∀ y ∈ g.map (psg false), y.2 = true ∨ isR y.1 = true := by
      intro y hy
      obtain ⟨z, hz, rfl⟩ := List.mem_map.1 hy
      rcases (hX z hz).1 with q | ⟨q, _⟩
      · exact .inl q
      · exact .inr q
    have hs := sgn_wr0 (psg true x :: g.map (psg false)) (by
      intro y hy
      rcases List.mem_cons.1 hy with rfl | hy
      · rcases b0 with q | ⟨_, q⟩
        · exact .inl q
        · exact .inr (isR_not92 _ q)
      · rcases bX y hy with q | q
        · exact .inl q
        · exact .inr (isR_not92 _ q))
    have ha : (psg true x :: g.map (psg false)).any isW = true := by
      rw [List.any_cons, List.any_map, h0.2.1, any_congr g (f := isW ∘ psg false) (g := isW) (fun y hy => (hX y hy).2.1), ← List.any_cons]
      exact hw
    have hc : (psg true x :: g.map (psg false)).flatMap cnE = (x :: g).flatMap cnE := by
      rw [List.flatMap_cons, List.flatMap_cons, h0.2.2, List.flatMap_map]
      congr 1
      clear hs ha bX h0 b0 h hw e
      induction g with
      | nil => rfl
      | cons y g ih => rw [List.flatMap_cons, List.flatMap_cons, (hX y (List.mem_cons_self ..)).2.2, ih (fun z hz => hX z (List.mem_cons_of_mem _ hz))]
    have hk : kdF (ptF [] (x :: g)) = 2 := by
      unfold kdF
      rw [ptF_cons, hs, ha]
      have : rsv ((psg true x :: g.map (psg false)).flatMap wr1) = 1 := by
        by_cases q : rsv ((psg true x :: g.map (psg false)).flatMap wr1) = 1
        · exact q
        · have := rsv_wild _ q
          rw [hs, ha] at this
          cases this
      rw [this]
      rfl
    have ht : txF (ptF [] (x :: g)) = (x :: g).flatMap cnE := by
      unfold txF
      rw [hk, if_neg (by decide), if_pos rfl]
      unfold cnF
      rw [ptF_cons, hs, hc]
    have := scan_run _ _ b0 bX (ptF [] (x :: g)) (ptF_cons x g)
    rw [hk, ht] at this
    exact this
/-- Blanks ahead. -/
theorem sc_blanks (q : List UInt8) : ∀ (a : List UInt8) (g k : Nat), blk a = true → (a ++ q).length < g → scF g k (a ++ q) = scF (q.length + 1) (k + a.length) q := by
  intro a
  induction a with
  | nil => intro g k _ h; exact sc_fuel _ _ _ _ h (by rw [List.nil_append]; omega)
  | cons c a ih =>
    intro g k hb h
    obtain ⟨g, rfl⟩ : ∃ g', g = g' + 1 := ⟨g - 1, by simp at h; omega⟩
    unfold blk at hb
    rw [List.all_cons, Bool.and_eq_true] at hb
    show scF (g + 1) k (c :: (a ++ q)) = _
    rw [sc_blank g k c _ (by simpa using hb.1), ih g (k + 1) hb.2 (by simp at h ⊢; omega), List.length_cons, show k + 1 + a.length = k + (a.length + 1) by omega]
theorem scan_blk (b : List UInt8) (h : blk b = true) : scanF b = ([endT b.length], none) := by
  have := sc_blanks [] b (b.length + 1) 0 h (by simp)
  rw [List.append_nil] at this
  unfold scanF
  rw [this, Nat.zero_add, sc_nil]
  rfl
theorem scan_ahead (a q : List UInt8) (h : blk a = true) : scanF (a ++ q) = ((scanF q).1.map (shL a.length), (scanF q).2.map (· + a.length)) := by
  unfold scanF
  rw [sc_blanks q a _ 0 h (Nat.lt_succ_self _), sc_shift]
/-- A text with blanks ahead and behind. -/
theorem scan_wrap (a q b : List UInt8) (ha : blk a = true) (hb : b = [] ∨ ∃ b', b = 32 :: b' ∧ blk b' = true) (h : (scanF q).2 = none) : ∃ A n, (scanF q).1 = A ++ [endT q.length] ∧ scanF (a ++ q ++ b) = (A.map (shL a.length) ++ [endT n], none) := by
  rcases hb with rfl | ⟨b', rfl, hb'⟩
  · obtain ⟨A, h1, _⟩ := scan_beside q [] h
    refine ⟨A, q.length + a.length, h1, ?_⟩
    rw [List.append_nil, scan_ahead a q ha, h, h1, List.map_append]
    rfl
  · obtain ⟨A, h1, h2⟩ := scan_beside q b' h
    refine ⟨A, b'.length + (q.length + 1) + a.length, h1, ?_⟩
    rw [List.append_assoc, scan_ahead a _ ha, h2, scan_blk b' hb']
    simp only [List.map_append, List.map_cons, List.map_nil, Option.map_none]
    rfl
end Go.Proofs.YtakjaablankipaaDoor
