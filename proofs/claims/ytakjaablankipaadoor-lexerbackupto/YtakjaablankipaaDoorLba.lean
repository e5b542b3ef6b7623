import Derived.Test.YtakjaablankipaaDoorLyr
namespace Go.Proofs.YtakjaablankipaaDoor
open Go.ChangeShapes Go.WideShapes Go.ChangeAt Go.RowKit

/-! What Word, Quote and Pattern make is scanned to what they were made of. -/
/-- A sign as it is written. -/
def wr1 (x : UInt8 × Bool) : List UInt8 := if x.2 then [92, x.1] else [x.1]
theorem wr1_t (c : UInt8) : wr1 (c, true) = [92, c] := rfl
theorem wr1_f (c : UInt8) : wr1 (c, false) = [c] := rfl
theorem sgn_wr (t : List UInt8) : ∀ (X : List (UInt8 × Bool)), (∀ x ∈ X, x.2 = true ∨ x.1 ≠ 92) → sgn (X.flatMap wr1 ++ t) = X ++ sgn t := by
  intro X
  induction X with
  | nil => intro _; rfl
  | cons x X ih =>
    intro h
    have h1 := ih (fun y hy => h y (List.mem_cons_of_mem _ hy))
    obtain ⟨c, b⟩ := x
    rw [List.flatMap_cons, List.append_assoc]
    cases b with
    | true => rw [wr1_t]; show sgn (92 :: c :: (X.flatMap wr1 ++ t)) = _; rw [sgn_esc, h1]; rfl
    | false =>
      rw [wr1_f]
      show sgn (c :: (X.flatMap wr1 ++ t)) = _
      rcases h _ (List.mem_cons_self ..) with h2 | h2
      · cases h2
      · rw [sgn_oth c _ h2, h1]; rfl
theorem sgn_wr0 (X : List (UInt8 × Bool)) (h : ∀ x ∈ X, x.2 = true ∨ x.1 ≠ 92) : sgn (X.flatMap wr1) = X := by
  have := sgn_wr [] X h
  rw [List.append_nil] at this
  rw [this]
  show X ++ sgn [] = X
  rw [show sgn [] = [] from rfl, List.append_nil]
theorem isR_not92 (c : UInt8) (h : isR c = true) : c ≠ 92 := by intro e; subst e; rw [isR_92] at h; cases h
theorem rn_wr (t : List UInt8) : ∀ (X : List (UInt8 × Bool)), (∀ x ∈ X, x.2 = true ∨ isR x.1 = true) → rnL (X.flatMap wr1 ++ t) = (rnL t).map (· + (X.flatMap wr1).length) := by
  intro X
  induction X with
  | nil =>
    intro _
    show rnL t = (rnL t).map (· + 0)
    cases rnL t <;> rfl
  | cons x X ih =>
    intro h
    have h1 := ih (fun y hy => h y (List.mem_cons_of_mem _ hy))
    obtain ⟨c, b⟩ := x
    rw [List.flatMap_cons, List.append_assoc, List.length_append]
    cases b with
    | true =>
      rw [wr1_t]
      show rnL (92 :: c :: (X.flatMap wr1 ++ t)) = _
      rw [rn_esc, h1]
      cases rnL t with
      | none => rfl
      | some z => show some (z + (X.flatMap wr1).length + 2) = some (z + (2 + (X.flatMap wr1).length)); congr 1; omega
    | false =>
      rw [wr1_f]
      show rnL (c :: (X.flatMap wr1 ++ t)) = _
      rcases h _ (List.mem_cons_self ..) with h2 | h2
      · cases h2
      · rw [rn_run c _ h2, h1]
        cases rnL t with
        | none => rfl
        | some z => show some (z + (X.flatMap wr1).length + 1) = some (z + (1 + (X.flatMap wr1).length)); congr 1; omega
theorem cl_isB (c : UInt8) (h : isB c = true) : cl c ≠ 101 := by
  have := u8_all (fun c => !(isB c) || !(cl c == 101)) (by decide +kernel) c
  simp [h] at this
  exact this
theorem isB_92 : isB 92 = true := by decide +kernel
/-- A run, scanned by itself. -/
theorem scan_run (x : UInt8 × Bool) (X : List (UInt8 × Bool)) (h0 : x.2 = true ∨ isB x.1 = true ∧ isR x.1 = true) (h : ∀ y ∈ X, y.2 = true ∨ isR y.1 = true) (T : List UInt8) (hT : T = (x :: X).flatMap wr1) : scanF T = ([⟨kdF T, txF T, 0, 0, T.length⟩, endT T.length], none) := by
  have hr : rnL T = some T.length := by
    have := rn_wr [] (x :: X) (by
      intro y hy
      rcases List.mem_cons.1 hy with rfl | hy
      · rcases h0 with h1 | ⟨_, h1⟩
        · exact .inl h1
        · exact .inr h1
      · exact h y hy)
    rw [List.append_nil, ← hT, rn_nil] at this
    rw [this]
    show some (0 + T.length) = _
    rw [Nat.zero_add]
  obtain ⟨c, r, hc, hb⟩ : ∃ c r, T = c :: r ∧ isB c = true := by
    rw [hT, List.flatMap_cons]
    obtain ⟨c, b⟩ := x
    cases b with
    | true => exact ⟨92, _, rfl, isB_92⟩
    | false =>
      rcases h0 with h1 | ⟨h1, _⟩
      · cases h1
      · exact ⟨c, _, rfl, h1⟩
  have ht : tokF (c :: r) = some ⟨kdF T, txF T, 0, T.length⟩ := by
    rw [tokF, if_pos hb, ← hc, hr]
    show some (Tk.mk (kdF (T.take T.length)) (txF (T.take T.length)) 0 T.length) = _
    rw [List.take_length]
  have := scan_alone c r _ (cl_isB c hb) ht
  rw [← hc] at this
  rw [List.take_length] at this
  exact this
theorem sgn_plain : ∀ (n : Nat) (T : List UInt8), T.length ≤ n → (sgn T).any (·.2) = false → (sgn T).map (·.1) = T := by
  intro n
  induction n with
  | zero =>
    intro T h _
    cases T with
    | nil => rfl
    | cons c T => simp at h
  | succ n ih =>
    intro T h ha
    match T with
    | [] => rfl
    | c :: T =>
      by_cases h92 : c = 92
      · subst h92
        cases T with
        | nil => rfl
        | cons d T => rw [sgn_esc] at ha; simp at ha
      · rw [sgn_oth c T h92] at ha ⊢
        simp only [List.any_cons, Bool.false_or] at ha
        simp only [List.length_cons] at h
        rw [List.map_cons, ih T (by omega) ha]
theorem rsv_letter (T : List UInt8) (h : (sgn T).any (·.2) = true) : rsv T = 1 := by
  unfold rsv
  rw [if_neg (by intro e; subst e; revert h; decide), if_neg (by intro e; subst e; revert h; decide), if_neg (by intro e; subst e; revert h; decide), if_neg (by intro e; subst e; revert h; decide)]
/-- A byte as Word and Pattern write it. -/
theorem pl_wr (f : Bool) (c : UInt8) : pl f c = wr1 (c, !plB f c) := by
  cases h : plB f c with
  | true => rw [pl_yes f c h]; rfl
  | false => rw [pl_no f c h]; rfl
theorem pl_facts (c : UInt8) : (plB true c = true → isB c = true ∧ isR c = true ∧ wdB c = false ∧ c ≠ 92) ∧ (plB false c = true → isR c = true ∧ wdB c = false ∧ c ≠ 92) ∧ (wdB c = true → isB c = true ∧ isR c = true ∧ c ≠ 92) := by
  have := u8_all (fun c => (!(plB true c) || (isB c && isR c && !(wdB c) && !(c == 92))) && (!(plB false c) || (isR c && !(wdB c) && !(c == 92))) && (!(wdB c) || (isB c && isR c && !(c == 92)))) (by decide +kernel) c
  simp only [Bool.and_eq_true, Bool.or_eq_true, Bool.not_eq_true', beq_eq_false_iff_ne] at this
  obtain ⟨⟨h1, h2⟩, h3⟩ := this
  refine ⟨fun h => ?_, fun h => ?_, fun h => ?_⟩
  · rcases h1 with q | ⟨⟨⟨q1, q2⟩, q3⟩, q4⟩
    · rw [h] at q; cases q
    · exact ⟨q1, q2, q3, q4⟩
  · rcases h2 with q | ⟨⟨q2, q3⟩, q4⟩
    · rw [h] at q; cases q
    · exact ⟨q2, q3, q4⟩
  · rcases h3 with q | ⟨⟨q1, q2⟩, q4⟩
    · rw [h] at q; cases q
    · exact ⟨q1, q2, q4⟩
def wsg (f : Bool) (c : UInt8) : UInt8 × Bool := (c, !plB f c)
theorem wlF_ne (l : List UInt8) : ∀ (o : List UInt8), o ≠ [] → wlF o l = o ++ (l.map (wsg false)).flatMap wr1 := by
  induction l with
  | nil => intro o _; show o = o ++ []; rw [List.append_nil]
  | cons c l ih =>
    intro o ho
    have he : o.isEmpty = false := by cases o <;> simp_all
    show wlF (o ++ pl o.isEmpty c) l = _
    rw [he, ih _ (by cases o <;> simp_all), List.map_cons, List.flatMap_cons, List.append_assoc, pl_wr]
    rfl
theorem wl_cons (c : UInt8) (r : List UInt8) : wl (c :: r) = (wsg true c :: r.map (wsg false)).flatMap wr1 := by
  have hn : pl true c ≠ [] := by intro e; have := pl_len true c; rw [e] at this; simp at this
  show wlF ([] ++ pl true c) r = _
  rw [List.nil_append, wlF_ne r _ hn, List.flatMap_cons, pl_wr]
  rfl
theorem wsg_sg (f : Bool) (c : UInt8) : (wsg f c).2 = true ∨ plB f c = true := by
  unfold wsg; cases plB f c <;> simp
theorem plR (f : Bool) (c : UInt8) (h : plB f c = true) : isR c = true ∧ wdB c = false ∧ c ≠ 92 := by
  cases f with
  | true => have := (pl_facts c).1 h; exact ⟨this.2.1, this.2.2.1, this.2.2.2⟩
  | false => exact (pl_facts c).2.1 h
theorem wb1 : scanF (92 :: [65, 78, 68]) = ([⟨1, [65, 78, 68], 0, 0, 4⟩, endT 4], none) := by kernel_rfl
theorem wb2 : scanF (92 :: [79, 82]) = ([⟨1, [79, 82], 0, 0, 3⟩, endT 3], none) := by kernel_rfl
theorem wb3 : scanF (92 :: [78, 79, 84]) = ([⟨1, [78, 79, 84], 0, 0, 4⟩, endT 4], none) := by kernel_rfl
theorem wb4 : scanF (92 :: [84, 79]) = ([⟨1, [84, 79], 0, 0, 3⟩, endT 3], none) := by kernel_rfl
/-- Words come back. -/
theorem word_back (s : List UInt8) (h : s ≠ []) : scanF (wordF s) = ([⟨1, s, 0, 0, (wordF s).length⟩, endT (wordF s).length], none) := by
  by_cases hr : rsv s = 1
  · have e : wordF s = wl s := by unfold wordF; rw [if_neg (by omega)]
    rw [e]
    cases s with
    | nil => exact absurd rfl h
    | cons c r =>
      have hX : ∀ y ∈ r.map (wsg false), y.2 = true ∨ isR y.1 = true := by
        intro y hy
        obtain ⟨d, _, rfl⟩ := List.mem_map.1 hy
        rcases wsg_sg false d with q | q
        · exact .inl q
        · exact .inr (plR _ _ q).1
      have h0 : (wsg true c).2 = true ∨ isB (wsg true c).1 = true ∧ isR (wsg true c).1 = true := by
        rcases wsg_sg true c with q | q
        · exact .inl q
        · exact .inr ⟨((pl_facts c).1 q).1, ((pl_facts c).1 q).2.1⟩
      have hs := sgn_wr0 (wsg true c :: r.map (wsg false)) (by
        intro y hy
        rcases List.mem_cons.1 hy with rfl | hy
        · rcases h0 with q | ⟨_, q⟩
          · exact .inl q
          · exact .inr (isR_not92 _ q)
        · rcases hX y hy with q | q
          · exact .inl q
          · exact .inr (isR_not92 _ q))
      have hl : (wsg true c :: r.map (wsg false)).map (·.1) = c :: r := by
        rw [List.map_cons, List.map_map]
        show c :: r.map (fun d => d) = _
        rw [List.map_id']
      have hw : ∀ (f : Bool) (d : UInt8), isW (wsg f d) = false := by
        intro f d
        unfold isW wsg
        cases hp : plB f d with
        | true => rw [(plR f d hp).2.1]; rfl
        | false => rfl
      have hk : rsv (wl (c :: r)) = 1 := by
        rw [wl_cons]
        cases ha : (sgn ((wsg true c :: r.map (wsg false)).flatMap wr1)).any (·.2) with
        | true => exact rsv_letter _ ha
        | false =>
          have := sgn_plain _ _ (Nat.le_refl _) ha
          rw [hs, hl] at this
          rw [← this]
          exact hr
      have hkd : kdF (wl (c :: r)) = 1 := by
        unfold kdF
        rw [if_neg (by omega), wl_cons, hs, if_neg]
        intro q
        rw [List.any_cons, hw true c, Bool.false_or] at q
        obtain ⟨y, hy, q⟩ := List.any_eq_true.1 q
        obtain ⟨d, _, rfl⟩ := List.mem_map.1 hy
        rw [hw false d] at q
        cases q
      have htx : txF (wl (c :: r)) = c :: r := by
        unfold txF
        rw [if_pos hkd]
        unfold litF
        rw [wl_cons, hs, hl]
      have := scan_run _ _ h0 hX (wl (c :: r)) (wl_cons c r)
      rw [hkd, htx] at this
      exact this
  · have e : wordF s = 92 :: s := by unfold wordF; rw [if_pos hr]
    rw [e]
    unfold rsv at hr
    by_cases h1 : s = [65, 78, 68]
    · subst h1; exact wb1
    by_cases h2 : s = [79, 82]
    · subst h2; exact wb2
    by_cases h3 : s = [78, 79, 84]
    · subst h3; exact wb3
    by_cases h4 : s = [84, 79]
    · subst h4; exact wb4
    simp [h1, h2, h3, h4] at hr
theorem word_nil : wordF [] = [] := by decide
/-- Quoted texts come back. -/
def qsg (c : UInt8) : UInt8 × Bool := (c, c == 34 || c == 92)
theorem qe_wr (c : UInt8) : qe c = wr1 (qsg c) := by unfold qe wr1 qsg; rfl
theorem qF_wr (s : List UInt8) : qF s = (s.map qsg).flatMap wr1 := by
  unfold qF
  rw [List.flatMap_map]
  congr 1
theorem qo_qF (t : List UInt8) : ∀ (s : List UInt8), qoL (qF s ++ 34 :: t) = some ((qF s).length + 1) := by
  intro s
  induction s with
  | nil => show qoL (34 :: t) = some 1; exact qo_end t
  | cons c s ih =>
    show qoL ((qe c ++ qF s) ++ 34 :: t) = some ((qe c ++ qF s).length + 1)
    rw [List.append_assoc, List.length_append]
    by_cases h : c = 34 ∨ c = 92
    · rw [qe_yes c h]
      show qoL (92 :: c :: (qF s ++ 34 :: t)) = _
      rw [qo_esc, ih]
      show some ((qF s).length + 1 + 2) = some (2 + (qF s).length + 1)
      congr 1; omega
    · rw [qe_no c (fun e => h (.inl e)) (fun e => h (.inr e))]
      show qoL (c :: (qF s ++ 34 :: t)) = _
      rw [qo_oth c _ (fun e => h (.inl e)) (fun e => h (.inr e)), ih]
      show some ((qF s).length + 1 + 1) = some (1 + (qF s).length + 1)
      congr 1; omega
theorem quote_back (s : List UInt8) : scanF (quoteF s) = ([⟨3, s, 0, 0, (quoteF s).length⟩, endT (quoteF s).length], none) := by
  have hs : sgn (qF s) = s.map qsg := by
    rw [qF_wr]
    refine sgn_wr0 _ ?_
    intro y hy
    obtain ⟨d, _, rfl⟩ := List.mem_map.1 hy
    by_cases e : d = 92
    · exact .inl (by subst e; rfl)
    · exact .inr e
  have hl : (quoteF s).length = (qF s).length + 1 + 1 := by unfold quoteF; simp
  have ht : tokF (34 :: (qF s ++ [34])) = some ⟨3, s, 0, (quoteF s).length⟩ := by
    rw [tokF, if_neg (by decide +kernel), if_pos (by decide +kernel), qo_qF, hl]
    show some (Tk.mk 3 (litF ((qF s ++ [34]).take ((qF s).length + 1 - 1))) 0 ((qF s).length + 1 + 1)) = _
    rw [Nat.add_sub_cancel, List.take_left, litF, hs, List.map_map]
    show some (Tk.mk 3 (s.map (fun d => d)) 0 _) = _
    rw [List.map_id']
  have := scan_alone 34 (qF s ++ [34]) _ (by decide +kernel) ht
  have e : (34 :: (qF s ++ [34])) = quoteF s := rfl
  rw [e] at this
  rw [List.take_length] at this
  exact this
end Go.Proofs.YtakjaablankipaaDoor
