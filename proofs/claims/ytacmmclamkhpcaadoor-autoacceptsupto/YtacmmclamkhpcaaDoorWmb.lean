import Derived.Test.YtacmmclamkhpcaaDoorWma
import Derived.Test.YtacmmclamkhpcaaDoorMrg4
namespace Go.Proofs.YtacmmclamkhpcaaDoor
open Go.ChangeShapes Go.WideShapes Go.ChangeAt Go.RowKit

/-! Patterns that are put together. -/
theorem elsR_app : ∀ (n : Nat) (P : List UInt8) (L0 L : List Int) (Q : List UInt8), P.length ≤ n → elsR L0 P = some L → elsR L0 (P ++ Q) = elsR L Q := by
  intro n
  induction n with
  | zero =>
    intro P L0 L Q hl h
    cases P with
    | nil => rw [elsRn] at h; cases h; rfl
    | cons a r => simp at hl
  | succ n ih =>
    intro P L0 L Q hl h
    cases P with
    | nil => rw [elsRn] at h; cases h; rfl
    | cons c r =>
      rw [List.length_cons] at hl
      rw [List.cons_append]
      by_cases h1 : c = 63
      · subst h1
        rw [elsR63] at h ⊢
        exact ih r _ L Q (by omega) h
      · by_cases h2 : c = 42
        · subst h2
          rw [elsR42] at h ⊢
          exact ih r _ L Q (by omega) h
        · by_cases h3 : c = 92
          · subst h3
            cases r with
            | nil => rw [elsR92n] at h; cases h
            | cons d r =>
              rw [elsR92] at h
              rw [List.cons_append, elsR92]
              rw [List.length_cons] at hl
              exact ih r _ L Q (by omega) h
          · rw [elsRo _ c r h1 h2 h3] at h
            rw [elsRo _ c _ h1 h2 h3]
            exact ih r _ L Q (by omega) h
def lts (l : List UInt8) : List Int := l.map (fun c => (c.toNat : Int))
theorem lt_ne (c : UInt8) : (c.toNat : Int) ≠ 257 := by have := c.toNat_lt; omega
theorem elsR_lit : ∀ (l : List UInt8) (L : List Int), elsR L (lit l) = some (L ++ lts l) := by
  intro l
  induction l with
  | nil => intro L; rw [lit_nil, elsRn]; simp [lts]
  | cons c l ih =>
    intro L
    have e : (L ++ [(c.toNat : Int)]) ++ lts l = L ++ lts (c :: l) := by simp [lts]
    rw [lit_cons]
    by_cases h : c = 42 ∨ c = 63 ∨ c = 92
    · rw [sp1_yes h]
      show elsR L (92 :: c :: lit l) = _
      rw [elsR92, psh_ne (lt_ne c), ih, e]
    · rw [sp1_no h]
      show elsR L (c :: lit l) = _
      rw [elsRo L c (lit l) (fun x => h (.inr (.inl x))) (fun x => h (.inl x)) (fun x => h (.inr (.inr x))), psh_ne (lt_ne c), ih, e]
theorem noss_snoc {L : List Int} {e : Int} (h : NoSS L) (he : e = 257 → L.getLast? ≠ some 257) : NoSS (L ++ [e]) := by
  intro i h1 h2
  rcases Nat.lt_trichotomy (i + 1) L.length with hlt | heq | hgt
  · rw [List.getElem?_append_left (by omega)] at h1
    rw [List.getElem?_append_left hlt] at h2
    exact h i h1 h2
  · rw [List.getElem?_append_left (by omega)] at h1
    rw [List.getElem?_append_right (by omega), heq, Nat.sub_self, List.getElem?_cons_zero] at h2
    have := Option.some.inj h2
    apply he this
    rw [List.getLast?_eq_getElem?, show L.length - 1 = i by omega]
    exact h1
  · rw [List.getElem?_eq_none (by simp; omega)] at h2
    cases h2
theorem noss_psh {L : List Int} {e : Int} (h : NoSS L) : NoSS (psh L e) := by
  unfold psh
  split
  · exact h
  · rename_i h2
    exact noss_snoc h (fun he hl => h2 ⟨he, hl⟩)
theorem noss_lts : ∀ (l : List UInt8) {L : List Int}, NoSS L → NoSS (L ++ lts l) := by
  intro l
  induction l with
  | nil => intro L h; simpa [lts] using h
  | cons c l ih =>
    intro L h
    have e : L ++ lts (c :: l) = (L ++ [(c.toNat : Int)]) ++ lts l := by simp [lts]
    rw [e]
    exact ih (noss_snoc h (fun x => absurd x (lt_ne c)))
theorem noss_els : ∀ (n : Nat) (P : List UInt8) (L0 L : List Int), P.length ≤ n → NoSS L0 → elsR L0 P = some L → NoSS L := by
  intro n
  induction n with
  | zero =>
    intro P L0 L hl h0 h
    cases P with
    | nil => rw [elsRn] at h; cases h; exact h0
    | cons a r => simp at hl
  | succ n ih =>
    intro P L0 L hl h0 h
    cases P with
    | nil => rw [elsRn] at h; cases h; exact h0
    | cons c r =>
      rw [List.length_cons] at hl
      by_cases h1 : c = 63
      · subst h1; rw [elsR63] at h; exact ih r _ L (by omega) (noss_psh h0) h
      · by_cases h2 : c = 42
        · subst h2; rw [elsR42] at h; exact ih r _ L (by omega) (noss_psh h0) h
        · by_cases h3 : c = 92
          · subst h3
            cases r with
            | nil => rw [elsR92n] at h; cases h
            | cons d r =>
              rw [elsR92] at h
              rw [List.length_cons] at hl
              exact ih r _ L (by omega) (noss_psh h0) h
          · rw [elsRo _ c r h1 h2 h3] at h
            exact ih r _ L (by omega) (noss_psh h0) h
theorem noss_nil : NoSS [] := fun i h => by cases h
/-- Elements behind don't matter. -/
theorem wm_more {E : List Int} (F : List Int) : ∀ (p : List UInt8) (i : Nat), i ≤ E.length → wm (E ++ F) p i = wm E p i := by
  intro p
  induction p with
  | nil =>
    intro i
    induction i with
    | zero => intro _; rfl
    | succ i ih =>
      intro hi
      rw [wm_s, wm_s, ih (by omega), List.getElem?_append_left (by omega)]
  | cons c p ihp =>
    intro i
    induction i with
    | zero => intro _; rfl
    | succ i ih =>
      intro hi
      rw [wm_cs, wm_cs, ih (by omega), ihp (i + 1) hi, ihp i (by omega), List.getElem?_append_left (by omega)]
theorem getE (E : List Int) (e : Int) : (E ++ [e])[E.length]? = some e := by rw [List.getElem?_append_right (Nat.le_refl _), Nat.sub_self]; rfl
theorem wm_one {E : List Int} {p : List UInt8} {e : Int} (c : UInt8) (h : wm E p E.length = true) (he : e = 256 ∨ e = (c.toNat : Int)) : wm (E ++ [e]) (c :: p) (E ++ [e]).length = true := by
  have hne : e ≠ 257 := by have := c.toNat_lt; omega
  rw [List.length_append, List.length_singleton, wm_cs, getE, if_neg (by intro x; exact hne (Option.some.inj x)), wm_more [e] p E.length (Nat.le_refl _), h, decide_eq_true (by rcases he with rfl | rfl <;> simp)]
  rfl
theorem wm_lts : ∀ (l : List UInt8) {E : List Int} {s : List UInt8}, wm E s.reverse E.length = true → wm (E ++ lts l) (s ++ l).reverse (E ++ lts l).length = true := by
  intro l
  induction l with
  | nil => intro E s h; simpa [lts] using h
  | cons c l ih =>
    intro E s h
    have e1 : E ++ lts (c :: l) = (E ++ [(c.toNat : Int)]) ++ lts l := by simp [lts]
    have e2 : s ++ c :: l = (s ++ [c]) ++ l := by simp
    rw [e1, e2]
    apply ih
    rw [List.reverse_append]
    exact wm_one c h (.inr rfl)
theorem wm_grow {E : List Int} {n : Nat} (hs : E[n]? = some 257) : ∀ (t p : List UInt8), wm E p (n + 1) = true → wm E (t ++ p) (n + 1) = true := by
  intro t
  induction t with
  | nil => intro p h; exact h
  | cons c t ih =>
    intro p h
    rw [List.cons_append, wm_cs, if_pos hs, ih p h, Bool.or_true]
theorem wm_in {E : List Int} {n : Nat} (hs : E[n]? = some 257) {p : List UInt8} (h : wm E p n = true) : wm E p (n + 1) = true := by
  cases p with
  | nil => rw [wm_s, h, decide_eq_true hs]; rfl
  | cons c p => rw [wm_cs, if_pos hs, h, Bool.true_or]
/-- A star behind: whatever is put behind. -/
theorem wm_psh {E : List Int} {s : List UInt8} (t : List UInt8) (h : wm E s.reverse E.length = true) : wm (psh E 257) (s ++ t).reverse (psh E 257).length = true := by
  rw [List.reverse_append]
  by_cases hl : E.getLast? = some 257
  · rw [psh_star hl]
    rw [List.getLast?_eq_getElem?] at hl
    have hp : 0 < E.length := by
      rcases Nat.eq_zero_or_pos E.length with h0 | h0
      · rw [List.length_eq_zero_iff.1 h0] at hl; cases hl
      · exact h0
    obtain ⟨n, hn⟩ : ∃ n, E.length = n + 1 := ⟨E.length - 1, by omega⟩
    rw [hn] at h hl ⊢
    exact wm_grow hl t.reverse _ h
  · rw [psh_other hl, List.length_append, List.length_singleton]
    refine wm_grow (getE E 257) t.reverse _ (wm_in (getE E 257) ?_)
    rw [wm_more _ _ _ (Nat.le_refl _)]
    exact h
/-- A pattern P that matches the text s. -/
structure PcT (P s : List UInt8) (E : List Int) : Prop where
  els : elsR [] P = some E
  ok : NoSS E
  hit : wm E s.reverse E.length = true
theorem pct_nil : PcT [] [] [] := ⟨elsRn [], noss_nil, rfl⟩
theorem PcT.lit {P s : List UInt8} {E : List Int} (h : PcT P s E) (l : List UInt8) : PcT (P ++ lit l) (s ++ l) (E ++ lts l) :=
  ⟨by rw [elsR_app P.length P [] E _ (Nat.le_refl _) h.els, elsR_lit], noss_lts l h.ok, wm_lts l h.hit⟩
theorem PcT.gap {P s : List UInt8} {E : List Int} (h : PcT P s E) (c : UInt8) : PcT (P ++ [63]) (s ++ [c]) (E ++ [256]) :=
  ⟨by rw [elsR_app P.length P [] E _ (Nat.le_refl _) h.els, elsR63, elsRn, psh_ne (by decide)], noss_snoc h.ok (fun x => by cases x), by rw [List.reverse_append]; exact wm_one c h.hit (.inl rfl)⟩
theorem PcT.star {P s : List UInt8} {E : List Int} (h : PcT P s E) (t : List UInt8) : PcT (P ++ [42]) (s ++ t) (psh E 257) :=
  ⟨by rw [elsR_app P.length P [] E _ (Nat.le_refl _) h.els, elsR42, elsRn], noss_psh h.ok, wm_psh t h.hit⟩
theorem wm_gap0 (E : List Int) : wm (E ++ [256]) [].reverse (E ++ [256]).length = false := by
  rw [List.length_append, List.length_singleton]
  show wm (E ++ [256]) [] (E.length + 1) = false
  rw [wm_s, getE, decide_eq_false (by decide)]
  rfl
end Go.Proofs.YtacmmclamkhpcaaDoor
