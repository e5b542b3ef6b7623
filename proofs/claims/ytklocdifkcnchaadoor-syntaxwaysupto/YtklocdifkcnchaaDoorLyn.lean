import Derived.Test.YtklocdifkcnchaaDoorLyl
namespace Go.Proofs.YtklocdifkcnchaaDoor
open Go.ChangeShapes Go.WideShapes Go.ChangeAt Go.RowKit

/-! Two texts with a space between. -/
theorem isR_32 : isR 32 = false := by decide +kernel
theorem cl_32 : cl 32 = 101 := by decide +kernel
theorem rn_app (q : List UInt8) : ∀ (n : Nat) (r : List UInt8) (z : Nat), r.length ≤ n → rnL r = some z → rnL (r ++ 32 :: q) = some z := by
  intro n
  induction n with
  | zero =>
    intro r z h e
    cases r with
    | nil => rw [rn_nil] at e; cases e; exact rn_end 32 q isR_32 (by decide)
    | cons c r => simp at h
  | succ n ih =>
    intro r z h e
    cases r with
    | nil => rw [rn_nil] at e; cases e; exact rn_end 32 q isR_32 (by decide)
    | cons c r =>
      simp only [List.length_cons] at h
      by_cases h2 : c = 92
      · subst h2
        cases r with
        | nil => rw [rn_lone] at e; cases e
        | cons d r =>
          rw [rn_esc] at e
          obtain ⟨x, hx, rfl⟩ := Option.map_eq_some_iff.1 e
          simp only [List.length_cons] at h
          show rnL (92 :: d :: (r ++ 32 :: q)) = _
          rw [rn_esc, ih r x (by omega) hx]; rfl
      · by_cases hR : isR c = true
        · rw [rn_run c r hR] at e
          obtain ⟨x, hx, rfl⟩ := Option.map_eq_some_iff.1 e
          show rnL (c :: (r ++ 32 :: q)) = _
          rw [rn_run c _ hR, ih r x (by omega) hx]; rfl
        · have hR2 : isR c = false := by simpa using hR
          rw [rn_end c r hR2 h2] at e
          cases e
          show rnL (c :: (r ++ 32 :: q)) = _
          rw [rn_end c _ hR2 h2]
theorem qo_app (q : List UInt8) : ∀ (n : Nat) (r : List UInt8) (z : Nat), r.length ≤ n → qoL r = some z → qoL (r ++ q) = some z := by
  intro n
  induction n with
  | zero =>
    intro r z h e
    cases r with
    | nil => rw [qo_nil] at e; cases e
    | cons c r => simp at h
  | succ n ih =>
    intro r z h e
    cases r with
    | nil => rw [qo_nil] at e; cases e
    | cons c r =>
      simp only [List.length_cons] at h
      by_cases h1 : c = 34
      · subst h1
        rw [qo_end] at e
        cases e
        show qoL (34 :: (r ++ q)) = _
        rw [qo_end]
      · by_cases h2 : c = 92
        · subst h2
          cases r with
          | nil => rw [qo_lone] at e; cases e
          | cons d r =>
            rw [qo_esc] at e
            obtain ⟨x, hx, rfl⟩ := Option.map_eq_some_iff.1 e
            simp only [List.length_cons] at h
            show qoL (92 :: d :: (r ++ q)) = _
            rw [qo_esc, ih r x (by omega) hx]; rfl
        · rw [qo_oth c r h1 h2] at e
          obtain ⟨x, hx, rfl⟩ := Option.map_eq_some_iff.1 e
          show qoL (c :: (r ++ q)) = _
          rw [qo_oth c _ h1 h2, ih r x (by omega) hx]; rfl
theorem dg_app (r q : List UInt8) : dgL (r ++ 32 :: q) = dgL r := by
  induction r with
  | nil => exact dg_no 32 q (by rw [cl_32]; decide)
  | cons c r ih =>
    show dgL (c :: (r ++ 32 :: q)) = _
    by_cases hc : cl c = 102
    · rw [dg_yes c _ hc, dg_yes c r hc, ih]
    · rw [dg_no c _ hc, dg_no c r hc]
theorem nm_app (r q : List UInt8) : ∀ v, nmV v (r ++ 32 :: q) = nmV v r := by
  induction r with
  | nil => intro v; rw [show ([] : List UInt8) ++ 32 :: q = 32 :: q from rfl, nm_no v 32 q (by rw [cl_32]; decide), nmV]
  | cons c r ih =>
    intro v
    show nmV v (c :: (r ++ 32 :: q)) = _
    by_cases hc : cl c = 102
    · rw [nm_yes v c _ hc, nm_yes v c r hc, ih]
    · rw [nm_no v c _ hc, nm_no v c r hc]
theorem num_app (k m : Nat) (r q : List UInt8) : numT k m (r ++ 32 :: q) = numT k m r := by unfold numT; rw [dg_app, nm_app]
theorem tok_app (c : UInt8) (r q : List UInt8) (t : Tk) (h : tokF (c :: r) = some t) : tokF (c :: (r ++ 32 :: q)) = some t := by
  cases hB : isB c with
  | true =>
    cases e : rnL (c :: r) with
    | none => rw [tok_run0 c r hB e] at h; cases h
    | some z =>
      have hz := rn_le _ _ z (Nat.le_refl _) e
      rw [tok_run c r hB z e] at h
      cases h
      have e2 : rnL (c :: (r ++ 32 :: q)) = some z := rn_app q _ (c :: r) z (Nat.le_refl _) e
      rw [tok_run c _ hB z e2]
      have e3 : (c :: (r ++ 32 :: q)).take z = (c :: r).take z := by
        show ((c :: r) ++ 32 :: q).take z = _
        rw [List.take_append_of_le_length hz]
      rw [e3]
  | false =>
    by_cases h3 : cl c = 3
    · have h34 : c = 34 := by
        have := cl_quo c
        rw [h3] at this
        exact eq_of_beq this.symm
      subst h34
      cases e : qoL r with
      | none => rw [tok_quo0 r e] at h; cases h
      | some z =>
        have hz := qo_le _ _ z (Nat.le_refl _) e
        rw [tok_quo r z e] at h
        cases h
        rw [tok_quo _ z (qo_app _ _ r z (Nat.le_refl _) e), List.take_append_of_le_length (by omega)]
    · by_cases h20 : cl c = 20
      · by_cases hd : dgL r = 0
        · rw [tok_til0 c r hB h20 hd] at h
          rw [tok_til0 c _ hB h20 (by rw [dg_app]; exact hd)]
          exact h
        · rw [tok_til c r hB h20 hd] at h
          rw [tok_til c _ hB h20 (by rw [dg_app]; exact hd), num_app]
          exact h
      · by_cases h18 : cl c = 18
        · by_cases hh : r.head? = some 61
          · obtain ⟨r', rfl⟩ : ∃ r', r = 61 :: r' := by
              cases r with
              | nil => cases hh
              | cons d r' => simp at hh; subst hh; exact ⟨r', rfl⟩
            rw [tok_const c _ hB h18 hh] at h
            show tokF (c :: 61 :: (r' ++ 32 :: q)) = _
            rw [tok_const c _ hB h18 rfl]
            show numT 19 2 (r' ++ 32 :: q) = _
            rw [num_app]
            exact h
          · rw [tok_boost c r hB h18 hh] at h
            rw [tok_boost c _ hB h18 (by
              cases r with
              | nil => exact fun x => by simp at x
              | cons d r' => exact hh), num_app]
            exact h
        · by_cases h21 : cl c = 21
          · rw [tok_least c r hB h21] at h
            rw [tok_least c _ hB h21, num_app]
            exact h
          · rw [tok_single c r hB h3 h20 h18 h21] at h
            rw [tok_single c _ hB h3 h20 h18 h21]
            exact h
def endT (k : Nat) : Lx := ⟨0, [], 0, k, k⟩
theorem sc_app : ∀ (f k : Nat) (r : List UInt8), r.length < f → (scF f k r).2 = none → ∃ A, (scF f k r).1 = A ++ [endT (k + r.length)] ∧ ∀ (q : List UInt8) (g : Nat), (r ++ 32 :: q).length < g → scF g k (r ++ 32 :: q) = cmL A (scF g (k + r.length + 1) q) := by
  intro f
  induction f with
  | zero => intro k r h; omega
  | succ f ih =>
    intro k r hf h
    cases r with
    | nil =>
      refine ⟨[], by rw [sc_nil]; rfl, fun q g hg => ?_⟩
      simp only [List.nil_append, List.length_cons] at hg
      obtain ⟨g', rfl⟩ : ∃ g', g = g' + 1 := ⟨g - 1, by omega⟩
      show scF (g' + 1) k (32 :: q) = _
      rw [sc_blank g' k 32 q cl_32, cm_nil]
      exact sc_fuel _ _ _ _ (by omega) (by omega)
    | cons c r =>
      simp only [List.length_cons] at hf
      by_cases hb : cl c = 101
      · rw [sc_blank f k c r hb] at h ⊢
        obtain ⟨A, h1, h2⟩ := ih (k + 1) r (by omega) h
        refine ⟨A, by rw [h1, List.length_cons, show k + 1 + r.length = k + (r.length + 1) by omega], fun q g hg => ?_⟩
        simp only [List.cons_append, List.length_cons] at hg
        obtain ⟨g', rfl⟩ : ∃ g', g = g' + 1 := ⟨g - 1, by omega⟩
        show scF (g' + 1) k (c :: (r ++ 32 :: q)) = _
        rw [sc_blank g' k c _ hb, h2 q g' (by omega), List.length_cons, show k + 1 + r.length + 1 = k + (r.length + 1) + 1 by omega]
        congr 1
        have : q.length < g' := by rw [List.length_append, List.length_cons] at hg; omega
        exact sc_fuel _ _ _ _ this (by omega)
      · cases ht : tokF (c :: r) with
        | none => rw [sc_bad f k c r hb ht] at h; cases h
        | some t =>
          have hz := tok_len _ t ht
          simp only [List.length_cons] at hz
          rw [sc_tok f k c r hb t ht] at h ⊢
          have h' : (scF f (k + t.z) ((c :: r).drop t.z)).2 = none := h
          obtain ⟨A, h1, h2⟩ := ih (k + t.z) _ (by rw [List.length_drop, List.length_cons]; omega) h'
          have el : k + t.z + ((c :: r).drop t.z).length = k + (c :: r).length := by rw [List.length_drop, List.length_cons]; omega
          rw [el] at h1 h2
          refine ⟨⟨t.k, t.t, t.n, k, k + t.z⟩ :: A, ?_, fun q g hg => ?_⟩
          · show [_] ++ (scF f (k + t.z) ((c :: r).drop t.z)).1 = _
            rw [h1]; rfl
          · have hg2 := hg
            simp only [List.cons_append, List.length_cons] at hg2
            obtain ⟨g', rfl⟩ : ∃ g', g = g' + 1 := ⟨g - 1, by omega⟩
            show scF (g' + 1) k (c :: (r ++ 32 :: q)) = _
            rw [sc_tok g' k c _ hb t (tok_app c r q t ht)]
            have ed : (c :: (r ++ 32 :: q)).drop t.z = (c :: r).drop t.z ++ 32 :: q := by
              show ((c :: r) ++ 32 :: q).drop t.z = _
              rw [List.drop_append_of_le_length (by rw [List.length_cons]; exact hz.2)]
            rw [ed, h2 q g' (by rw [List.length_append, List.length_drop, List.length_cons, List.length_cons]; rw [List.length_append, List.length_cons] at hg2; omega), cm_cm]
            show cmL (⟨t.k, t.t, t.n, k, k + t.z⟩ :: A) _ = _
            congr 1
            have : q.length < g' := by rw [List.length_append, List.length_cons] at hg2; omega
            exact sc_fuel _ _ _ _ this (by omega)
def shL (d : Nat) (x : Lx) : Lx := ⟨x.k, x.t, x.n, x.a + d, x.e + d⟩
theorem sc_shift (d : Nat) : ∀ (g k : Nat) (r : List UInt8), scF g (k + d) r = ((scF g k r).1.map (shL d), (scF g k r).2.map (· + d)) := by
  intro g
  induction g with
  | zero => intro k r; rw [scF, scF]; rfl
  | succ g ih =>
    intro k r
    cases r with
    | nil => rw [sc_nil, sc_nil]; rfl
    | cons c r =>
      by_cases hb : cl c = 101
      · rw [sc_blank g _ c r hb, sc_blank g _ c r hb, show k + d + 1 = k + 1 + d by omega, ih]
      · cases ht : tokF (c :: r) with
        | none => rw [sc_bad g _ c r hb ht, sc_bad g _ c r hb ht]; rfl
        | some t =>
          rw [sc_tok g _ c r hb t ht, sc_tok g _ c r hb t ht, show k + d + t.z = k + t.z + d by omega, ih]
          rfl
/-- The tokens of two texts with a space between. -/
theorem scan_beside (p q : List UInt8) (h : (scanF p).2 = none) : ∃ A, (scanF p).1 = A ++ [endT p.length] ∧ scanF (p ++ 32 :: q) = (A ++ (scanF q).1.map (shL (p.length + 1)), (scanF q).2.map (· + (p.length + 1))) := by
  obtain ⟨A, h1, h2⟩ := sc_app (p.length + 1) 0 p (by omega) h
  refine ⟨A, by rw [Nat.zero_add] at h1; exact h1, ?_⟩
  unfold scanF
  rw [h2 q _ (Nat.lt_succ_self _), show 0 + p.length + 1 = 0 + (p.length + 1) by omega, sc_shift]
  rw [sc_fuel _ (q.length + 1) 0 q (by rw [List.length_append, List.length_cons]; omega) (by omega)]
  rfl
end Go.Proofs.YtklocdifkcnchaaDoor
