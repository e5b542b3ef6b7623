import Derived.Test.YtklocdifkcnchaaDoorLyi
namespace Go.Proofs.YtklocdifkcnchaaDoor
open Go.ChangeShapes Go.WideShapes Go.ChangeAt Go.RowKit

/-! A token stays where the text is cut behind it. -/
theorem rn_take : ∀ (n : Nat) (r : List UInt8) (m z : Nat), r.length ≤ n → rnL r = some z → z ≤ m → rnL (r.take m) = some z := by
  intro n
  induction n with
  | zero =>
    intro r m z h e hm
    cases r with
    | nil => rw [List.take_nil]; exact e
    | cons c r => simp at h
  | succ n ih =>
    intro r m z h e hm
    cases r with
    | nil => rw [List.take_nil]; exact e
    | cons c r =>
      simp only [List.length_cons] at h
      by_cases h2 : c = 92
      · subst h2
        cases r with
        | nil => rw [rn_lone] at e; cases e
        | cons d r =>
          rw [rn_esc] at e
          obtain ⟨x, hx, rfl⟩ := Option.map_eq_some_iff.1 e
          simp only [List.length_cons] at h
          obtain ⟨m2, rfl⟩ : ∃ m2, m = m2 + 2 := ⟨m - 2, by omega⟩
          show rnL (92 :: d :: r.take m2) = _
          rw [rn_esc, ih r m2 x (by omega) hx (by omega)]; rfl
      · by_cases hR : isR c = true
        · rw [rn_run c r hR] at e
          obtain ⟨x, hx, rfl⟩ := Option.map_eq_some_iff.1 e
          obtain ⟨m2, rfl⟩ : ∃ m2, m = m2 + 1 := ⟨m - 1, by omega⟩
          show rnL (c :: r.take m2) = _
          rw [rn_run c _ hR, ih r m2 x (by omega) hx (by omega)]; rfl
        · have hR2 : isR c = false := by simpa using hR
          rw [rn_end c r hR2 h2] at e
          cases e
          cases m with
          | zero => exact rn_nil
          | succ m2 =>
            show rnL (c :: r.take m2) = _
            rw [rn_end c _ hR2 h2]
theorem qo_take : ∀ (n : Nat) (r : List UInt8) (m z : Nat), r.length ≤ n → qoL r = some z → z ≤ m → qoL (r.take m) = some z := by
  intro n
  induction n with
  | zero =>
    intro r m z h e hm
    cases r with
    | nil => rw [List.take_nil]; exact e
    | cons c r => simp at h
  | succ n ih =>
    intro r m z h e hm
    cases r with
    | nil => rw [List.take_nil]; exact e
    | cons c r =>
      simp only [List.length_cons] at h
      by_cases h1 : c = 34
      · subst h1
        rw [qo_end] at e
        cases e
        obtain ⟨m2, rfl⟩ : ∃ m2, m = m2 + 1 := ⟨m - 1, by omega⟩
        show qoL (34 :: r.take m2) = _
        rw [qo_end]
      · by_cases h2 : c = 92
        · subst h2
          cases r with
          | nil => rw [qo_lone] at e; cases e
          | cons d r =>
            rw [qo_esc] at e
            obtain ⟨x, hx, rfl⟩ := Option.map_eq_some_iff.1 e
            simp only [List.length_cons] at h
            obtain ⟨m2, rfl⟩ : ∃ m2, m = m2 + 2 := ⟨m - 2, by omega⟩
            show qoL (92 :: d :: r.take m2) = _
            rw [qo_esc, ih r m2 x (by omega) hx (by omega)]; rfl
        · rw [qo_oth c r h1 h2] at e
          obtain ⟨x, hx, rfl⟩ := Option.map_eq_some_iff.1 e
          obtain ⟨m2, rfl⟩ : ∃ m2, m = m2 + 1 := ⟨m - 1, by omega⟩
          show qoL (c :: r.take m2) = _
          rw [qo_oth c _ h1 h2, ih r m2 x (by omega) hx (by omega)]; rfl
theorem dg_take (r : List UInt8) : ∀ (m : Nat), dgL r ≤ m → dgL (r.take m) = dgL r := by
  induction r with
  | nil => intro m _; rw [List.take_nil]
  | cons c r ih =>
    intro m h
    by_cases hc : cl c = 102
    · rw [dg_yes c r hc] at h ⊢
      obtain ⟨m2, rfl⟩ : ∃ m2, m = m2 + 1 := ⟨m - 1, by omega⟩
      show dgL (c :: r.take m2) = _
      rw [dg_yes c _ hc, ih m2 (by omega)]
    · rw [dg_no c r hc]
      cases m with
      | zero => rfl
      | succ m2 => show dgL (c :: r.take m2) = _; rw [dg_no c _ hc]
theorem nm_take (r : List UInt8) : ∀ (m v : Nat), dgL r ≤ m → nmV v (r.take m) = nmV v r := by
  induction r with
  | nil => intro m v _; rw [List.take_nil]
  | cons c r ih =>
    intro m v h
    by_cases hc : cl c = 102
    · rw [dg_yes c r hc] at h
      obtain ⟨m2, rfl⟩ : ∃ m2, m = m2 + 1 := ⟨m - 1, by omega⟩
      show nmV v (c :: r.take m2) = _
      rw [nm_yes v c _ hc, nm_yes v c r hc, ih m2 _ (by omega)]
    · rw [nm_no v c r hc]
      cases m with
      | zero => rw [List.take_zero, nmV]
      | succ m2 => show nmV v (c :: r.take m2) = _; rw [nm_no v c _ hc]
theorem num_take {k m0 m : Nat} {r : List UInt8} {t : Tk} (h : numT k m0 r = some t) (hm : t.z ≤ m0 + m) : numT k m0 (r.take m) = some t := by
  have e := numT_some h
  have hz : dgL r ≤ m := by rw [e] at hm; simp only at hm; omega
  unfold numT at h ⊢
  rw [dg_take r m hz, nm_take r m 0 hz]
  exact h
theorem tok_take (c : UInt8) (r : List UInt8) (m : Nat) (t : Tk) (h : tokF (c :: r) = some t) (hm : t.z ≤ m + 1) : tokF (c :: r.take m) = some t := by
  cases hB : isB c with
  | true =>
    cases e : rnL (c :: r) with
    | none => rw [tok_run0 c r hB e] at h; cases h
    | some z =>
      rw [tok_run c r hB z e] at h
      cases h
      simp only at hm
      have e2 : rnL (c :: r.take m) = some z := rn_take _ (c :: r) (m + 1) z (Nat.le_refl _) e hm
      rw [tok_run c _ hB z e2]
      have e3 : (c :: r.take m).take z = (c :: r).take z := by
        show ((c :: r).take (m + 1)).take z = _
        rw [List.take_take, Nat.min_eq_left hm]
      rw [e3]
  | false =>
    by_cases h3 : cl c = 3
    · have h34 : c = 34 := by
        have := cl_quo c
        rw [h3] at this
        exact eq_of_beq this.symm
      subst h34
      cases e : qoL r with
      | none => rw [tok_quo0 r e] at h; cases h
      | some z =>
        rw [tok_quo r z e] at h
        cases h
        simp only at hm
        rw [tok_quo _ z (qo_take _ r m z (Nat.le_refl _) e (by omega)), List.take_take, Nat.min_eq_left (by omega)]
    · by_cases h20 : cl c = 20
      · by_cases hd : dgL r = 0
        · rw [tok_til0 c r hB h20 hd] at h
          rw [tok_til0 c _ hB h20 (by rw [dg_take r m (by omega)]; exact hd)]
          exact h
        · rw [tok_til c r hB h20 hd] at h
          have hz := numT_some h
          have hz2 : dgL r ≤ m := by rw [hz] at hm; simp only at hm; omega
          rw [tok_til c _ hB h20 (by rw [dg_take r m hz2]; exact hd)]
          exact num_take h (by omega)
      · by_cases h18 : cl c = 18
        · by_cases hh : r.head? = some 61
          · obtain ⟨r', rfl⟩ : ∃ r', r = 61 :: r' := by
              cases r with
              | nil => cases hh
              | cons d r' => simp at hh; subst hh; exact ⟨r', rfl⟩
            rw [tok_const c _ hB h18 hh] at h
            have hz := numT_some h
            have hz2 : 1 ≤ m := by rw [hz] at hm; simp only at hm; omega
            obtain ⟨m2, rfl⟩ : ∃ m2, m = m2 + 1 := ⟨m - 1, by omega⟩
            show tokF (c :: 61 :: r'.take m2) = _
            rw [tok_const c _ hB h18 rfl]
            exact num_take (r := r') h (by omega)
          · rw [tok_boost c r hB h18 hh] at h
            have hz := numT_some h
            have hp : 0 < dgL r := by
              unfold numT at h
              split at h
              · rename_i q; exact q.1
              · cases h
            have hz2 : 1 ≤ m := by rw [hz] at hm; simp only at hm; omega
            rw [tok_boost c _ hB h18 (by
              cases r with
              | nil => rw [List.take_nil]; exact hh
              | cons d r' => obtain ⟨m2, rfl⟩ : ∃ m2, m = m2 + 1 := ⟨m - 1, by omega⟩; exact hh)]
            exact num_take h (by omega)
        · by_cases h21 : cl c = 21
          · rw [tok_least c r hB h21] at h
            rw [tok_least c _ hB h21]
            exact num_take h (by omega)
          · rw [tok_single c r hB h3 h20 h18 h21] at h
            rw [tok_single c _ hB h3 h20 h18 h21]
            exact h
/-- Where a fault is. -/
theorem scf_fault : ∀ (g k : Nat) (r : List UInt8) (f : Nat), r.length < g → (scF g k r).2 = some f → k ≤ f ∧ (∃ c s, r.drop (f - k) = c :: s ∧ cl c ≠ 101 ∧ tokF (c :: s) = none) ∧ (scF g k (r.take (f - k))).2 = none := by
  intro g
  induction g with
  | zero => intro k r f h; omega
  | succ g ih =>
    intro k r f hg h
    cases r with
    | nil => rw [sc_nil] at h; cases h
    | cons c r =>
      simp only [List.length_cons] at hg
      by_cases hb : cl c = 101
      · rw [sc_blank g k c r hb] at h
        obtain ⟨h1, ⟨c', s, h2, h3, h4⟩, h5⟩ := ih (k + 1) r f (by omega) h
        have e : f - k = (f - (k + 1)) + 1 := by omega
        refine ⟨by omega, ⟨c', s, by rw [e]; exact h2, h3, h4⟩, ?_⟩
        rw [e]
        show (scF (g + 1) k (c :: r.take (f - (k + 1)))).2 = none
        rw [sc_blank g k c _ hb]
        exact h5
      · cases ht : tokF (c :: r) with
        | none =>
          rw [sc_bad g k c r hb ht] at h
          cases h
          refine ⟨Nat.le_refl _, ⟨c, r, by rw [Nat.sub_self]; rfl, hb, ht⟩, ?_⟩
          rw [Nat.sub_self, List.take_zero, sc_nil]
        | some t =>
          have hz := tok_len _ t ht
          simp only [List.length_cons] at hz
          rw [sc_tok g k c r hb t ht] at h
          have h' : (scF g (k + t.z) ((c :: r).drop t.z)).2 = some f := h
          obtain ⟨h1, ⟨c', s, h2, h3, h4⟩, h5⟩ := ih (k + t.z) _ f (by rw [List.length_drop, List.length_cons]; omega) h'
          have e : f - k = (f - (k + t.z)) + t.z := by omega
          refine ⟨by omega, ⟨c', s, ?_, h3, h4⟩, ?_⟩
          · rw [← h2, List.drop_drop]; congr 1; omega
          · obtain ⟨y, hy⟩ : ∃ y, f - k = y + 1 := ⟨f - k - 1, by omega⟩
            rw [hy]
            show (scF (g + 1) k (c :: r.take y)).2 = none
            rw [sc_tok g k c _ hb t (tok_take c r y t ht (by omega))]
            show (scF g (k + t.z) ((c :: r.take y).drop t.z)).2 = none
            have e2 : (c :: r.take y).drop t.z = ((c :: r).drop t.z).take (f - (k + t.z)) := by
              show ((c :: r).take (y + 1)).drop t.z = _
              rw [← hy, List.drop_take]
              congr 1
              omega
            rw [e2]
            exact h5
/-- What is ahead of a fault, and from it on. -/
theorem scan_fault (l : List UInt8) (f : Nat) (h : (scanF l).2 = some f) : f < l.length ∧ (∀ hf : f < l.length, cl l[f] ≠ 101) ∧ (scanF (l.take f)).2 = none ∧ (scanF (l.drop f)).2 = some 0 := by
  obtain ⟨_, ⟨c, s, h2, h3, h4⟩, h5⟩ := scf_fault (l.length + 1) 0 l f (by omega) h
  rw [Nat.sub_zero] at h2 h5
  obtain ⟨hf, hd⟩ := drop_next h2
  refine ⟨hf, fun hf => ?_, ?_, ?_⟩
  · rw [List.drop_eq_getElem_cons hf] at h2
    rw [(List.cons.inj h2).1]
    exact h3
  · unfold scanF
    rw [sc_fuel _ (l.length + 1) 0 _ (by omega) (by rw [List.length_take]; omega)]
    exact h5
  · unfold scanF
    rw [h2]
    rw [sc_bad _ 0 c s h3 h4]
theorem ex_live : scanF [97, 32, 45, 98] = ([⟨1, [97], 0, 0, 1⟩, ⟨16, [], 0, 2, 3⟩, ⟨1, [98], 0, 3, 4⟩, ⟨0, [], 0, 4, 4⟩], none) := by kernel_rfl
theorem ex_dead : scanF [97, 32, 94] = ([⟨1, [97], 0, 0, 1⟩], some 2) := by kernel_rfl
theorem cl_blank (c : UInt8) : (cl c == 101) = (c == 32 || c == 9 || c == 10 || c == 13) := by
  have := u8_all (fun c => (cl c == 101) == (c == 32 || c == 9 || c == 10 || c == 13)) (by decide +kernel) c
  simpa using this
end Go.Proofs.YtklocdifkcnchaaDoor
