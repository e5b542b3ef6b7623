import Derived.Test.YtklocdifkcnchaaDoorLyp
namespace Go.Proofs.YtklocdifkcnchaaDoor
open Go.ChangeShapes Go.WideShapes Go.ChangeAt Go.RowKit

theorem kdF_pos (s : List UInt8) : kdF s ≠ 0 := by
  unfold kdF rsv
  (repeat' split) <;> simp_all
theorem tok_kind (c : UInt8) (r : List UInt8) (t : Tk) (h : tokF (c :: r) = some t) : t.k ≠ 0 := by
  cases hB : isB c with
  | true =>
    cases e : rnL (c :: r) with
    | none => rw [tok_run0 c r hB e] at h; cases h
    | some z =>
      rw [tok_run c r hB z e] at h
      cases h
      exact kdF_pos _
  | false =>
    have hn := fun x => (show ¬ isB c = true by rw [hB]; decide) ((isB_iff c).2 x)
    rw [tokF, if_neg (by rw [hB]; decide)] at h
    split at h
    · obtain ⟨m, _, rfl⟩ := Option.map_eq_some_iff.1 h
      simp
    · split at h
      · split at h
        · cases h; simp
        · rw [numT_some h]; simp
      · split at h
        · split at h
          · rw [numT_some h]; simp
          · rw [numT_some h]; simp
        · split at h
          · rw [numT_some h]; simp
          · cases h
            exact fun x => hn (.inl x)
/-- The bytes of a token, scanned by themselves. -/
theorem scan_alone (c : UInt8) (r : List UInt8) (t : Tk) (hb : cl c ≠ 101) (h : tokF (c :: r) = some t) : scanF ((c :: r).take t.z) = ([⟨t.k, t.t, t.n, 0, t.z⟩, endT t.z], none) := by
  have hz := tok_len _ t h
  obtain ⟨m, hm⟩ : ∃ m, t.z = m + 1 := ⟨t.z - 1, by omega⟩
  have h2 := tok_take c r m t h (by omega)
  unfold scanF
  rw [hm]
  show scF ((c :: r.take m).length + 1) 0 (c :: r.take m) = _
  have hl : (c :: r.take m).length = t.z := by
    rw [List.length_cons, List.length_take]
    simp only [List.length_cons] at hz
    omega
  rw [sc_tok _ 0 c _ hb t h2, List.drop_of_length_le (by rw [hl]; exact Nat.le_refl _), hl, hm, sc_nil, Nat.zero_add]
  rfl
def blk (s : List UInt8) : Bool := s.all (fun c => cl c == 101)
/-- How the tokens cover a text from the place a on. -/
def Cov (l : List UInt8) : Nat → List Lx → Prop
  | _, [] => False
  | a, [x] => x = endT l.length ∧ a ≤ l.length ∧ blk ((l.drop a).take (l.length - a)) = true
  | a, x :: y :: M => a ≤ x.a ∧ x.a < x.e ∧ x.e ≤ l.length ∧ blk ((l.drop a).take (x.a - a)) = true ∧ x.k ≠ 0 ∧ scanF ((l.drop x.a).take (x.e - x.a)) = ([⟨x.k, x.t, x.n, 0, x.e - x.a⟩, endT (x.e - x.a)], none) ∧ Cov l x.e (y :: M)
theorem cov_of (l : List UInt8) : ∀ (f a k : Nat), l.length - k < f → a ≤ k → k ≤ l.length → blk ((l.drop a).take (k - a)) = true → (scF f k (l.drop k)).2 = none → Cov l a (scF f k (l.drop k)).1 := by
  intro f
  induction f with
  | zero => intro a k h; omega
  | succ f ih =>
    intro a k hf hak hk hbk h
    cases hd : l.drop k with
    | nil =>
      have hkl : k = l.length := by
        have := congrArg List.length hd
        rw [List.length_drop] at this
        simp at this
        omega
      rw [sc_nil]
      subst hkl
      exact ⟨rfl, hak, hbk⟩
    | cons c r =>
      obtain ⟨hklt, hd1⟩ := drop_next hd
      rw [hd] at h
      by_cases hb : cl c = 101
      · rw [sc_blank f k c r hb] at h ⊢
        rw [← hd1] at h ⊢
        refine ih a (k + 1) (by omega) (by omega) (by omega) ?_ h
        have e : (l.drop a).take (k + 1 - a) = (l.drop a).take (k - a) ++ [c] := by
          rw [show k + 1 - a = (k - a) + 1 by omega, List.take_succ_eq_append_getElem (by rw [List.length_drop]; omega), List.getElem_drop]
          congr 2
          rw [List.drop_eq_getElem_cons hklt] at hd
          have := (List.cons.inj hd).1
          rw [← this]
          congr 1
          omega
        rw [e, blk, List.all_append]
        show (blk ((l.drop a).take (k - a)) && _) = true
        rw [hbk]
        simp [hb]
      · cases ht : tokF (c :: r) with
        | none => rw [sc_bad f k c r hb ht] at h; cases h
        | some t =>
          have hz := tok_len _ t ht
          have hlr : (c :: r).length = l.length - k := by rw [← hd, List.length_drop]
          rw [hlr] at hz
          rw [sc_tok f k c r hb t ht] at h ⊢
          have hdz : (c :: r).drop t.z = l.drop (k + t.z) := by rw [← hd, List.drop_drop]
          rw [hdz] at h ⊢
          have h' : (scF f (k + t.z) (l.drop (k + t.z))).2 = none := h
          have hc := ih (k + t.z) (k + t.z) (by omega) (Nat.le_refl _) (by omega) (by rw [Nat.sub_self]; rfl) h'
          show Cov l a (⟨t.k, t.t, t.n, k, k + t.z⟩ :: (scF f (k + t.z) (l.drop (k + t.z))).1)
          cases hM : (scF f (k + t.z) (l.drop (k + t.z))).1 with
          | nil => rw [hM] at hc; exact hc.elim
          | cons y M =>
            rw [hM] at hc
            refine ⟨hak, by simp only; omega, by simp only; omega, hbk, tok_kind c r t ht, ?_, hc⟩
            have e : k + t.z - k = t.z := by omega
            simp only [e, hd]
            exact scan_alone c r t hb ht
theorem scan_cov (l : List UInt8) (h : (scanF l).2 = none) : Cov l 0 (scanF l).1 := by
  have := cov_of l (l.length + 1) 0 0 (by omega) (Nat.le_refl _) (by omega) (by rfl) (by rw [List.drop_zero]; exact h)
  rw [List.drop_zero] at this
  exact this
end Go.Proofs.YtklocdifkcnchaaDoor
