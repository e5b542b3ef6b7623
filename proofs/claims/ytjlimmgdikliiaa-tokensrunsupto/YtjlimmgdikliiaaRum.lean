import Derived.Test.YtjlimmgdikliiaaSam
namespace Go.Proofs.Ytjlimmgdikliiaa
open Go.RowKit

theorem wb_39 : wb 39 = false := by decide
theorem wb_46 : wb 46 = false := by decide
theorem dg_wb (c : UInt8) (h : isDg c = true) : wb c = true := by unfold wb; rw [h]; simp
theorem mk_wb {a c b : UInt8} (h : mk a c b = true) : wb a = true ∧ wb b = true ∧ wb c = false := by
  unfold mk at h
  rw [Bool.or_eq_true] at h
  rcases h with h | h
  · rw [Bool.and_eq_true, Bool.and_eq_true, beq_iff_eq] at h
    exact ⟨h.2.1, h.2.2, by rw [h.1]; exact wb_39⟩
  · rw [Bool.and_eq_true, Bool.and_eq_true, beq_iff_eq] at h
    exact ⟨dg_wb _ h.2.1, dg_wb _ h.2.2, by rw [h.1]; exact wb_46⟩
theorem inw_wb {l : List UInt8} {k : Nat} (h : wb (l.getD k 0) = true) : inw l k = true := by unfold inw; rw [h]; rfl
theorem not_wb {l : List UInt8} {k : Nat} (h : inw l k = false) : wb (l.getD k 0) = false := by
  cases hq : wb (l.getD k 0) with
  | false => rfl
  | true => rw [inw_wb hq] at h; cases h
theorem inw_mk {l : List UInt8} {k : Nat} (h : inw l k = true) (hn : wb (l.getD k 0) = false) : 0 < k ∧ k + 1 < l.length ∧ mk (l.getD (k - 1) 0) (l.getD k 0) (l.getD (k + 1) 0) = true := by
  unfold inw at h
  rw [hn, Bool.false_or, Bool.and_eq_true, Bool.and_eq_true, decide_eq_true_eq, decide_eq_true_eq] at h
  exact ⟨h.1.1, h.1.2, h.2⟩
/-- All of a word stands in it; behind it nothing does. -/
theorem wE_all (l : List UInt8) (d k : Nat) (hd : l.length - k ≤ d) : ∀ j, k ≤ j → j < wE l k → inw l j = true := by
  induction d generalizing k with
  | zero =>
    intro j h1 h2
    rw [wE_stop l k (fun h => by omega)] at h2
    omega
  | succ d ih =>
    intro j h1 h2
    by_cases hi : k < l.length ∧ inw l k = true
    · by_cases e : j = k
      · rw [e]; exact hi.2
      · rw [wE_step l k hi.1 hi.2] at h2
        exact ih (k + 1) (by omega) j (by omega) h2
    · rw [wE_stop l k hi] at h2; omega
theorem wE_off (l : List UInt8) (d k : Nat) (hd : l.length - k ≤ d) (hk : k ≤ l.length) : wE l k < l.length → inw l (wE l k) = false := by
  induction d generalizing k with
  | zero => intro h; have := wend_ge l (l.length - k) k; unfold wE at h; omega
  | succ d ih =>
    intro h
    by_cases hi : k < l.length ∧ inw l k = true
    · rw [wE_step l k hi.1 hi.2] at h ⊢
      exact ih (k + 1) (by omega) (by omega) h
    · rw [wE_stop l k hi] at h ⊢
      cases hq : inw l k with
      | false => rfl
      | true => exact absurd ⟨h, hq⟩ hi
/-- What holds of a word that begins at s, where nothing ahead of it from a on stands in a word. -/
structure Wrd (l : List UInt8) (a s e : Nat) : Prop where
  le : a ≤ s
  lt : s < e
  len : e ≤ l.length
  gap : ∀ j, a ≤ j → j < s → wb (l.getD j 0) = false
  fst : wb (l.getD s 0) = true
  lst : wb (l.getD (e - 1) 0) = true
  alone : words (wtx l (s, e)) = [(0, e - s)]
  off : e < l.length → inw l e = false
theorem wtx_len {l : List UInt8} {s e : Nat} (h : e ≤ l.length) : (wtx l (s, e)).length = e - s := by
  unfold wtx; rw [List.length_take, List.length_drop]; simp only; omega
theorem wtx_at {l : List UInt8} {s e j : Nat} (hj : j < e - s) : (wtx l (s, e)).getD j 0 = l.getD (s + j) 0 := by
  unfold wtx
  rw [List.getD_eq_getElem?_getD, List.getElem?_take, if_pos hj, List.getElem?_drop, List.getD_eq_getElem?_getD]
theorem alone_of (l : List UInt8) (h0 : 0 < l.length) (h : ∀ j, j < l.length → inw l j = true) : words l = [(0, l.length)] := by
  have hE : ∀ d k, l.length - k ≤ d → k ≤ l.length → wE l k = l.length := by
    intro d
    induction d with
    | zero => intro k h1 h2; rw [wE_stop l k (fun h => by omega)]; omega
    | succ d ih =>
      intro k h1 h2
      by_cases hk : k < l.length
      · rw [wE_step l k hk (h k hk)]; exact ih (k + 1) (by omega) (by omega)
      · rw [wE_stop l k (fun h => hk h.1)]; omega
  rw [words_F, wF_in l 0 h0 (h 0 h0), hE l.length 0 (by omega) (by omega), wF_end l l.length (Nat.le_refl _)]
theorem wrd_of (l : List UInt8) (a s : Nat) (ha : a ≤ s) (hs : s < l.length) (hi : inw l s = true) (hg : ∀ j, a ≤ j → j < s → inw l j = false) (h0 : a = s → s = 0) : Wrd l a s (wE l s) := by
  have hgt := wE_gt l s hs hi
  have hle := wE_le l s (by omega)
  have hall := wE_all l (l.length - s) s (Nat.le_refl _)
  have hoff := wE_off l (l.length - s) s (Nat.le_refl _) (by omega)
  have hf : wb (l.getD s 0) = true := by
    cases hq : wb (l.getD s 0) with
    | true => rfl
    | false =>
      obtain ⟨h1, h2, h3⟩ := inw_mk hi hq
      have h4 := inw_wb (k := s - 1) (mk_wb h3).1
      by_cases e : a = s
      · have := h0 e; omega
      · rw [hg (s - 1) (by omega) (by omega)] at h4; cases h4
  have hl : wb (l.getD (wE l s - 1) 0) = true := by
    cases hq : wb (l.getD (wE l s - 1) 0) with
    | true => rfl
    | false =>
      obtain ⟨h1, h2, h3⟩ := inw_mk (hall (wE l s - 1) (by omega) (by omega)) hq
      have h4 := inw_wb (k := wE l s - 1 + 1) (mk_wb h3).2.1
      rw [show wE l s - 1 + 1 = wE l s by omega] at h4
      rw [hoff (by omega)] at h4; cases h4
  refine ⟨ha, hgt, hle, fun j h1 h2 => not_wb (hg j h1 h2), hf, hl, ?_, hoff⟩
  · have e := alone_of (wtx l (s, wE l s)) (by rw [wtx_len hle]; omega) (fun j hj => ?_)
    · rw [wtx_len hle] at e; exact e
    · rw [wtx_len hle] at hj
      have hin := hall (s + j) (by omega) (by omega)
      cases hq : wb (l.getD (s + j) 0) with
      | true => exact inw_wb (by rw [wtx_at hj]; exact hq)
      | false =>
        obtain ⟨h1, h2, h3⟩ := inw_mk hin hq
        have j0 : j ≠ 0 := by rintro rfl; rw [Nat.add_zero, hf] at hq; cases hq
        have j1 : j + 1 ≠ wE l s - s := by
          intro h
          rw [show wE l s - 1 = s + j by omega, hq] at hl; cases hl
        unfold inw
        rw [wtx_at hj, wtx_at (by omega), wtx_at (by omega), wtx_len hle, decide_eq_true (by omega : 0 < j), decide_eq_true (by omega : j + 1 < wE l s - s), show s + (j - 1) = s + j - 1 by omega, show s + (j + 1) = s + j + 1 by omega, h3]
        simp
/-- The words one behind the other, from the place a on; 'first': none has been told yet. -/
inductive Wrds (l : List UInt8) : Nat → Bool → List (Nat × Nat) → Prop
  | nil (a : Nat) (f : Bool) (h : ∀ j, a ≤ j → j < l.length → wb (l.getD j 0) = false) : Wrds l a f []
  | cons (a s e : Nat) (f : Bool) (r : List (Nat × Nat)) (h : Wrd l a s e) (hf : f = false → a < s) (t : Wrds l e false r) : Wrds l a f ((s, e) :: r)
theorem wrds_from (l : List UInt8) (d a k : Nat) (f : Bool) (hd : l.length - k ≤ d) (hak : a ≤ k) (hkl : k ≤ l.length) (hg : ∀ j, a ≤ j → j < k → inw l j = false) (hf : f = true → a = 0) (hff : f = false → a < l.length → inw l a = false) : Wrds l a f (wF l k) := by
  induction d generalizing a k f with
  | zero =>
    rw [wF_end l k (by omega)]
    exact .nil a f (fun j h1 h2 => not_wb (hg j h1 (by omega)))
  | succ d ih =>
    by_cases hk : k < l.length
    · cases hi : inw l k with
      | false =>
        rw [wF_out l k hk hi]
        refine ih a (k + 1) f (by omega) (by omega) (by omega) (fun j h1 h2 => ?_) hf hff
        by_cases e : j = k
        · rw [e]; exact hi
        · exact hg j h1 (by omega)
      | true =>
        have hgt := wE_gt l k hk hi
        have hle := wE_le l k (by omega)
        rw [wF_in l k hk hi]
        have hne : f = false → a < k := fun h => by
          rcases Nat.lt_or_ge a k with h1 | h1
          · exact h1
          · have : a = k := by omega
            rw [← this] at hi hk
            rw [hff h hk] at hi; cases hi
        refine .cons a k _ f _ (wrd_of l a k hak hk hi hg (fun e => ?_)) hne ?_
        · cases f with
          | true => have := hf rfl; omega
          | false => have := hne rfl; omega
        · exact ih (wE l k) (wE l k) false (by omega) (Nat.le_refl _) hle (fun j h1 h2 => by omega) (fun h => by cases h) (fun _ => wE_off l (l.length - k) k (Nat.le_refl _) (by omega))
    · rw [wF_end l k (by omega)]
      exact .nil a f (fun j h1 h2 => not_wb (hg j h1 (by omega)))
theorem words_wrds (l : List UInt8) : Wrds l 0 true (words l) := by
  rw [words_F]
  exact wrds_from l l.length 0 0 true (by omega) (Nat.le_refl _) (Nat.zero_le _) (fun j h1 h2 => by omega) (fun _ => rfl) (fun h => by cases h)
end Go.Proofs.Ytjlimmgdikliiaa
