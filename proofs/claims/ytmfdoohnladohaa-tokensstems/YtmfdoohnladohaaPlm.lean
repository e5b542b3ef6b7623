import Derived.Test.YtmfdoohnladohaaStm
namespace Go.Proofs.Ytmfdoohnladohaa
open Go.RowKit

theorem meas_ne {l : List UInt8} (h : 0 < meas l) : l ≠ [] := by
  rintro rfl
  exact absurd h (by decide)
theorem hasV_ne {l : List UInt8} (h : hasV l = true) : l ≠ [] := by
  rintro rfl
  exact absurd h (by decide)
theorem lk_mem {T : Tbl} {e t : List UInt8} (h : lk T e = some t) : (e, t) ∈ T := by
  unfold lk at h
  obtain ⟨p, hp, rfl⟩ := Option.map_eq_some_iff.1 h
  have h1 := List.find?_some hp
  have h2 : p.1 = e := eq_of_beq h1
  rw [← h2]
  exact List.mem_of_find?_eq_some hp
theorem repK_ne (T : Tbl) (m : Nat) (l : List UInt8) (hl : l ≠ []) (hT : ∀ p ∈ T, p.2 = [] → m = 0 → p.1.length < l.length) (k : Nat) : repK T m l k ≠ [] := by
  induction k with
  | zero => exact hl
  | succ k ih =>
    unfold repK
    split
    · rename_i hk
      split
      · rename_i t ht
        split
        · exact hl
        · rename_i hm
          intro he
          obtain ⟨e1, e2⟩ := List.append_eq_nil_iff.1 he
          by_cases h0 : m = 0
          · have := hT _ (lk_mem ht) e2 h0
            simp only [List.length_drop] at this
            have h1 := congrArg List.length e1
            rw [List.length_take, List.length_nil] at h1
            omega
          · exact absurd e1 (meas_ne (by omega))
      · exact ih
    · exact ih
theorem rep1_ne (l : List UInt8) (h : 2 ≤ l.length) : rep tb1 0 l ≠ [] := by
  refine repK_ne tb1 0 l (by rintro rfl; simp at h) (fun p hp he _ => ?_) 7
  have q : ∀ p ∈ tb1, p.2 = [] → p.1.length ≤ 1 := by decide +kernel
  have := q p hp he
  omega
theorem repm_ne (T : Tbl) (m : Nat) (hm : 0 < m) (l : List UInt8) (h : l ≠ []) : rep T m l ≠ [] := repK_ne T m l h (fun _ _ _ e => by omega) 7
theorem len_ne {l : List UInt8} (h : 1 ≤ l.length) : l ≠ [] := by rintro rfl; simp at h
theorem ne_len {l : List UInt8} (h : l ≠ []) : 1 ≤ l.length := by cases l with
  | nil => exact absurd rfl h
  | cons a l => simp
theorem mend_ne (l : List UInt8) (h : l ≠ []) : mend l ≠ [] := by
  unfold mend
  split
  · simp
  · split
    · rename_i hd
      rw [Bool.and_eq_true] at hd
      have h1 := hd.1
      unfold dbl at h1
      rw [Bool.and_eq_true, Bool.and_eq_true, decide_eq_true_eq] at h1
      exact len_ne (by rw [List.length_take]; omega)
    · split
      · simp
      · exact h
theorem st1b_ne (l : List UInt8) (h : l ≠ []) : st1b l ≠ [] := by
  unfold st1b
  split
  · split
    · simp
    · exact h
  · split
    · split
      · rename_i hv; exact mend_ne _ (hasV_ne hv)
      · exact h
    · split
      · split
        · rename_i hv; exact mend_ne _ (hasV_ne hv)
        · exact h
      · exact h
theorem st1c_ne (l : List UInt8) (h : l ≠ []) : st1c l ≠ [] := by
  unfold st1c
  split
  · simp
  · exact h
theorem st4_ne (l : List UInt8) (h : l ≠ []) : st4 l ≠ [] := by
  unfold st4
  split
  · exact h
  · exact repm_ne tb4 2 (by decide) l h
theorem st5a_ne (l : List UInt8) (h : l ≠ []) : st5a l ≠ [] := by
  unfold st5a
  split
  · split
    · rename_i hc
      rw [Bool.or_eq_true, Bool.and_eq_true, decide_eq_true_eq, decide_eq_true_eq] at hc
      exact meas_ne (by omega)
    · exact h
  · exact h
theorem st5b_ne (l : List UInt8) (h : l ≠ []) : st5b l ≠ [] := by
  unfold st5b
  split
  · rename_i hc
    rw [Bool.and_eq_true] at hc
    have := sfx_le hc.1
    simp only [List.length_cons, List.length_nil] at this
    exact len_ne (by rw [List.length_take]; omega)
  · exact h
def aft (l : List UInt8) : List UInt8 := st5b (st5a (st4 (rep tb3 1 (rep tb2 1 (st1c (st1b l))))))
theorem short_aft (l : List UInt8) : short l = aft (rep tb1 0 l) := rfl
theorem aft_ne (l : List UInt8) (h : l ≠ []) : aft l ≠ [] :=
  st5b_ne _ (st5a_ne _ (st4_ne _ (repm_ne tb3 1 (by decide) _ (repm_ne tb2 1 (by decide) _ (st1c_ne _ (st1b_ne _ h))))))
theorem posx_ne (l : List UInt8) (h : l ≠ []) : posx l ≠ [] := by
  unfold posx
  split
  · unfold Lib.trimSuffix
    split
    · exact len_ne (by rw [List.length_take]; simp only [List.length_cons, List.length_nil]; omega)
    · exact h
  · exact h
theorem stem_ne (l : List UInt8) (h : l ≠ []) : stem l ≠ [] := by
  unfold stem
  split
  · rename_i h3
    rw [short_aft]
    exact aft_ne _ (rep1_ne _ (by omega))
  · exact posx_ne l h
theorem stem_nil : stem [] = [] := by decide +kernel
theorem stem_empty (l : List UInt8) : (stem l = []) ↔ (l = []) := by
  constructor
  · intro h
    by_cases e : l = []
    · exact e
    · exact absurd h (stem_ne l e)
  · rintro rfl; exact stem_nil
theorem sfx_app (l e : List UInt8) : sfx (l ++ e) e = true := List.isSuffixOf_iff_suffix.2 ⟨l, rfl⟩
theorem small_no (l : List UInt8) (h : l.all isSm = true) (c : UInt8) (hc : isSm c = false) (e : List UInt8) (he : c ∈ e) : sfx l e = false := by
  cases hs : sfx l e with
  | false => rfl
  | true =>
    obtain ⟨t, rfl⟩ := List.isSuffixOf_iff_suffix.1 hs
    rw [List.all_eq_true] at h
    have := h c (List.mem_append_right _ he)
    rw [hc] at this; cases this
theorem posx_small (l : List UInt8) (h : l.all isSm = true) : posx l = l := by
  unfold posx
  rw [trim_no (small_no l h 39 (by decide) _ (by decide))]
  split <;> rfl
theorem stem_small (l : List UInt8) (h : l.all isSm = true) (h3 : 3 ≤ l.length) : stem l = short l := by
  unfold stem
  rw [posx_small l h, if_pos ⟨h3, h⟩]
theorem stem_few (l : List UInt8) (h : l.length < 3) : stem l = l := by
  unfold stem posx
  rw [if_neg (by omega : ¬ 2 < l.length), if_neg (by omega)]
theorem stem_own (l : List UInt8) (h : l.all isSm = true) (h3 : 3 ≤ l.length) : stem (l ++ [39, 115]) = stem l := by
  have e : posx (l ++ [39, 115]) = l := by
    unfold posx
    rw [if_pos (by rw [List.length_append]; simp only [List.length_cons, List.length_nil]; omega), trim_yes (sfx_app l _)]
    unfold cutE
    rw [List.length_append, Nat.add_sub_cancel, List.take_left]
  unfold stem
  rw [e, posx_small l h]
theorem repK_none (T : Tbl) (m : Nat) (l : List UInt8) (h : ∀ r, lk T (l.drop r) = none) (k : Nat) : repK T m l k = l := by
  induction k with
  | zero => rfl
  | succ k ih =>
    unfold repK
    split
    · rw [h]; exact ih
    · exact ih
theorem drop_sfx (l : List UInt8) (r : Nat) : sfx l (l.drop r) = true := List.isSuffixOf_iff_suffix.2 (List.drop_suffix r l)
theorem sfx_trans {a b c : List UInt8} (h1 : sfx a b = true) (h2 : sfx b c = true) : sfx a c = true :=
  List.isSuffixOf_iff_suffix.2 ((List.isSuffixOf_iff_suffix.1 h2).trans (List.isSuffixOf_iff_suffix.1 h1))
theorem rep1_stay (l : List UInt8) (h : sfx l [115] = false) : rep tb1 0 l = l := by
  refine repK_none tb1 0 l (fun r => ?_) 7
  cases hq : lk tb1 (l.drop r) with
  | none => rfl
  | some t =>
    have q : ∀ p ∈ tb1, sfx p.1 [115] = true := by decide +kernel
    have := sfx_trans (drop_sfx l r) (q _ (lk_mem hq))
    rw [h] at this; cases this
theorem sfx_snoc {l q : List UInt8} {c : UInt8} (h : sfx (l ++ [c]) (q ++ [c]) = true) : sfx l q = true := by
  obtain ⟨t, ht⟩ := List.isSuffixOf_iff_suffix.1 h
  rw [← List.append_assoc] at ht
  exact List.isSuffixOf_iff_suffix.2 ⟨t, (List.append_inj' ht rfl).1⟩
theorem rep1_s (l : List UInt8) (h1 : sfx l [115] = false) (h2 : sfx l [105, 101] = false) (h3 : sfx l [115, 115, 101] = false) : rep tb1 0 (l ++ [115]) = l := by
  have hn : ∀ k, k + 2 ≤ (l ++ [115]).length → lk tb1 ((l ++ [115]).drop ((l ++ [115]).length - (k + 2))) = none := fun k hk => by
    cases hq : lk tb1 ((l ++ [115]).drop ((l ++ [115]).length - (k + 2))) with
    | none => rfl
    | some t =>
      have q : ∀ p ∈ tb1, p.1.length < 2 ∨ p.1 = [115] ++ [115] ∨ p.1 = [105, 101] ++ [115] ∨ p.1 = [115, 115, 101] ++ [115] := by decide +kernel
      have hm := q _ (lk_mem hq)
      have hs := drop_sfx (l ++ [115]) ((l ++ [115]).length - (k + 2))
      simp only at hm
      rcases hm with hm | hm | hm | hm
      · rw [List.length_drop] at hm; omega
      · rw [hm] at hs; rw [sfx_snoc hs] at h1; cases h1
      · rw [hm] at hs; rw [sfx_snoc hs] at h2; cases h2
      · rw [hm] at hs; rw [sfx_snoc hs] at h3; cases h3
  have h0 : repK tb1 0 (l ++ [115]) 1 = l := by
    show (if 0 + 1 ≤ (l ++ [115]).length then _ else _) = _
    rw [if_pos (by rw [List.length_append]; simp only [List.length_cons, List.length_nil]; omega)]
    have e1 : (l ++ [115]).length - (0 + 1) = l.length := by rw [List.length_append]; rfl
    rw [e1, List.drop_left, List.take_left]
    show (if meas l < 0 then _ else l ++ []) = l
    rw [if_neg (Nat.not_lt_zero _), List.append_nil]
  have hk : ∀ k, repK tb1 0 (l ++ [115]) (k + 1) = l := fun k => by
    induction k with
    | zero => exact h0
    | succ k ih =>
      show (if k + 1 + 1 ≤ (l ++ [115]).length then _ else _) = _
      split
      · rename_i hle
        rw [hn k hle]; exact ih
      · exact ih
  exact hk 6
theorem stem_more (l : List UInt8) (h : l.all isSm = true) (hl : 3 ≤ l.length) (h1 : sfx l [115] = false) (h2 : sfx l [105, 101] = false) (h3 : sfx l [115, 115, 101] = false) : stem (l ++ [115]) = stem l := by
  rw [stem_small l h hl, stem_small (l ++ [115]) (by rw [List.all_append, h]; rfl) (by rw [List.length_append]; omega), short_aft, short_aft, rep1_s l h1 h2 h3, rep1_stay l h1]
end Go.Proofs.Ytmfdoohnladohaa
