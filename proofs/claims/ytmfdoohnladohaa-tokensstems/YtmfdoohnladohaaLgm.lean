import Derived.Test.YtmfdoohnladohaaPlm
namespace Go.Proofs.Ytmfdoohnladohaa
open Go.RowKit

abbrev Rl := List UInt8 × List UInt8
def lgF (l : List UInt8) (o : Option Rl) (p : Rl) : Option Rl := if sfx l p.1 && (o.isNone || decide ((o.getD ([], [])).1.length < p.1.length)) then some p else o
def lg (T : Tbl) (l : List UInt8) : Option Rl := T.foldl (lgF l) none
/-- The best of a list: the longest that fits. -/
def Best (T : Tbl) (l : List UInt8) : Option Rl → Prop
  | none => ∀ q ∈ T, sfx l q.1 = false
  | some p => p ∈ T ∧ sfx l p.1 = true ∧ ∀ q ∈ T, sfx l q.1 = true → q.1.length ≤ p.1.length
theorem best_step (T : Tbl) (l : List UInt8) (o : Option Rl) (p : Rl) (h : Best T l o) : Best (T ++ [p]) l (lgF l o p) := by
  unfold lgF
  cases hs : sfx l p.1 with
  | false =>
    rw [Bool.false_and, if_neg (by decide)]
    cases o with
    | none =>
      intro q hq
      rcases List.mem_append.1 hq with hq | hq
      · exact h q hq
      · simp only [List.mem_singleton] at hq; rw [hq]; exact hs
    | some r =>
      refine ⟨List.mem_append_left _ h.1, h.2.1, fun q hq hsq => ?_⟩
      rcases List.mem_append.1 hq with hq | hq
      · exact h.2.2 q hq hsq
      · simp only [List.mem_singleton] at hq; rw [hq, hs] at hsq; cases hsq
  | true =>
    rw [Bool.true_and]
    cases o with
    | none =>
      rw [if_pos (by rfl)]
      refine ⟨List.mem_append_right _ List.mem_cons_self, hs, fun q hq hsq => ?_⟩
      rcases List.mem_append.1 hq with hq | hq
      · rw [h q hq] at hsq; cases hsq
      · simp only [List.mem_singleton] at hq; rw [hq]; exact Nat.le_refl _
    | some r =>
      by_cases hl : r.1.length < p.1.length
      · rw [if_pos (by simp [hl])]
        refine ⟨List.mem_append_right _ List.mem_cons_self, hs, fun q hq hsq => ?_⟩
        rcases List.mem_append.1 hq with hq | hq
        · have := h.2.2 q hq hsq; omega
        · simp only [List.mem_singleton] at hq; rw [hq]; exact Nat.le_refl _
      · rw [if_neg (by simp [hl])]
        refine ⟨List.mem_append_left _ h.1, h.2.1, fun q hq hsq => ?_⟩
        rcases List.mem_append.1 hq with hq | hq
        · exact h.2.2 q hq hsq
        · simp only [List.mem_singleton] at hq; rw [hq]; omega
theorem best_fold (l : List UInt8) (T S : Tbl) (o : Option Rl) (h : Best S l o) : Best (S ++ T) l (T.foldl (lgF l) o) := by
  induction T generalizing S o with
  | nil => rw [List.append_nil]; exact h
  | cons p T ih =>
    have := ih (S ++ [p]) (lgF l o p) (best_step S l o p h)
    rwa [List.append_assoc] at this
theorem lg_best (T : Tbl) (l : List UInt8) : Best T l (lg T l) := best_fold l T [] none (fun q hq => by cases hq)
theorem sfx_drop {l e : List UInt8} (h : sfx l e = true) : l.drop (l.length - e.length) = e := (sfx_iff.1 h).2
theorem drop_len (l : List UInt8) (k : Nat) (h : k ≤ l.length) : (l.drop (l.length - k)).length = k := by rw [List.length_drop]; omega
/-- Both ways of looking for the longest ending come to the same. -/
theorem rep_lg (T : Tbl) (h1 : ∀ p ∈ T, 1 ≤ p.1.length ∧ p.1.length ≤ 7) (h2 : ∀ p ∈ T, lk T p.1 = some p.2) (m : Nat) (l : List UInt8) :
    rep T m l = match lg T l with | none => l | some p => if meas (cutE l p.1) < m then l else cutE l p.1 ++ p.2 := by
  have hb := lg_best T l
  cases hg : lg T l with
  | none =>
    rw [hg] at hb
    refine repK_none T m l (fun r => ?_) 7
    cases hq : lk T (l.drop r) with
    | none => rfl
    | some t =>
      have := hb _ (lk_mem hq)
      rw [drop_sfx] at this; cases this
  | some p =>
    rw [hg] at hb
    obtain ⟨hm, hs, hx⟩ := hb
    have hle := sfx_le hs
    have hk := h1 p hm
    have hd := sfx_drop hs
    have hat : ∀ k, p.1.length = k + 1 → repK T m l (k + 1) = if meas (cutE l p.1) < m then l else cutE l p.1 ++ p.2 := fun k e => by
      show (if k + 1 ≤ l.length then _ else _) = _
      rw [if_pos (by omega), ← e, hd, h2 p hm]
      rfl
    have hup : ∀ k, p.1.length ≤ k → repK T m l k = repK T m l p.1.length := fun k hkk => by
      induction k with
      | zero => omega
      | succ k ih =>
        by_cases e : p.1.length = k + 1
        · rw [e]
        · show (if k + 1 ≤ l.length then _ else _) = _
          split
          · rename_i hle2
            have hn : lk T (l.drop (l.length - (k + 1))) = none := by
              cases hq : lk T (l.drop (l.length - (k + 1))) with
              | none => rfl
              | some t =>
                have := hx _ (lk_mem hq) (drop_sfx l _)
                simp only [drop_len l (k + 1) hle2] at this
                omega
            rw [hn]
            exact ih (by omega)
          · exact ih (by omega)
    obtain ⟨k, e⟩ : ∃ k, p.1.length = k + 1 := ⟨p.1.length - 1, by omega⟩
    show repK T m l 7 = _
    rw [hup 7 hk.2, e]
    exact hat k e
theorem tb1_k : (∀ p ∈ tb1, 1 ≤ p.1.length ∧ p.1.length ≤ 7) ∧ ∀ p ∈ tb1, lk tb1 p.1 = some p.2 := by decide +kernel
theorem tb2_k : (∀ p ∈ tb2, 1 ≤ p.1.length ∧ p.1.length ≤ 7) ∧ ∀ p ∈ tb2, lk tb2 p.1 = some p.2 := by decide +kernel
theorem tb3_k : (∀ p ∈ tb3, 1 ≤ p.1.length ∧ p.1.length ≤ 7) ∧ ∀ p ∈ tb3, lk tb3 p.1 = some p.2 := by decide +kernel
theorem tb4_k : (∀ p ∈ tb4, 1 ≤ p.1.length ∧ p.1.length ≤ 7) ∧ ∀ p ∈ tb4, lk tb4 p.1 = some p.2 := by decide +kernel
def tbE : Tbl := [([101, 101, 100], [101, 101]), ([101, 100], []), ([105, 110, 103], [])]
/-- Two endings of one word. -/
theorem sfx_two {l a b : List UInt8} (ha : sfx l a = true) (hb : sfx l b = true) (h : a.length ≤ b.length) : sfx b a = true :=
  List.isSuffixOf_iff_suffix.2 (List.suffix_of_suffix_length_le (List.isSuffixOf_iff_suffix.1 ha) (List.isSuffixOf_iff_suffix.1 hb) h)
theorem lg_E (l : List UInt8) : lg tbE l = if sfx l [101, 101, 100] then some ([101, 101, 100], [101, 101]) else if sfx l [101, 100] then some ([101, 100], []) else if sfx l [105, 110, 103] then some ([105, 110, 103], []) else none := by
  have hb := lg_best tbE l
  cases hg : lg tbE l with
  | none =>
    rw [hg] at hb
    have a1 := hb ([101, 101, 100], [101, 101]) (by decide)
    have a2 := hb ([101, 100], []) (by decide)
    have a3 := hb ([105, 110, 103], []) (by decide)
    simp only at a1 a2 a3
    rw [a1, a2, a3]; rfl
  | some p =>
    rw [hg] at hb
    obtain ⟨hm, hs, hx⟩ := hb
    have hp : p = ([101, 101, 100], [101, 101]) ∨ p = ([101, 100], []) ∨ p = ([105, 110, 103], []) := by simpa [tbE] using hm
    rcases hp with rfl | rfl | rfl
    · rw [if_pos hs]
    · have a1 : sfx l [101, 101, 100] = false := by
        cases h : sfx l [101, 101, 100] with
        | false => rfl
        | true => have := hx ([101, 101, 100], [101, 101]) (by decide) h; simp at this
      rw [a1, if_neg (by decide), if_pos hs]
    · have a1 : sfx l [101, 101, 100] = false := by
        cases h : sfx l [101, 101, 100] with
        | false => rfl
        | true => exact absurd (sfx_two h hs (by decide)) (by decide)
      have a2 : sfx l [101, 100] = false := by
        cases h : sfx l [101, 100] with
        | false => rfl
        | true => exact absurd (sfx_two h hs (by decide)) (by decide)
      rw [a1, a2, if_neg (by decide), if_neg (by decide), if_pos hs]
theorem lg_ion (l : List UInt8) (p : Rl) (h : lg tb4 l = some p) : sfx l [105, 111, 110] = decide (p.1 = [105, 111, 110]) := by
  have hb := lg_best tb4 l
  rw [h] at hb
  obtain ⟨hm, hs, hx⟩ := hb
  cases hi : sfx l [105, 111, 110] with
  | true =>
    have h3 := hx ([105, 111, 110], []) (by decide) hi
    have q : ∀ p ∈ tb4, 3 ≤ p.1.length → sfx p.1 [105, 111, 110] = true → p.1 = [105, 111, 110] := by decide +kernel
    exact (decide_eq_true (q p hm h3 (sfx_two hi hs h3))).symm
  | false =>
    symm
    apply decide_eq_false
    intro e
    rw [e] at hs; rw [hs] at hi; cases hi
theorem lg_ion_none (l : List UInt8) (h : lg tb4 l = none) : sfx l [105, 111, 110] = false := by
  have hb := lg_best tb4 l
  rw [h] at hb
  exact hb ([105, 111, 110], []) (by decide)
theorem sfx_more (l e : List UInt8) (c : UInt8) (h : sfx l e = true) : sfx l (c :: e) = sfx (cutE l e) [c] := by
  rw [Bool.eq_iff_iff]
  constructor
  · intro h1
    obtain ⟨t, ht⟩ := List.isSuffixOf_iff_suffix.1 h1
    have h2 := sfx_eq h
    have h3 : cutE l e ++ e = (t ++ [c]) ++ e := by rw [h2, ← ht]; simp
    have h4 := List.append_cancel_right h3
    rw [h4]
    exact sfx_app t [c]
  · intro h1
    obtain ⟨t, ht⟩ := List.isSuffixOf_iff_suffix.1 h1
    have h2 := sfx_eq h
    rw [← ht] at h2
    exact List.isSuffixOf_iff_suffix.2 ⟨t, by rw [← h2]; simp⟩
theorem st4_lg (l : List UInt8) : st4 l = match lg tb4 l with | none => l | some p => if p.1 = [105, 111, 110] ∧ sfx (cutE l p.1) [115] = false ∧ sfx (cutE l p.1) [116] = false then l else if meas (cutE l p.1) < 2 then l else cutE l p.1 ++ p.2 := by
  unfold st4
  rw [rep_lg tb4 tb4_k.1 tb4_k.2 2 l]
  cases hg : lg tb4 l with
  | none => rw [lg_ion_none l hg]; rfl
  | some p =>
    have hi := lg_ion l p hg
    simp only
    by_cases e : p.1 = [105, 111, 110]
    · rw [decide_eq_true e] at hi
      rw [hi, e, sfx_more l _ 115 hi, sfx_more l _ 116 hi]
      cases sfx (cutE l [105, 111, 110]) [115] <;> cases sfx (cutE l [105, 111, 110]) [116] <;> simp
    · rw [decide_eq_false e] at hi
      rw [hi, Bool.false_and, if_neg (by decide : ¬ false = true)]
      conv => rhs; rw [if_neg (fun h => e h.1)]
end Go.Proofs.Ytmfdoohnladohaa
