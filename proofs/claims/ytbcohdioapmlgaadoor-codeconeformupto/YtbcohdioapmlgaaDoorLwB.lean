import Derived.Test.YtbcohdioapmlgaaDoorLwA
namespace Go.Proofs.YtbcohdioapmlgaaDoor
open Go.ChangeShapes Go.WideShapes Go.ChangeAt Go.RowKit

theorem mayB_all {kd : Int} {l : List Int} (h : mayB kd l = true) {k : Nat} (hk : k < l.length) : badAt kd l k = false := by
  unfold mayB at h
  rw [Bool.and_eq_true] at h
  have := List.all_eq_true.1 h.1 k (List.mem_range.2 hk)
  simpa using this
theorem mayB_nonneg {kd : Int} {l : List Int} (h : mayB kd l = true) : ∀ x ∈ l, 0 ≤ x := by
  intro x hx
  obtain ⟨k, hk, rfl⟩ := List.getElem_of_mem hx
  have := mayB_all h hk
  rw [badAt, List.getElem?_eq_getElem hk] at this
  simp at this
  omega
theorem mayB_rise {l : List Int} (h : mayB 8 l = true) : riseB l = true := by
  rw [riseB_iff]
  intro j hj
  have := mayB_all h hj
  rw [badAt] at this
  simp at this
  omega
theorem may8_of {l : List Int} (h0 : ∀ x ∈ l, 0 ≤ x) (hr : riseB l = true) : mayB 8 l = true := by
  rw [riseB_iff] at hr
  unfold mayB
  rw [Bool.and_eq_true]
  refine ⟨List.all_eq_true.2 fun k hk => ?_, by simp⟩
  have hk' := List.mem_range.1 hk
  have h1 := h0 _ (List.getElem_mem hk')
  rw [badAt]
  have e : l[k]?.getD 0 = l[k] := by rw [List.getElem?_eq_getElem hk']; rfl
  rw [e]
  simp only [Bool.not_eq_true', Bool.or_eq_false_iff, Bool.and_eq_false_iff, decide_eq_false_iff_not]
  refine ⟨by omega, ?_⟩
  by_cases hk0 : 0 < k
  · right
    have := hr (k - 1) (by omega)
    rw [show k - 1 + 1 = k by omega, e] at this
    omega
  · left; right; exact hk0
theorem may9_of {l : List Int} (h0 : ∀ x ∈ l, 0 ≤ x) (hz : ¬ (orl l = 0 ∧ 65536 < l.length)) : mayB 9 l = true := by
  unfold mayB
  rw [Bool.and_eq_true]
  refine ⟨List.all_eq_true.2 fun k hk => ?_, ?_⟩
  · have hk' := List.mem_range.1 hk
    have h1 := h0 _ (List.getElem_mem hk')
    rw [badAt, List.getElem?_eq_getElem hk']
    simp
    omega
  · by_cases hb : l.length ≤ 65536
    · simp [hb]
    · have hne : orl l ≠ 0 := fun e => hz ⟨e, by omega⟩
      have : (l.all fun x => decide (x = 0)) = false := by
        cases ha : (l.all fun x => decide (x = 0)) with
        | false => rfl
        | true =>
          rw [List.all_eq_true] at ha
          have := orl_lt 0 l (fun x hx => by have := ha x hx; simp at this; subst this; decide)
          omega
      simp [this]
theorem may9_zero {l : List Int} (h : mayB 9 l = true) : ¬ (orl l = 0 ∧ 65536 < l.length) := by
  rintro ⟨e1, e2⟩
  have h0 := mayB_nonneg h
  unfold mayB at h
  rw [Bool.and_eq_true] at h
  have h2 := h.2
  have : (l.all fun x => decide (x = 0)) = true := by
    rw [List.all_eq_true]
    intro x hx
    have := le_orl l x hx
    have := h0 x hx
    simp
    omega
  rw [this] at h2
  simp at h2
  omega
/-- What a refused list is. -/
theorem may8_not {l : List Int} (h : mayB 8 l = false) : l.any (fun x => decide (x < 0)) = true ∨ (∀ x ∈ l, 0 ≤ x) ∧ riseB l = false := by
  cases ha : l.any (fun x => decide (x < 0)) with
  | true => exact .inl rfl
  | false =>
    have h0 : ∀ x ∈ l, 0 ≤ x := by
      intro x hx
      have := List.any_eq_false.1 ha x hx
      simp at this
      omega
    refine .inr ⟨h0, ?_⟩
    cases hr : riseB l with
    | false => rfl
    | true => rw [may8_of h0 hr] at h; cases h
theorem may9_not {l : List Int} (h : mayB 9 l = false) : l.any (fun x => decide (x < 0)) = true ∨ (∀ x ∈ l, 0 ≤ x) ∧ orl l = 0 ∧ 65536 < l.length := by
  cases ha : l.any (fun x => decide (x < 0)) with
  | true => exact .inl rfl
  | false =>
    have h0 : ∀ x ∈ l, 0 ≤ x := by
      intro x hx
      have := List.any_eq_false.1 ha x hx
      simp at this
      omega
    refine .inr ⟨h0, ?_⟩
    by_cases hz : orl l = 0 ∧ 65536 < l.length
    · exact hz
    · rw [may9_of h0 hz] at h; cases h
end Go.Proofs.YtbcohdioapmlgaaDoor
