import Derived.Test.YteeimpjjmdpbgaaDoorDhd
namespace Go.Proofs.YteeimpjjmdpbgaaDoor
open Go.ChangeShapes Go.WideShapes Go.ChangeAt Go.RowKit

theorem pre_ge : ∀ x y : List UInt8, x.isPrefixOf y = true → Op.bytesLess y x = false
  | [], y, _ => by cases y <;> rfl
  | a :: x, [], h => by simp at h
  | a :: x, b :: y, h => by
    simp only [List.isPrefixOf, Bool.and_eq_true, beq_iff_eq] at h
    obtain ⟨rfl, h⟩ := h
    have := pre_ge x y h
    simp [Op.bytesLess, this]
theorem u8_tri {a b : UInt8} (h1 : ¬ a < b) (h2 : ¬ b < a) : a = b := by
  rw [UInt8.lt_iff_toNat_lt] at h1 h2
  exact UInt8.toNat_inj.1 (by omega)
theorem pre_mid : ∀ x y z : List UInt8, Op.bytesLess y x = false → Op.bytesLess z y = false → x.isPrefixOf z = true → x.isPrefixOf y = true
  | [], _, _, _, _, _ => by simp
  | a :: x, [], _, h, _, _ => by simp [Op.bytesLess] at h
  | a :: x, b :: y, [], _, _, h => by simp at h
  | a :: x, b :: y, c :: z, h1, h2, h3 => by
    simp only [List.isPrefixOf, Bool.and_eq_true, beq_iff_eq] at h3
    obtain ⟨rfl, h3⟩ := h3
    simp only [Op.bytesLess, Bool.or_eq_false_iff, decide_eq_false_iff_not, Bool.and_eq_false_iff, beq_eq_false_iff_ne] at h1 h2
    obtain rfl : b = a := u8_tri h1.1 h2.1
    have e1 := h1.2.resolve_left (fun f => f rfl)
    have e2 := h2.2.resolve_left (fun f => f rfl)
    simp [List.isPrefixOf, pre_mid x y z e1 e2 h3]
theorem bl_trans : ∀ x y z : List UInt8, Op.bytesLess x y = true → Op.bytesLess y z = true → Op.bytesLess x z = true
  | _, [], _, h, _ => by simp [Op.bytesLess] at h
  | _, _ :: _, [], _, h => by simp [Op.bytesLess] at h
  | [], b :: y, c :: z, _, _ => rfl
  | a :: x, b :: y, c :: z, h1, h2 => by
    simp only [Op.bytesLess, Bool.or_eq_true, decide_eq_true_eq, Bool.and_eq_true, beq_iff_eq] at h1 h2 ⊢
    rcases h1 with h1 | ⟨rfl, h1⟩
    · left
      rcases h2 with h2 | ⟨rfl, h2⟩
      · rw [UInt8.lt_iff_toNat_lt] at h1 h2 ⊢; omega
      · exact h1
    · rcases h2 with h2 | ⟨rfl, h2⟩
      · exact .inl h2
      · exact .inr ⟨rfl, bl_trans x y z h1 h2⟩
theorem bl_asym {x y : List UInt8} (h : Op.bytesLess x y = true) : Op.bytesLess y x = false := by
  have h1 := bl_total x y
  rw [h] at h1
  simpa using h1.symm
theorem bl_irr (x : List UInt8) : Op.bytesLess x x = false := by
  have h1 := bl_total x x
  cases h : Op.bytesLess x x
  · rfl
  · rw [h] at h1; simp at h1
theorem klt_trans {a b c : ByteArray} (h1 : klt a b = true) (h2 : klt b c = true) : klt a c = true := bl_trans _ _ _ h1 h2
theorem rises_lt {E : List En} (hr : Rises E) {i j : Nat} (hij : i < j) (hj : j < E.length) : klt (kat E i) (kat E j) = true := by
  induction j with
  | zero => omega
  | succ j ih =>
    have h1 := hr j hj
    rw [← kat_at (by omega), ← kat_at hj] at h1
    by_cases e : i = j
    · subst e; exact h1
    · exact klt_trans (ih (by omega) (by omega)) h1
theorem rises_le {E : List En} (hr : Rises E) {i j : Nat} (hij : i ≤ j) (hj : j < E.length) : klt (kat E j) (kat E i) = false := by
  by_cases e : i = j
  · subst e; exact bl_irr _
  · exact bl_asym (rises_lt hr (by omega) hj)
theorem skd_iff {E : List En} {x : ByteArray} {r : Nat} (hr : Rises E) (h : Skd E x r) {i : Nat} (hi : i < E.length) : klt (kat E i) x = decide (i < r) := by
  obtain ⟨h1, h2, h3⟩ := h
  by_cases hlt : i < r
  · rw [decide_eq_true hlt]
    have e := h2.resolve_left (by omega)
    by_cases hz : i = r - 1
    · rw [hz]; exact e
    · exact klt_trans (rises_lt hr (by omega) (by omega)) e
  · rw [decide_eq_false hlt]
    have e := h3.resolve_left (by omega)
    cases hc : klt (kat E i) x
    · rfl
    · by_cases hz : i = r
      · rw [← hz, hc] at e; exact e
      · rw [klt_trans (rises_lt hr (i := r) (by omega) hi) hc] at e; exact e
theorem skd_uniq {E : List En} {x : ByteArray} {r s : Nat} (hr : Rises E) (h : Skd E x r) (h' : Skd E x s) : r = s := by
  rcases Nat.lt_trichotomy r s with hl | hl | hl
  · have h1 := skd_iff hr h (i := r) (by have := h'.1; omega)
    have h2 := skd_iff hr h' (i := r) (by have := h'.1; omega)
    rw [h1] at h2
    simp [hl] at h2
  · exact hl
  · have h1 := skd_iff hr h (i := s) (by have := h.1; omega)
    have h2 := skd_iff hr h' (i := s) (by have := h.1; omega)
    rw [h1] at h2
    simp [hl] at h2
theorem skd_own {E : List En} {i r : Nat} (hr : Rises E) (hi : i < E.length) (h : Skd E (kat E i) r) : r = i := by
  have hs : Skd E (kat E i) i := ⟨by omega, by
    by_cases hz : i = 0
    · exact .inl hz
    · exact .inr (rises_lt hr (by omega) hi), .inr (bl_irr _)⟩
  exact skd_uniq hr h hs
theorem fnd_own {E : List En} {i k : Nat} {b : Bool} (hr : Rises E) (hi : i < E.length) (h : Fnd E (kat E i) k b) : k = i ∧ b = true := by
  obtain ⟨r, hs, h⟩ := h
  obtain rfl := skd_own hr hi hs
  rcases h with ⟨h1, _, _, h4⟩ | ⟨_, _, h3⟩
  · exact ⟨h4, h1⟩
  · rcases h3 with e | e
    · omega
    · exact absurd rfl e
theorem fnd_any {E : List En} {x : ByteArray} {k r : Nat} {b : Bool} (hr : Rises E) (hs : Skd E x r) (h : Fnd E x k b) : (b = true ∧ r < E.length ∧ kat E r = x ∧ k = r) ∨ (b = false ∧ k = 0 ∧ (r = E.length ∨ ¬ kat E r = x)) := by
  obtain ⟨s, hs', h⟩ := h
  obtain rfl := skd_uniq hr hs hs'
  exact h
theorem hdp_eq (k x : ByteArray) : hdp k x = x.toList.isPrefixOf k.toList := by unfold hdp Lib.hasPrefix; rw [ByteArray.toList_eq, ByteArray.toList_eq]
theorem hdd_iff {E : List En} {x : ByteArray} {r t : Nat} (hr : Rises E) (h : Hdd E x r t) {i : Nat} (hi : i < E.length) : hdp (kat E i) x = (decide (r ≤ i) && decide (i < t)) := by
  obtain ⟨hs, h1, h2, h3, h4⟩ := h
  by_cases hir : r ≤ i
  · rw [decide_eq_true hir, Bool.true_and]
    have hx : klt (kat E i) x = false := by rw [skd_iff hr hs hi]; exact decide_eq_false (by omega)
    by_cases hit : i < t
    · rw [decide_eq_true hit]
      have e := h3.resolve_left (by omega)
      rw [hdp_eq] at e ⊢
      exact pre_mid _ _ _ hx (rises_le hr (i := i) (j := t - 1) (by omega) (by omega)) e
    · rw [decide_eq_false hit]
      have e := h4.resolve_left (by omega)
      cases hc : hdp (kat E i) x
      · rfl
      · rw [hdp_eq] at e hc
        have hx2 : klt (kat E t) x = false := by rw [skd_iff hr hs (by omega)]; exact decide_eq_false (by omega)
        rw [pre_mid _ _ _ hx2 (rises_le hr (i := t) (j := i) (by omega) hi) hc] at e
        exact e
  · rw [decide_eq_false hir, Bool.false_and]
    have hx : klt (kat E i) x = true := by rw [skd_iff hr hs hi]; exact decide_eq_true (by omega)
    cases hc : hdp (kat E i) x
    · rfl
    · rw [hdp_eq] at hc
      have := pre_ge _ _ hc
      unfold klt at hx
      rw [hx] at this
      exact this
end Go.Proofs.YteeimpjjmdpbgaaDoor
