import Derived.Test.YthiamcopbgeedaaDoorTxo
namespace Go.Proofs.YthiamcopbgeedaaDoor
open Go.ChangeShapes Go.WideShapes Go.ChangeAt Go.RowKit

theorem not_mem_take {c : UInt8} {l : List UInt8} {a i : Nat} (hno : ∀ j (h : j < l.length), a ≤ j → j < i → l[j] ≠ c) : c ∉ (l.drop a).take (i - a) := by
  intro hm
  obtain ⟨k, hk, e⟩ := List.mem_iff_getElem.1 hm
  rw [List.length_take, List.length_drop] at hk
  rw [List.getElem_take, List.getElem_drop] at e
  exact hno (a + k) (by omega) (by omega) (by omega) e
theorem cut_step {c : UInt8} {l : List UInt8} {a i : Nat} (ha : a ≤ i) (hi : i < l.length) (hc : l[i] = c) (hno : ∀ j (h : j < l.length), a ≤ j → j < i → l[j] ≠ c) : cutL c (l.drop a) = (l.drop a).take (i - a) :: cutL c (l.drop (i + 1)) := by
  have h1 : l.drop a = (l.drop a).take (i - a) ++ c :: l.drop (i + 1) := by
    have h2 : (l.drop a).drop (i - a) = c :: l.drop (i + 1) := by
      rw [List.drop_drop, show a + (i - a) = i from by omega, List.drop_eq_getElem_cons hi, hc]
    rw [← h2, List.take_append_drop]
  exact (congrArg (cutL c) h1).trans (cut_pre _ (not_mem_take hno))
theorem cut_last {c : UInt8} {l : List UInt8} {a : Nat} (hno : ∀ j (h : j < l.length), a ≤ j → j < l.length → l[j] ≠ c) : cutL c (l.drop a) = [l.drop a] := by
  have h := not_mem_take (a := a) (i := l.length) hno
  rw [List.take_of_length_le (by rw [List.length_drop]; exact Nat.le_refl _)] at h
  exact cut_none h
theorem cut_ne {c : UInt8} (l : List UInt8) : cutL c l ≠ [] := by
  induction l with
  | nil => simp [cutL]
  | cons x r ih =>
    unfold cutL
    split
    · simp
    · split <;> simp
theorem cut_bound {c : UInt8} (l : List UInt8) : (cutL c l).length ≤ l.length + 1 ∧ ∀ p ∈ cutL c l, p.length ≤ l.length := by
  induction l with
  | nil => simp [cutL]
  | cons x r ih =>
    obtain ⟨h1, h2⟩ := ih
    unfold cutL
    split
    · refine ⟨by simp; omega, fun p hp => ?_⟩
      rcases List.mem_cons.1 hp with rfl | hp
      · simp
      · have := h2 p hp; simp; omega
    · split
      · refine ⟨by simp, fun p hp => ?_⟩
        simp at hp
        subst hp
        simp
      · rename_i y ys e
        rw [e] at h1 h2
        refine ⟨by simp at h1 ⊢; omega, fun p hp => ?_⟩
        rcases List.mem_cons.1 hp with rfl | hp
        · have := h2 y List.mem_cons_self
          simp; omega
        · have := h2 p (List.mem_cons_of_mem _ hp)
          simp; omega
/-- Texts as cells. -/
def txs (D : List (List UInt8)) : List Value := D.map (fun l => .string (bstr l))
theorem txs_append (a b : List (List UInt8)) : txs (a ++ b) = txs a ++ txs b := List.map_append
theorem txs_len (a : List (List UInt8)) : (txs a).length = a.length := List.length_map ..
theorem txs_at (a : List (List UInt8)) (j : Nat) (h : j < a.length) : (txs a)[j]? = some (.string (bstr a[j])) := by
  rw [txs, List.getElem?_map, List.getElem?_eq_getElem h]; rfl
end Go.Proofs.YthiamcopbgeedaaDoor
