import Derived.Test.YtbhoplmbiomogaaDoorRfm2
namespace Go.Proofs.YtbhoplmbiomogaaDoor
open Go.RowKit

/-- The word of a kind. -/
def kW (k : Int) : List UInt8 := if k = 1 then wText else if k = 2 then wKey else wNum
/-- The words of a chain. -/
def mks (fo st se : Bool) : List UInt8 := (if fo then mFold else []) ++ ((if st then mStop else []) ++ (if se then mStem else []))
/-- A field's text, and a schema's. -/
def ftx (f : Fd) : List UInt8 := f.n.data.toList ++ 58 :: (kW f.k ++ mks f.fo f.st f.se)
def stx : List Fd → List UInt8
  | [] => []
  | [f] => ftx f
  | f :: g :: r => ftx f ++ 59 :: stx (g :: r)
theorem stx_one (f : Fd) : stx [f] = ftx f := rfl
theorem stx_more (f : Fd) {r : List Fd} (h : r ≠ []) : stx (f :: r) = ftx f ++ 59 :: stx r := by
  cases r with
  | nil => exact absurd rfl h
  | cons g r => rfl
theorem pre_eq {l p : List UInt8} (h : Lib.hasPrefix l p = true) : l = p ++ l.drop p.length := by
  unfold Lib.hasPrefix at h
  obtain ⟨t, rfl⟩ := List.isPrefixOf_iff_prefix.1 h
  rw [List.drop_left]
theorem pre_yes (p r : List UInt8) : Lib.hasPrefix (p ++ r) p = true := by
  unfold Lib.hasPrefix
  exact List.isPrefixOf_iff_prefix.2 ⟨r, rfl⟩
/-- The chain of a byte. -/
def mkF (b : Nat) : List UInt8 := mks (decide (b / 4 % 2 = 1)) (decide (b / 8 % 2 = 1)) (decide (b / 16 % 2 = 1))
theorem mkF4 (b : Nat) (h : b < 4) : mkF (b + 4) = mkF b ++ mFold := by
  have q : ∀ k : Fin 4, mkF (k.val + 4) = mkF k.val ++ mFold := by decide +kernel
  exact q ⟨b, h⟩
theorem mkF8 (b : Nat) (h : b < 8) : mkF (b + 8) = mkF b ++ mStop := by
  have q : ∀ k : Fin 8, mkF (k.val + 8) = mkF k.val ++ mStop := by decide +kernel
  exact q ⟨b, h⟩
theorem mkF16 (b : Nat) (h : b < 16) : mkF (b + 16) = mkF b ++ mStem := by
  have q : ∀ k : Fin 16, mkF (k.val + 16) = mkF k.val ++ mStem := by decide +kernel
  exact q ⟨b, h⟩
theorem rm_text (l : List UInt8) (b : Nat) : rmN l b = 0 ∨ (rmN l b = 4 ∧ b < 4 ∧ l = mFold ++ l.drop 5) ∨ (rmN l b = 8 ∧ b < 8 ∧ l = mStop ++ l.drop 5) ∨ (rmN l b = 16 ∧ b < 16 ∧ l = mStem ++ l.drop 5) := by
  unfold rmN
  by_cases h1 : Lib.hasPrefix l mFold ∧ b < 4
  · right; left; rw [if_pos h1]; exact ⟨rfl, h1.2, pre_eq h1.1⟩
  · rw [if_neg h1]
    by_cases h2 : Lib.hasPrefix l mStop ∧ b < 8
    · right; right; left; rw [if_pos h2]; exact ⟨rfl, h2.2, pre_eq h2.1⟩
    · rw [if_neg h2]
      by_cases h3 : Lib.hasPrefix l mStem ∧ b < 16
      · right; right; right; rw [if_pos h3]; exact ⟨rfl, h3.2, pre_eq h3.1⟩
      · left; rw [if_neg h3]
/-- What stands behind a chain. -/
def tlO : Option (List UInt8) → List UInt8
  | none => []
  | some r => 59 :: r
theorem u59 {c : UInt8} (h : c.toNat = 59) : c = 59 := UInt8.toNat_inj.1 h
/-- What rin reads is the chain's words. -/
theorem rin_text : ∀ (n : Nat) (l : List UInt8), l.length ≤ n → ∀ (b b' : Nat) (o : Option (List UInt8)), b < 32 → rin b l = some (b', o) → ∃ m, mkF b' = mkF b ++ m ∧ l = m ++ tlO o ∧ b' % 4 = b % 4 ∧ b' < 32 := by
  intro n
  induction n with
  | zero =>
    intro l hl b b' o hb h
    obtain rfl : l = [] := List.eq_nil_of_length_eq_zero (by omega)
    rw [rin_nil] at h
    injection h with h
    injection h with h1 h2
    subst h1 h2
    exact ⟨[], by simp, rfl, rfl, hb⟩
  | succ n ih =>
    intro l hl b b' o hb h
    match l, hl, h with
    | [], _, h =>
      rw [rin_nil] at h
      injection h with h
      injection h with h1 h2
      subst h1 h2
      exact ⟨[], by simp, rfl, rfl, hb⟩
    | c :: r, hl, h =>
      by_cases hc : c.toNat = 59
      · rw [rin_end hc] at h
        injection h with h
        injection h with h1 h2
        subst h1 h2
        exact ⟨[], by simp, by rw [u59 hc]; rfl, rfl, hb⟩
      · have hlen : ((c :: r).drop 5).length ≤ n := by simp at hl ⊢; omega
        rcases rm_text (c :: r) b with h0 | ⟨h0, hlt, he⟩ | ⟨h0, hlt, he⟩ | ⟨h0, hlt, he⟩
        · rw [rin_bad hc h0] at h; cases h
        · rw [rin_go hc (by rw [h0]; decide), h0] at h
          obtain ⟨m, e1, e2, e3, e4⟩ := ih _ hlen _ _ _ (by omega) h
          exact ⟨mFold ++ m, by rw [e1, mkF4 b hlt, List.append_assoc], by rw [List.append_assoc, ← e2]; exact he, by omega, e4⟩
        · rw [rin_go hc (by rw [h0]; decide), h0] at h
          obtain ⟨m, e1, e2, e3, e4⟩ := ih _ hlen _ _ _ (by omega) h
          exact ⟨mStop ++ m, by rw [e1, mkF8 b hlt, List.append_assoc], by rw [List.append_assoc, ← e2]; exact he, by omega, e4⟩
        · rw [rin_go hc (by rw [h0]; decide), h0] at h
          obtain ⟨m, e1, e2, e3, e4⟩ := ih _ hlen _ _ _ (by omega) h
          exact ⟨mStem ++ m, by rw [e1, mkF16 b hlt, List.append_assoc], by rw [List.append_assoc, ← e2]; exact he, by omega, e4⟩
theorem rk_text (l : List UInt8) : rkN l = 0 ∨ ((rkN l = 1 ∨ rkN l = 2 ∨ rkN l = 3) ∧ l = kW (rkN l : Nat) ++ rkR l) := by
  unfold rkN rkR
  by_cases h1 : Lib.hasPrefix l wText
  · right; simp only [h1, if_true]; exact ⟨Or.inl trivial, pre_eq h1⟩
  · by_cases h2 : Lib.hasPrefix l wKey
    · right; simp only [h1, h2, if_true, Bool.false_eq_true, if_false]; exact ⟨by simp, pre_eq h2⟩
    · by_cases h3 : Lib.hasPrefix l wNum
      · right; simp only [h1, h2, h3, if_true, Bool.false_eq_true, if_false]; exact ⟨by simp, pre_eq h3⟩
      · left; simp [h1, h2, h3]
theorem ci_at {l : List UInt8} {i : Nat} (h : ci l = some i) : l = l.take i ++ 58 :: l.drop (i + 1) := by
  unfold ci at h
  obtain ⟨hi, he, -⟩ := List.findIdx?_eq_some_iff_getElem.1 h
  have : l[i] = 58 := by simpa using he
  rw [← this, List.getElem_cons_drop, List.take_append_drop]
theorem ftx_of (n : List UInt8) (b : Nat) : ftx (fdOf (bstr n) b) = n ++ 58 :: (kW ((b % 4 : Nat) : Int) ++ mkF b) := rfl
theorem mkF_low {k : Nat} (h : k < 4) : mkF k = [] := by
  have q : ∀ k : Fin 4, mkF k.val = [] := by decide +kernel
  exact q ⟨k, h⟩
/-- What is read is its text. -/
theorem rout_text : ∀ (n : Nat) (l : List UInt8) (F : List Fd), rout n l = some F → F ≠ [] ∧ F.length ≤ n ∧ stx F = l
  | 0, _, _, h => by rw [rout] at h; cases h
  | n + 1, l, F, h => by
    cases hc : ci l with
    | none => rw [rout_nocolon hc] at h; cases h
    | some i =>
      have hl := ci_at hc
      rcases rk_text (l.drop (i + 1)) with h0 | ⟨h0, hk⟩
      · rw [rout_nokind hc h0] at h; cases h
      · have hnz : rkN (l.drop (i + 1)) ≠ 0 := by omega
        cases hr : rin (rkN (l.drop (i + 1))) (rkR (l.drop (i + 1))) with
        | none => rw [rout_bad hc hnz hr] at h; cases h
        | some bo =>
          obtain ⟨b, o⟩ := bo
          obtain ⟨m, e1, e2, e3, e4⟩ := rin_text _ _ (Nat.le_refl _) _ _ _ (by omega) hr
          have hb4 : b % 4 = rkN (l.drop (i + 1)) := by omega
          rw [mkF_low (k := rkN (l.drop (i + 1))) (by omega), List.nil_append] at e1
          have hf : ftx (fdOf (bstr (l.take i)) b) ++ tlO o = l := by
            rw [ftx_of, e1, hb4]
            refine Eq.trans ?_ hl.symm
            rw [List.append_assoc, List.cons_append, List.append_assoc, ← e2, ← hk]
          cases o with
          | none =>
            rw [rout_last hc hnz hr] at h
            injection h with h
            subst h
            refine ⟨by simp, by simp, ?_⟩
            rw [stx_one]
            simpa [tlO] using hf
          | some rest =>
            rw [rout_more hc hnz hr] at h
            cases hq : rout n rest with
            | none => rw [hq] at h; cases h
            | some G =>
              rw [hq] at h
              injection h with h
              subst h
              obtain ⟨g1, g2, g3⟩ := rout_text n rest G hq
              exact ⟨by simp, by simp; omega, by rw [stx_more _ g1, g3]; exact hf⟩
end Go.Proofs.YtbhoplmbiomogaaDoor
