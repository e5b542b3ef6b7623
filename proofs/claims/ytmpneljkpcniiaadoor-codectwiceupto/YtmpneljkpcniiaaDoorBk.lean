import Derived.Test.YtmpneljkpcniiaaDoorRdL
namespace Go.Proofs.YtmpneljkpcniiaaDoor
open Go.ChangeShapes Go.WideShapes Go.ChangeAt Go.RowKit

theorem pow7 (n i : Nat) : n / 128 * 2 ^ (7 * (i + 1)) = n / 128 * 128 * 2 ^ (7 * i) := by
  rw [show 7 * (i + 1) = 7 + 7 * i by omega, Nat.pow_add, ← Nat.mul_assoc]
/-- A written uvarint is read again, whatever stands behind it. -/
theorem rdu_uvb_at : ∀ (n i acc : Nat) (r : List Int), i ≤ 9 → n < 2 ^ (64 - 7 * i) → (0 < i → 0 < n) → rdu i acc (uvb n ++ r) = .ok (acc + n * 2 ^ (7 * i), i + (uvb n).length) := by
  intro n
  induction n using Nat.strongRecOn with
  | ind n ih =>
    intro i acc r hi hn h0
    have h9 : i = 9 → n < 2 := by intro e; subst e; simpa using hn
    by_cases h : n < 128
    · rw [uvb_small h, List.singleton_append, rdu, if_neg (by omega), if_pos (by omega), if_neg (by omega)]
      have e : (n : Int).toNat % 128 = n := by omega
      rw [e]
      rfl
    · have hi9 : i < 9 := by
        rcases Nat.lt_or_ge i 9 with h1 | h1
        · exact h1
        · have := h9 (by omega); omega
      rw [uvb_big h, List.cons_append, rdu, if_neg (by omega), if_neg (by omega)]
      have e : (128 + (n : Int) % 128).toNat % 128 = n % 128 := by omega
      have hn2 : n / 128 < 2 ^ (64 - 7 * (i + 1)) := by
        apply Nat.div_lt_of_lt_mul
        rw [show (128 : Nat) = 2 ^ 7 by decide, ← Nat.pow_add, show 7 + (64 - 7 * (i + 1)) = 64 - 7 * i by omega]
        exact hn
      rw [e, ih (n / 128) (by omega) (i + 1) _ r (by omega) hn2 (by omega), pow7, List.length_cons]
      have e2 : acc + n % 128 * 2 ^ (7 * i) + n / 128 * 128 * 2 ^ (7 * i) = acc + n * 2 ^ (7 * i) := by
        rw [Nat.add_assoc, ← Nat.add_mul]
        congr 2
        omega
      rw [e2]
      congr 2
      omega
theorem rdu_uvb (n : Nat) (r : List Int) (h : n < 18446744073709551616) : rdu 0 0 (uvb n ++ r) = .ok (n, (uvb n).length) := by
  have := rdu_uvb_at n 0 0 r (by omega) (by simpa using h) (fun h => by omega)
  simpa using this
/-- Cut ahead of its end it is too short. -/
theorem rdu_cut_at : ∀ (n i acc k : Nat), i ≤ 9 → n < 2 ^ (64 - 7 * i) → k < (uvb n).length → rdu i acc ((uvb n).take k) = .error 0 := by
  intro n
  induction n using Nat.strongRecOn with
  | ind n ih =>
    intro i acc k hi hn hk
    have h9 : i = 9 → n < 2 := by intro e; subst e; simpa using hn
    cases k with
    | zero => rw [List.take_zero, rdu]
    | succ k =>
      by_cases h : n < 128
      · rw [uvb_small h] at hk; simp at hk
      · have hi9 : i < 9 := by
          rcases Nat.lt_or_ge i 9 with h1 | h1
          · exact h1
          · have := h9 (by omega); omega
        rw [uvb_big h, List.length_cons] at hk
        rw [uvb_big h, List.take_succ_cons, rdu, if_neg (by omega), if_neg (by omega)]
        have hn2 : n / 128 < 2 ^ (64 - 7 * (i + 1)) := by
          apply Nat.div_lt_of_lt_mul
          rw [show (128 : Nat) = 2 ^ 7 by decide, ← Nat.pow_add, show 7 + (64 - 7 * (i + 1)) = 64 - 7 * i by omega]
          exact hn
        exact ih (n / 128) (by omega) (i + 1) _ k (by omega) hn2 (by omega)
theorem rdu_cut (n k : Nat) (h : n < 18446744073709551616) (hk : k < (uvb n).length) : rdu 0 0 ((uvb n).take k) = .error 0 :=
  rdu_cut_at n 0 0 k (by omega) (by simpa using h) hk
/-- What is read as a number is what is written for it. -/
theorem rdu_form_at : ∀ (l : List Int) (i acc v k : Nat), i ≤ 9 → IsBytes l → rdu i acc l = .ok (v, k) → ∃ n, v = acc + n * 2 ^ (7 * i) ∧ (0 < i → 0 < n) ∧ i ≤ k ∧ l.take (k - i) = uvb n := by
  intro l
  induction l with
  | nil => intro i acc v k _ _ h; simp [rdu] at h
  | cons c r ih =>
    intro i acc v k hi hB h
    have hc := hB c (List.mem_cons_self ..)
    rw [rdu] at h
    split at h
    · cases h
    · rename_i h9
      split at h
      · rename_i hc1
        split at h
        · cases h
        · rename_i hz
          simp only [Except.ok.injEq, Prod.mk.injEq] at h
          obtain ⟨rfl, rfl⟩ := h
          refine ⟨c.toNat, ?_, by omega, by omega, ?_⟩
          · rw [Nat.mod_eq_of_lt (by omega)]
          · rw [show i + 1 - i = 1 by omega, uvb_small (by omega)]
            simp
            omega
      · rename_i hc1
        obtain ⟨n, e1, e2, e3, e4⟩ := ih (i + 1) _ v k (by omega) (fun x hx => hB x (List.mem_cons_of_mem _ hx)) h
        have h0 := e2 (by omega)
        refine ⟨c.toNat % 128 + 128 * n, ?_, by omega, by omega, ?_⟩
        · rw [e1, show 7 * (i + 1) = 7 + 7 * i by omega, Nat.pow_add, ← Nat.mul_assoc, Nat.add_assoc, ← Nat.add_mul]
          congr 2
          omega
        · rw [show k - i = (k - (i + 1)) + 1 by omega, List.take_succ_cons, e4, uvb_big (n := c.toNat % 128 + 128 * n) (by omega)]
          congr 1
          · omega
          · congr 1; omega
theorem rdu_form {l : List Int} {n k : Nat} (hB : IsBytes l) (h : rdu 0 0 l = .ok (n, k)) : l.take k = uvb n := by
  obtain ⟨m, e1, _, _, e4⟩ := rdu_form_at l 0 0 n k (by omega) hB h
  simp at e1 e4
  rw [e4, e1]

/-- The lists that a Writer takes as rising ones, from the least number that may come. -/
def Ris : List Int → Nat → Prop
  | [], _ => True
  | x :: r, s => (s : Int) ≤ x ∧ x ≤ 9223372036854775807 ∧ Ris r (x.toNat + 1)
theorem ris_of {l : List Int} (hI : IsInts l) (h0 : ∀ x ∈ l, 0 ≤ x) (hr : riseB l = true) : Ris l 0 := by
  rw [riseB_iff] at hr
  have : ∀ (l : List Int) (s : Nat), IsInts l → (∀ x, l[0]? = some x → (s : Int) ≤ x) → (∀ j, j + 1 < l.length → l[j]?.getD 0 < l[j + 1]?.getD 0) → Ris l s := by
    intro l
    induction l with
    | nil => intro s _ _ _; trivial
    | cons x r ih =>
      intro s hI h1 h2
      have hx := hI x (List.mem_cons_self ..)
      have hs := h1 x rfl
      refine ⟨hs, hx.2, ih _ (fun y hy => hI y (List.mem_cons_of_mem _ hy)) ?_ ?_⟩
      · intro y hy
        have hl : 1 < (x :: r).length := by
          cases r with
          | nil => simp at hy
          | cons a b => simp
        have := h2 0 hl
        simp only [Nat.zero_add, List.getElem?_cons_zero, List.getElem?_cons_succ, hy, Option.getD_some] at this
        omega
      · intro j hj
        have := h2 (j + 1) (by simp; omega)
        simpa using this
  refine this l 0 hI ?_ hr
  intro x hx
  exact h0 x (List.mem_of_getElem? hx)
theorem Ris.mem : ∀ {l : List Int} {s : Nat}, Ris l s → ∀ x ∈ l, (s : Int) ≤ x ∧ x ≤ 9223372036854775807 := by
  intro l
  induction l with
  | nil => intro s _ x hx; cases hx
  | cons y r ih =>
    intro s h x hx
    obtain ⟨h1, h2, h3⟩ := h
    rcases List.mem_cons.1 hx with rfl | hx
    · exact ⟨h1, h2⟩
    · have := ih h3 x hx
      omega
theorem Ris.rise : ∀ {l : List Int} {s : Nat}, Ris l s → riseB l = true := by
  intro l
  induction l with
  | nil => intro s _; rfl
  | cons y r ih =>
    intro s h
    rw [riseB_iff]
    intro j hj
    obtain ⟨h1, h2, h3⟩ := h
    cases j with
    | zero =>
      cases r with
      | nil => simp at hj
      | cons z t =>
        obtain ⟨h4, _⟩ := h3
        simp
        omega
    | succ j =>
      have := (riseB_iff r).1 (ih h3) j (by simpa using hj)
      simpa using this
/-- A written rising list is read again, whatever stands behind it. -/
theorem rdr_back : ∀ (l : List Int) (s : Nat) (r : List Int), Ris l s → rdr l.length s (risb l s ++ r) = .ok (l, (risb l s).length) := by
  intro l
  induction l with
  | nil => intro s r _; rfl
  | cons x t ih =>
    intro s r h
    obtain ⟨h1, h2, h3⟩ := h
    rw [List.length_cons, risb, List.append_assoc, rdr_step _ _ _ _ _ (rdu_uvb (x.toNat - s) _ (by omega)) (by omega), List.drop_left, show s + (x.toNat - s) + 1 = x.toNat + 1 by omega, ih _ _ h3, List.length_append]
    have e : ((s + (x.toNat - s) : Nat) : Int) = x := by omega
    simp only [e]
theorem rdr_cut : ∀ (l : List Int) (s k : Nat), Ris l s → k < (risb l s).length → rdr l.length s ((risb l s).take k) = .error 0 := by
  intro l
  induction l with
  | nil => intro s k _ h; simp [risb] at h
  | cons x t ih =>
    intro s k h hk
    obtain ⟨h1, h2, h3⟩ := h
    rw [risb, List.length_append] at hk
    rw [List.length_cons, risb, List.take_append]
    by_cases hlt : k < (uvb (x.toNat - s)).length
    · rw [show k - (uvb (x.toNat - s)).length = 0 by omega, List.take_zero, List.append_nil]
      exact rdr_err _ _ _ _ (rdu_cut _ _ (by omega) hlt)
    · rw [List.take_of_length_le (Nat.not_lt.1 hlt), rdr_step _ _ _ _ _ (rdu_uvb (x.toNat - s) _ (by omega)) (by omega), List.drop_left, show s + (x.toNat - s) + 1 = x.toNat + 1 by omega, ih _ _ h3 (by omega)]
/-- What is read as a rising list is what is written for it. -/
theorem rdr_form : ∀ (n s : Nat) (l xs : List Int) (m : Nat), IsBytes l → rdr n s l = .ok (xs, m) → xs.length = n ∧ Ris xs s ∧ l.take m = risb xs s ∧ m ≤ l.length := by
  intro n
  induction n with
  | zero =>
    intro s l xs m _ h
    simp only [rdr, Except.ok.injEq, Prod.mk.injEq] at h
    obtain ⟨rfl, rfl⟩ := h
    exact ⟨rfl, trivial, rfl, by omega⟩
  | succ n ih =>
    intro s l xs m hB h
    cases hu : rdu 0 0 l with
    | error e => rw [rdr_err _ _ _ _ hu] at h; cases h
    | ok xk =>
      obtain ⟨x, k⟩ := xk
      by_cases hl : 9223372036854775807 < s + x
      · rw [rdr_lim _ _ _ _ _ hu hl] at h; cases h
      · rw [rdr_step _ _ _ _ _ hu (by omega)] at h
        cases hd : rdr n (s + x + 1) (l.drop k) with
        | error e => rw [hd] at h; cases h
        | ok rm =>
          obtain ⟨r, m'⟩ := rm
          rw [hd] at h
          simp only [Except.ok.injEq, Prod.mk.injEq] at h
          obtain ⟨rfl, rfl⟩ := h
          obtain ⟨i1, i2, i3, i4⟩ := ih _ _ _ _ (fun y hy => hB y (List.mem_of_mem_drop hy)) hd
          have hk := rdu_le _ _ _ _ _ hu
          have hf := rdu_form hB hu
          rw [List.length_drop] at i4
          refine ⟨by simp [i1], ⟨by omega, by omega, by rw [show ((s + x : Nat) : Int).toNat + 1 = s + x + 1 by omega]; exact i2⟩, ?_, by omega⟩
          rw [risb, show ((s + x : Nat) : Int).toNat - s = x by omega, show ((s + x : Nat) : Int).toNat + 1 = s + x + 1 by omega, ← i3, ← hf, List.take_add]
end Go.Proofs.YtmpneljkpcniiaaDoor
