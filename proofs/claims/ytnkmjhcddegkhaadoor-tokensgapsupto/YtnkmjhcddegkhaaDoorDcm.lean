import Derived.WalkKit
import Derived.Lib.ParseIntB
namespace Go.Proofs.YtnkmjhcddegkhaaDoor
open Go.RowKit

/-- A digit. -/
def isD (c : UInt8) : Bool := decide (48 ≤ c.toNat ∧ c.toNat ≤ 57)
/-- What digits spell, behind a. -/
def dval (a : Nat) (l : List UInt8) : Nat := l.foldl (fun a c => a * 10 + (c.toNat - 48)) a
theorem dval_nil (a : Nat) : dval a [] = a := rfl
theorem dval_cons (a : Nat) (c : UInt8) (l : List UInt8) : dval a (c :: l) = dval (a * 10 + (c.toNat - 48)) l := by unfold dval; rw [List.foldl_cons]
theorem dval_append (a : Nat) (l m : List UInt8) : dval a (l ++ m) = dval (dval a l) m := by unfold dval; rw [List.foldl_append]
theorem dval_ge : ∀ (l : List UInt8) (a : Nat), a ≤ dval a l
  | [], a => Nat.le_refl _
  | c :: l, a => by
    have := dval_ge l (a * 10 + (c.toNat - 48))
    rw [dval_cons]; omega
/-- Is there a '-' ahead? -/
def neg : List UInt8 → Bool
  | c :: _ => decide (c.toNat = 45)
  | [] => false
/-- What stands behind it. -/
def body (l : List UInt8) : List UInt8 := if neg l then l.tail else l
/-- A decimal number's value. -/
def dec (l : List UInt8) : Option Int :=
  if body l = [] ∨ (body l).all isD = false then none
  else if neg l then (if dval 0 (body l) ≤ 9223372036854775808 then some (-(dval 0 (body l) : Int)) else none)
  else (if dval 0 (body l) < 9223372036854775808 then some (dval 0 (body l) : Int) else none)
theorem dec_bounds {l : List UInt8} {v : Int} (h : dec l = some v) : -9223372036854775808 ≤ v ∧ v ≤ 9223372036854775807 := by
  unfold dec at h
  split at h
  · cases h
  · split at h <;> split at h <;> first | (cases h; done) | (injection h with h; omega)

theorem pM_ok : ∀ (l : List UInt8) (acc : Nat), l.all isD = true → dval acc l ≤ 18446744073709551615 → Lib.parseUintM 18446744073709551615 acc l = .ok (dval acc l)
  | [], acc, _, _ => rfl
  | c :: r, acc, hd, hv => by
    rw [List.all_cons, Bool.and_eq_true] at hd
    have hc := of_decide_eq_true hd.1
    rw [dval_cons] at hv ⊢
    have hg := dval_ge r (acc * 10 + (c.toNat - 48))
    rw [Lib.parseUintM, if_pos hc, if_neg (by omega), if_neg (by omega)]
    exact pM_ok r _ hd.2 hv
theorem pM_inv : ∀ (M : Nat) (l : List UInt8) (acc u : Nat), Lib.parseUintM M acc l = .ok u → l.all isD = true ∧ u = dval acc l
  | M, [], acc, u, h => by
    rw [Lib.parseUintM] at h
    injection h with h
    exact ⟨rfl, h.symm⟩
  | M, c :: r, acc, u, h => by
    rw [Lib.parseUintM] at h
    by_cases hc : 48 ≤ c.toNat ∧ c.toNat ≤ 57
    · rw [if_pos hc] at h
      split at h
      · cases h
      · split at h
        · cases h
        · obtain ⟨e1, e2⟩ := pM_inv M r _ u h
          refine ⟨?_, e2⟩
          rw [List.all_cons, e1, Bool.and_true]
          exact decide_eq_true hc
    · rw [if_neg hc] at h
      cases h
theorem two64 : 2 ^ 64 - 1 = 18446744073709551615 := by decide
theorem two63 : 2 ^ (64 - 1) = 9223372036854775808 := by decide
theorem pU_ok (l : List UInt8) (hn : l ≠ []) (hd : l.all isD = true) (hv : dval 0 l ≤ 18446744073709551615) : Lib.parseUintB 64 l = .ok (dval 0 l) := by
  rw [Lib.parseUintB, if_neg hn, two64]
  exact pM_ok l 0 hd hv
theorem pU_inv (l : List UInt8) (u : Nat) (h : Lib.parseUintB 64 l = .ok u) : l ≠ [] ∧ l.all isD = true ∧ u = dval 0 l := by
  rw [Lib.parseUintB] at h
  split at h
  · cases h
  · rename_i hn
    exact ⟨hn, pM_inv _ _ _ _ h⟩
theorem body_cons (c : UInt8) (r : List UInt8) (h43 : c.toNat ≠ 43) : (if c.toNat = 43 ∨ c.toNat = 45 then r else c :: r) = body (c :: r) := by
  unfold body neg
  by_cases h : c.toNat = 45
  · rw [if_pos (.inr h)]; simp [h]
  · rw [if_neg (by omega)]; simp [h]
/-- strconv.ParseInt, where no '+' stands ahead. -/
theorem int_some (l : List UInt8) (v : Int) (h43 : l.head?.map (·.toNat) ≠ some 43) (h : dec l = some v) : Lib.parseIntB 64 l = .ok v := by
  match l, h43, h with
  | [], _, h => simp [dec, body, neg] at h
  | c :: r, h43, h =>
    have h43 : c.toNat ≠ 43 := by simpa using h43
    rw [Lib.parseIntB, body_cons c r h43]
    unfold dec at h
    split at h
    · cases h
    · rename_i hb
      have hn : body (c :: r) ≠ [] := fun e => hb (.inl e)
      have hd : (body (c :: r)).all isD = true := by
        cases e : (body (c :: r)).all isD
        · exact absurd (.inr e) hb
        · rfl
      by_cases h45 : c.toNat = 45
      · have e : neg (c :: r) = true := decide_eq_true h45
        rw [if_pos e] at h
        split at h
        · injection h with h
          rename_i hle
          rw [pU_ok _ hn hd (by omega)]
          simp only [two63]
          rw [if_neg (by simp [h45]), if_neg (by omega), if_pos h45, h]
        · cases h
      · have e : ¬ neg (c :: r) = true := by simp [neg, h45]
        rw [if_neg e] at h
        split at h
        · injection h with h
          rename_i hle
          rw [pU_ok _ hn hd (by omega)]
          simp only [two63]
          rw [if_neg (by omega), if_neg (by simp [h45]), if_neg h45, h]
        · cases h
theorem int_none (l : List UInt8) (h43 : l.head?.map (·.toNat) ≠ some 43) (h : dec l = none) : Lib.parseIntB 64 l = .syntax ∨ Lib.parseIntB 64 l = .range := by
  match l, h43, h with
  | [], _, _ => exact .inl rfl
  | c :: r, h43, h =>
    have h43 : c.toNat ≠ 43 := by simpa using h43
    rw [Lib.parseIntB, body_cons c r h43]
    cases hp : Lib.parseUintB 64 (body (c :: r)) with
    | «syntax» => exact .inl rfl
    | range => exact .inr rfl
    | ok u =>
      obtain ⟨hn, hd, rfl⟩ := pU_inv _ _ hp
      unfold dec at h
      rw [if_neg (by rintro (e | e); exact hn e; rw [hd] at e; cases e)] at h
      simp only [two63]
      by_cases h45 : c.toNat = 45
      · have e : neg (c :: r) = true := decide_eq_true h45
        rw [if_pos e] at h
        split at h
        · cases h
        · rw [if_neg (by simp [h45]), if_pos ⟨h45, by omega⟩]
          exact .inr rfl
      · have e : ¬ neg (c :: r) = true := by simp [neg, h45]
        rw [if_neg e] at h
        split at h
        · cases h
        · rw [if_pos ⟨h45, by omega⟩]
          exact .inr rfl
theorem dec_plus (l : List UInt8) (h43 : l.head?.map (·.toNat) = some 43) : dec l = none := by
  match l, h43 with
  | c :: r, h43 =>
    have h43 : c.toNat = 43 := by simpa using h43
    unfold dec
    rw [if_pos]
    right
    simp [body, neg, h43, isD]
end Go.Proofs.YtnkmjhcddegkhaaDoor
