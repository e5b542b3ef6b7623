import Derived.Test.YtacmmclamkhpcaaDoorAux
namespace Go.Proofs.YtacmmclamkhpcaaDoor
open Go.ChangeShapes Go.WideShapes Go.ChangeAt Go.RowKit

/-! The number of edits between two lists of bytes: a distance. -/
def levA (x : UInt8) (f : List UInt8 → Nat) : List UInt8 → Nat
  | [] => f [] + 1
  | y :: b => min (min (f (y :: b) + 1) (levA x f b + 1)) (f b + chg x.toNat y.toNat)
def lev : List UInt8 → List UInt8 → Nat
  | [] => List.length
  | x :: a => levA x (lev a)
theorem lev_nil (b : List UInt8) : lev [] b = b.length := rfl
theorem lev_cn (x : UInt8) (a : List UInt8) : lev (x :: a) [] = lev a [] + 1 := rfl
theorem lev_cc (x y : UInt8) (a b : List UInt8) : lev (x :: a) (y :: b) = min (min (lev a (y :: b) + 1) (lev (x :: a) b + 1)) (lev a b + chg x.toNat y.toNat) := rfl
theorem lev_nil2 (a : List UInt8) : lev a [] = a.length := by
  induction a with
  | nil => rfl
  | cons x a ih => rw [lev_cn, ih, List.length_cons]
theorem chg_le (x y : Nat) : chg x y ≤ 1 := by unfold chg; split <;> omega
theorem chg_symm (x y : Nat) : chg x y = chg y x := by unfold chg; split <;> split <;> omega
theorem chg_tri (x y z : Nat) : chg x z ≤ chg x y + chg y z := by unfold chg; split <;> split <;> split <;> omega
theorem chg_self (x : Nat) : chg x x = 0 := by unfold chg; rw [if_pos rfl]
theorem lev_symm : ∀ a b : List UInt8, lev a b = lev b a := by
  intro a
  induction a with
  | nil => intro b; rw [lev_nil, lev_nil2]
  | cons x a iha =>
    intro b
    induction b with
    | nil => rw [lev_nil2, lev_nil]
    | cons y b ihb =>
      rw [lev_cc, lev_cc, iha (y :: b), ihb, iha b, chg_symm]
      omega
theorem lev_up (x : UInt8) (a b : List UInt8) : lev (x :: a) b ≤ lev a b + 1 := by
  cases b with
  | nil => rw [lev_cn]; exact Nat.le_refl _
  | cons y b => rw [lev_cc]; omega
theorem lev_up2 (a : List UInt8) (y : UInt8) (b : List UInt8) : lev a (y :: b) ≤ lev a b + 1 := by rw [lev_symm a, lev_symm a]; exact lev_up y b a
theorem lev_dn (x : UInt8) (a : List UInt8) : ∀ b : List UInt8, lev a b ≤ lev (x :: a) b + 1 := by
  intro b
  induction b with
  | nil => rw [lev_cn]; omega
  | cons y b ih =>
    have := lev_up2 a y b
    have := chg_le x.toNat y.toNat
    rw [lev_cc]
    omega
theorem lev_dn2 (a : List UInt8) (y : UInt8) (b : List UInt8) : lev a b ≤ lev a (y :: b) + 1 := by rw [lev_symm a, lev_symm a]; exact lev_dn y b a
theorem lev_low : ∀ a b : List UInt8, a.length ≤ lev a b + b.length ∧ b.length ≤ lev a b + a.length := by
  intro a
  induction a with
  | nil => intro b; rw [lev_nil]; simp
  | cons x a iha =>
    intro b
    induction b with
    | nil => rw [lev_nil2]; simp
    | cons y b ihb =>
      have h1 := iha (y :: b)
      have h2 := iha b
      rw [lev_cc]
      simp only [List.length_cons] at *
      omega
theorem lev_high : ∀ a b : List UInt8, lev a b ≤ max a.length b.length := by
  intro a
  induction a with
  | nil => intro b; rw [lev_nil]; simp
  | cons x a iha =>
    intro b
    cases b with
    | nil => rw [lev_nil2]; simp
    | cons y b =>
      have h2 := iha b
      have := chg_le x.toNat y.toNat
      rw [lev_cc]
      simp only [List.length_cons] at *
      omega
theorem lev_self (a : List UInt8) : lev a a = 0 := by
  induction a with
  | nil => rfl
  | cons x a ih => rw [lev_cc, ih, chg_self]; omega
theorem lev_zero : ∀ a b : List UInt8, lev a b = 0 → a = b := by
  intro a
  induction a with
  | nil => intro b h; rw [lev_nil] at h; exact (List.length_eq_zero_iff.1 h).symm
  | cons x a iha =>
    intro b h
    cases b with
    | nil => rw [lev_nil2] at h; simp at h
    | cons y b =>
      rw [lev_cc] at h
      have h1 : lev a b = 0 := by omega
      have h2 : chg x.toNat y.toNat = 0 := by omega
      have h3 : x = y := by
        unfold chg at h2
        split at h2
        · rename_i e; exact UInt8.toNat_inj.1 e
        · cases h2
      rw [iha b h1, h3]
theorem lev_tri : ∀ (n : Nat) (a b c : List UInt8), a.length + b.length + c.length ≤ n → lev a c ≤ lev a b + lev b c := by
  intro n
  induction n with
  | zero =>
    intro a b c h
    have h1 : a = [] := List.length_eq_zero_iff.1 (by omega)
    have h2 : c = [] := List.length_eq_zero_iff.1 (by omega)
    subst h1; subst h2
    rw [lev_nil]
    simp
  | succ n ih =>
    intro a b c h
    cases a with
    | nil => rw [lev_nil, lev_nil]; have := (lev_low b c).2; omega
    | cons x a =>
      cases c with
      | nil => rw [lev_nil2, lev_nil2]; have := (lev_low (x :: a) b).1; omega
      | cons z c =>
        cases b with
        | nil =>
          have := lev_high (x :: a) (z :: c)
          rw [lev_nil, lev_nil2]
          omega
        | cons y b =>
          simp only [List.length_cons] at h
          have i1 := ih a (y :: b) (z :: c) (by simp only [List.length_cons]; omega)
          have i2 := ih (x :: a) (y :: b) c (by simp only [List.length_cons]; omega)
          have i3 := ih (x :: a) b (z :: c) (by simp only [List.length_cons]; omega)
          have i4 := ih (x :: a) b c (by simp only [List.length_cons]; omega)
          have i5 := ih a b (z :: c) (by simp only [List.length_cons]; omega)
          have i6 := ih a b c (by omega)
          have u1 := lev_up x a (z :: c)
          have u2 := lev_up2 (x :: a) z c
          have t := chg_tri x.toNat y.toNat z.toNat
          have e1 := lev_cc x y a b
          have e2 := lev_cc y z b c
          have e3 := lev_cc x z a c
          omega
theorem lev_head (x : UInt8) (a b : List UInt8) : lev (x :: a) (x :: b) = lev a b := by
  have h1 := lev_dn2 a x b
  have h2 := lev_dn x a b
  rw [lev_cc, chg_self]
  omega
theorem lev_heads (t a b : List UInt8) : lev (t ++ a) (t ++ b) = lev a b := by
  induction t with
  | nil => rfl
  | cons x t ih => rw [List.cons_append, List.cons_append, lev_head, ih]
theorem lev_last (c : UInt8) : ∀ a b : List UInt8, lev (a ++ [c]) (b ++ [c]) = lev a b := by
  have up : ∀ a b : List UInt8, lev (a ++ [c]) (b ++ [c]) ≤ lev a b := by
    intro a
    induction a with
    | nil =>
      intro b
      induction b with
      | nil => exact Nat.le_of_eq (lev_self _)
      | cons y b ih =>
        have := lev_up2 ([] ++ [c]) y (b ++ [c])
        rw [List.cons_append, lev_nil, List.length_cons]
        rw [lev_nil] at ih
        omega
    | cons x a iha =>
      intro b
      induction b with
      | nil =>
        have h1 := lev_up x (a ++ [c]) ([] ++ [c])
        have h2 := iha []
        rw [lev_nil2] at h2
        rw [List.cons_append, lev_nil2, List.length_cons]
        omega
      | cons y b ihb =>
        have h1 := iha (y :: b)
        have h2 := iha b
        rw [List.cons_append] at *
        rw [List.cons_append] at *
        rw [lev_cc, lev_cc]
        omega
  have dn : ∀ a b : List UInt8, lev a b ≤ lev (a ++ [c]) (b ++ [c]) := by
    intro a
    induction a with
    | nil =>
      intro b
      have := (lev_low ([] ++ [c]) (b ++ [c])).2
      rw [lev_nil]
      simp only [List.nil_append, List.length_append, List.length_cons, List.length_nil] at *
      omega
    | cons x a iha =>
      intro b
      induction b with
      | nil =>
        have := (lev_low (x :: a ++ [c]) ([] ++ [c])).1
        rw [lev_nil2]
        simp only [List.nil_append, List.length_append, List.length_cons, List.length_nil] at *
        omega
      | cons y b ihb =>
        have h1 := iha (y :: b)
        have h2 := iha b
        rw [List.cons_append] at *
        rw [List.cons_append] at *
        rw [lev_cc, lev_cc]
        omega
  intro a b
  exact Nat.le_antisymm (up a b) (dn a b)
theorem lev_lasts (t : List UInt8) : ∀ a b : List UInt8, lev (a ++ t) (b ++ t) = lev a b := by
  induction t with
  | nil => intro a b; rw [List.append_nil, List.append_nil]
  | cons x t ih =>
    intro a b
    have h1 : a ++ x :: t = (a ++ [x]) ++ t := by simp
    have h2 : b ++ x :: t = (b ++ [x]) ++ t := by simp
    rw [h1, h2, ih, lev_last]
/-- The number of edits between two texts. -/
def led2 (a b : List UInt8) : Nat := lev a.reverse b.reverse
theorem led2_symm (a b : List UInt8) : led2 a b = led2 b a := lev_symm _ _
theorem led2_zero (a b : List UInt8) : led2 a b = 0 ↔ a = b := by
  constructor
  · intro h; exact List.reverse_inj.1 (lev_zero _ _ h)
  · intro h; rw [h]; exact lev_self _
theorem led2_tri (a b c : List UInt8) : led2 a c ≤ led2 a b + led2 b c := lev_tri _ _ _ _ (Nat.le_refl _)
theorem led2_low (a b : List UInt8) : a.length ≤ led2 a b + b.length ∧ b.length ≤ led2 a b + a.length := by
  have := lev_low a.reverse b.reverse
  rw [List.length_reverse, List.length_reverse] at this
  exact this
theorem led2_high (a b : List UInt8) : led2 a b ≤ max a.length b.length := by
  have := lev_high a.reverse b.reverse
  rw [List.length_reverse, List.length_reverse] at this
  exact this
theorem led2_head (x a b : List UInt8) : led2 (x ++ a) (x ++ b) = led2 a b := by unfold led2; rw [List.reverse_append, List.reverse_append, lev_lasts]
theorem led2_last (x a b : List UInt8) : led2 (a ++ x) (b ++ x) = led2 a b := by unfold led2; rw [List.reverse_append, List.reverse_append, lev_heads]
end Go.Proofs.YtacmmclamkhpcaaDoor
