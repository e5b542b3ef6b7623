import Derived.Test.YtmddcjjmlfpffaaAug
import Derived.Test.YtmddcjjmlfpffaaBld
namespace Go.Proofs.Ytmddcjjmlfpffaa
open Go.ChangeShapes Go.WideShapes Go.ChangeAt Go.RowKit

/-! The document's elements, as far as to whether there are any. -/
theorem elsR_same : ∀ (n : Nat) (l : List UInt8) (L M : List Int), l.length ≤ n → (elsR L l).isSome = (elsR M l).isSome := by
  intro n
  induction n with
  | zero =>
    intro l L M hl
    cases l with
    | nil => rw [elsRn, elsRn]; rfl
    | cons a r => simp at hl
  | succ n ih =>
    intro l L M hl
    cases l with
    | nil => rw [elsRn, elsRn]; rfl
    | cons c r =>
      rw [List.length_cons] at hl
      by_cases h1 : c = 63
      · subst h1
        rw [elsR63, elsR63]
        exact ih r _ _ (by omega)
      · by_cases h2 : c = 42
        · subst h2
          rw [elsR42, elsR42]
          exact ih r _ _ (by omega)
        · by_cases h3 : c = 92
          · subst h3
            cases r with
            | nil => rw [elsR92n, elsR92n]
            | cons d r =>
              rw [elsR92, elsR92]
              rw [List.length_cons] at hl
              exact ih r _ _ (by omega)
          · rw [elsRo L c r h1 h2 h3, elsRo M c r h1 h2 h3]
            exact ih r _ _ (by omega)
/-- Is it a pattern? -/
def gd (l : List UInt8) : Bool := (elsR [] l).isSome
theorem gd63 (r : List UInt8) : gd (63 :: r) = gd r := by unfold gd; rw [elsR63]; exact elsR_same _ r _ _ (Nat.le_refl _)
theorem gd42 (r : List UInt8) : gd (42 :: r) = gd r := by unfold gd; rw [elsR42]; exact elsR_same _ r _ _ (Nat.le_refl _)
theorem gd92n : gd [92] = false := by unfold gd; rw [elsR92n]; rfl
theorem gd92 (d : UInt8) (r : List UInt8) : gd (92 :: d :: r) = gd r := by unfold gd; rw [elsR92]; exact elsR_same _ r _ _ (Nat.le_refl _)
theorem gdo (c : UInt8) (r : List UInt8) (h1 : c ≠ 63) (h2 : c ≠ 42) (h3 : c ≠ 92) : gd (c :: r) = gd r := by unfold gd; rw [elsRo [] c r h1 h2 h3]; exact elsR_same _ r _ _ (Nat.le_refl _)
theorem gdn : gd [] = true := by unfold gd; rw [elsRn]; rfl
end Go.Proofs.Ytmddcjjmlfpffaa
