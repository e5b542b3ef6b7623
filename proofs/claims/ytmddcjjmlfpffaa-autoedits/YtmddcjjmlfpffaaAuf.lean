import Derived.Test.YtmddcjjmlfpffaaAue
import Derived.Test.YtmddcjjmlfpffaaNma
namespace Go.Proofs.Ytmddcjjmlfpffaa
open Go.ChangeShapes Go.WideShapes Go.ChangeAt Go.RowKit

theorem psh_le (L : List Int) (e : Int) : (psh L e).length ≤ L.length + 1 := psh_len L e
theorem elsR_len : ∀ (n : Nat) (l : List UInt8) (L E : List Int), l.length ≤ n → elsR L l = some E → E.length ≤ L.length + l.length := by
  intro n
  induction n with
  | zero =>
    intro l L E hl h
    cases l with
    | nil => rw [elsRn] at h; cases h; simp
    | cons a r => simp at hl
  | succ n ih =>
    intro l L E hl h
    cases l with
    | nil => rw [elsRn] at h; cases h; simp
    | cons c r =>
      rw [List.length_cons] at hl ⊢
      by_cases h1 : c = 63
      · subst h1
        rw [elsR63] at h
        have := ih r _ E (by omega) h
        have := psh_len L 256
        omega
      · by_cases h2 : c = 42
        · subst h2
          rw [elsR42] at h
          have := ih r _ E (by omega) h
          have := psh_len L 257
          omega
        · by_cases h3 : c = 92
          · subst h3
            cases r with
            | nil => rw [elsR92n] at h; cases h
            | cons d r =>
              rw [elsR92] at h
              rw [List.length_cons] at hl ⊢
              have := ih r _ E (by omega) h
              have := psh_len L (d.toNat : Int)
              omega
          · rw [elsRo L c r h1 h2 h3] at h
            have := ih r _ E (by omega) h
            have := psh_len L (c.toNat : Int)
            omega
end Go.Proofs.Ytmddcjjmlfpffaa
