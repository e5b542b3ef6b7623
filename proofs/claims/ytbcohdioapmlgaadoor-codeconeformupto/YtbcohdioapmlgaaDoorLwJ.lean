import Derived.Test.YtbcohdioapmlgaaDoorLwI
namespace Go.Proofs.YtbcohdioapmlgaaDoor
open Go.ChangeShapes Go.WideShapes Go.ChangeAt Go.RowKit

/-- A count and what is behind it, cut: the count is too short, or it is whole. -/
theorem cut_two (n k : Nat) (b : List Int) (hn : n < 18446744073709551616) (hk : k < (uvb n ++ b).length) : rdu 0 0 ((uvb n ++ b).take k) = .error 0 ∨ ∃ j, rdu 0 0 ((uvb n ++ b).take k) = .ok (n, (uvb n).length) ∧ ((uvb n ++ b).take k).drop (uvb n).length = b.take j ∧ j < b.length ∧ k = (uvb n).length + j := by
  rw [List.length_append] at hk
  rw [List.take_append]
  by_cases hlt : k < (uvb n).length
  · rw [show k - (uvb n).length = 0 by omega, List.take_zero, List.append_nil]
    exact .inl (rdu_cut n k hn hlt)
  · rw [List.take_of_length_le (Nat.not_lt.1 hlt)]
    exact .inr ⟨k - (uvb n).length, rdu_uvb n _ hn, List.drop_left, by omega, by omega⟩
end Go.Proofs.YtbcohdioapmlgaaDoor
