import Derived.Test.YtmddcjjmlfpffaaAuf
namespace Go.Proofs.Ytmddcjjmlfpffaa
open Go.ChangeShapes Go.WideShapes Go.ChangeAt Go.RowKit

/-- "a?b*". -/
def pt0 : List UInt8 := [97, 63, 98, 42]
theorem els0 : elsR [] pt0 = some [97, 256, 98, 257] := by
  unfold pt0
  rw [elsRo [] 97 _ (by decide) (by decide) (by decide), elsR63, elsRo _ 98 _ (by decide) (by decide) (by decide), elsR42, elsRn]
  decide
def el0 : List Int := [97, 256, 98, 257]
theorem aa1 : accW el0 [97, 120, 98] = true := by decide +kernel
theorem aa2 : accW el0 [97, 120, 98, 121, 121] = true := by decide +kernel
theorem aa3 : alvW el0 [97] = true := by decide +kernel
theorem aa4 : accW el0 [97, 98] = false := by decide +kernel
theorem aa5 : alvW el0 [98] = false := by decide +kernel
theorem rr1 : (runW el0 [97, 120, 98]).length ≤ 1099511627776 := by decide +kernel
theorem rr2 : (runW el0 [97, 120, 98, 121, 121]).length ≤ 1099511627776 := by decide +kernel
theorem rr4 : (runW el0 [97, 98]).length ≤ 1099511627776 := by decide +kernel
end Go.Proofs.Ytmddcjjmlfpffaa
