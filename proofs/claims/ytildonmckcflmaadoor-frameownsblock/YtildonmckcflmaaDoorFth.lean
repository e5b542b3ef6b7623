import Derived.Test.YtildonmckcflmaaDoorDce
namespace Go.Proofs.YtildonmckcflmaaDoor
open Go.ChangeShapes Go.WideShapes Go.ChangeAt Go.RowKit

theorem OwnB.cap {w W : World} {a : Option Addr} {n c : Nat} {xs : List Int} (h : OwnB w W (.slice a n c) xs) : n ≤ c := by
  rcases h.row.2 with ⟨e, _⟩ | ⟨g, cap, cur, e, _, _, hnc, _⟩
  · simp only [Value.slice.injEq] at e; omega
  · simp only [Value.slice.injEq] at e; omega
end Go.Proofs.YtildonmckcflmaaDoor
