import Derived.Test.YtohnkamobmkhkaaDoorIzc
namespace Go.Proofs.YtohnkamobmkhkaaDoor
open Go.ChangeShapes Go.WideShapes Go.ChangeAt Go.RowKit

theorem opsI_at {x : In} {j : Nat} (hj : j < arN x.op) (hl : j < (opsI x).length) : (opsI x)[j] = if j = 0 then x.a else x.b := by
  have := arN_le x.op
  have e : (opsI x)[j]? = some (if j = 0 then x.a else x.b) := by
    unfold opsI
    rw [List.getElem?_take, if_pos hj]
    match j with
    | 0 => rfl
    | 1 => rfl
    | j + 2 => omega
  rw [List.getElem?_eq_getElem hl] at e
  exact Option.some.inj e
theorem ops_snoc {l : List Nat} {j : Nat} (h : j < l.length) : ((l.take (j + 1)).map uvb).flatten = ((l.take j).map uvb).flatten ++ uvb l[j] := by
  rw [List.take_succ_eq_append_getElem h, List.map_append, List.flatten_append]; simp
end Go.Proofs.YtohnkamobmkhkaaDoor
