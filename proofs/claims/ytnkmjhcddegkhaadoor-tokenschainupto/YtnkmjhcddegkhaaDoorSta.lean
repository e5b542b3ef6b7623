import Derived.Test.YtnkmjhcddegkhaaDoorStp
import Derived.Test.YtnkmjhcddegkhaaDoorFrm
import Derived.Test.YtnkmjhcddegkhaaDoorErrs
namespace Go.Proofs.YtnkmjhcddegkhaaDoor
open Go.ChangeShapes Go.WideShapes Go.ChangeAt Go.RowKit

theorem Tryd.gStops : Tryd.prog.globalNamed "concord/tokens.stops" = some 0 := by kernel_rfl
theorem Tryd.gtStops : (Tryd.prog.globals[0]?).map (·.type) = some 48 := by kernel_rfl
theorem Tryd.cStr1 : Tryd.prog.cellsOf 9 = 1 := by kernel_rfl
theorem stops_data {H : Type} : (Rows.laid_concord_tokens_stops : DataW H) = .agg (stL.map (fun l => .lit (.string l))) := rfl
/-- What the listed stop words give. -/
theorem stops_at {W : World} {L : List (String × DataW Unit)} (h : laidMet Tryd.prog L W) (hm : ("concord/tokens.stops", Rows.laid_concord_tokens_stops) ∈ L) : StopsAt W := by
  obtain ⟨r, h⟩ := laidMet_mem h _ hm
  obtain ⟨ps, ⟨g', t', cs, fuel, p, q, hg', ht', hvar, hd, _, _⟩, _⟩ := h
  obtain rfl := Option.some.inj (Tryd.gStops.symm.trans hg')
  obtain rfl := Option.some.inj (Tryd.gtStops.symm.trans ht')
  obtain ⟨xs, n, -, ex, hl, hxl, hel⟩ := DataW.trod_array Tryd.underlying48 hd
  rw [stops_data] at ex
  simp only [Prod.mk.injEq, DataW.agg.injEq] at ex
  obtain ⟨ex, -⟩ := ex
  have hv : ∀ i, W.cell? ⟨0, i, none⟩ = cs.toList[i]? := fun i => by simpa using World.var?_cell Tryd.gStops hvar i
  intro j hj
  have h1 := hel j hj
  rw [Tryd.cStr1, Nat.mul_one, List.getElem?_eq_getElem (by rw [hxl]; exact hj)] at h1
  obtain ⟨s, e1, e2, -⟩ := DataW.trod_string Tryd.underlying9 h1
  have e3 : (xs.map (·.1))[j]? = some (.lit (.string s.data.toList)) := by rw [List.getElem?_map, List.getElem?_eq_getElem (by rw [hxl]; exact hj), e2]; rfl
  rw [← ex, List.getElem?_map, List.getElem?_eq_getElem (show j < stL.length from hj)] at e3
  simp only [Option.map_some, Option.some.injEq, DataW.lit.injEq, Lit.string.injEq] at e3
  have e4 : cs.toList[j]? = some (.string s) := by
    have := congrArg (fun l => l[0]?) e1
    simp only [List.getElem?_take, List.getElem?_drop] at this
    simpa using this
  rw [hv j, e4]
  unfold stB
  rw [List.getD_eq_getElem?_getD, List.getElem?_eq_getElem (show j < stL.length from hj), Option.getD_some, e3]
end Go.Proofs.YtnkmjhcddegkhaaDoor
