import Derived.Test.YtiemiphlfbaojaaDoorLxa
import Derived.Test.YtiemiphlfbaojaaDoorFrm
import Derived.Test.YtiemiphlfbaojaaDoorErrs
import Derived.Lib.LaidTab
namespace Go.Proofs.YtiemiphlfbaojaaDoor
open Go.ChangeShapes Go.WideShapes Go.ChangeAt Go.RowKit

theorem Tryd.gCls : Tryd.prog.globalNamed "concord/lexer.classes" = some 25 := by kernel_rfl
theorem Tryd.gtCls : (Tryd.prog.globals[25]?).map (·.type) = some 106 := by kernel_rfl
theorem Tryd.cCls1 : Tryd.prog.cellsOf 5 = 1 := by kernel_rfl
theorem Tryd.cCls : Tryd.prog.cellsOf 106 = 127 := by kernel_rfl
set_option maxRecDepth 20000 in
theorem cls_data {H : Type} : (Rows.laid_concord_lexer_classes : DataW H) = Lib.tabData .u8 (clsT.map Int.ofNat) := rfl
set_option maxRecDepth 20000 in
/-- What the listed classes give. -/
theorem cls_at {W : World} {L : List (String × DataW Unit)} (h : laidMet Tryd.prog L W) (hm : ("concord/lexer.classes", Rows.laid_concord_lexer_classes) ∈ L) : ClsAt W := by
  obtain ⟨r, h⟩ := laidMet_mem h _ hm
  obtain ⟨ps, ⟨g', t', cs, fuel, p, q, hg', ht', hvar, hd, _, _⟩, _⟩ := h
  obtain rfl := Option.some.inj (Tryd.gCls.symm.trans hg')
  obtain rfl := Option.some.inj (Tryd.gtCls.symm.trans ht')
  rw [cls_data] at hd
  have c0 := Lib.cells_of_tab Tryd.underlying106 Tryd.underlying5 Tryd.cCls1 Tryd.cCls hd
  have hv : ∀ i, W.cell? ⟨25, i, none⟩ = cs.toList[i]? := fun i => by simpa using World.var?_cell Tryd.gCls hvar i
  refine ⟨fun j hj => ?_⟩
  have hl : j < clsT.length := hj
  rw [hv j, c0, List.getElem?_map, List.getElem?_map, List.getD_eq_getElem?_getD, List.getElem?_eq_getElem hl]
  rfl
end Go.Proofs.YtiemiphlfbaojaaDoor
