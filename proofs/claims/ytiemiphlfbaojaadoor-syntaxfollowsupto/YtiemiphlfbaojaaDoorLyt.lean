import Derived.Test.YtiemiphlfbaojaaDoorLxt
import Derived.Test.YtiemiphlfbaojaaDoorLyi
namespace Go.Proofs.YtiemiphlfbaojaaDoor
open Go.ChangeShapes Go.WideShapes Go.ChangeAt Go.RowKit

theorem Tryd.g_ErrSyntax : Tryd.prog.globalNamed "concord/api.ErrSyntax" = some 16 := by kernel_rfl
theorem Tryd.gt_ErrSyntax : (Tryd.prog.globals[16]?).map (·.type) = some 24 := by kernel_rfl
/-- What the listed error gives. -/
theorem syn_at {W : World} {L : List (String × DataW Unit)} (h : laidMet Tryd.prog L W) (hm : ("concord/api.ErrSyntax", Rows.laid_concord_api_ErrSyntax) ∈ L) : ∃ ad, SynAt W ad := by
  obtain ⟨r, h⟩ := laidMet_mem h _ hm
  obtain ⟨a, hs⟩ := sent_head h Tryd.g_ErrSyntax Tryd.gt_ErrSyntax Tryd.underlying24 Tryd.rowErr Tryd.underlying120 Tryd.underlying135 rfl rfl Tryd.underlying9 Tryd.cellsErr Tryd.cellsStr
  exact ⟨a, ⟨hs.var⟩⟩
end Go.Proofs.YtiemiphlfbaojaaDoor
