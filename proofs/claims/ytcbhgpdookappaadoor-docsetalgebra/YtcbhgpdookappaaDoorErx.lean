import Derived.Test.YtcbhgpdookappaaDoorErrs
namespace Go.Proofs.YtcbhgpdookappaaDoor
open Go.ChangeShapes Go.WideShapes Go.ChangeAt Go.RowKit

theorem Tryd.g_ErrSchema : Tryd.prog.globalNamed "concord/api.ErrSchema" = some 10 := by kernel_rfl
theorem Tryd.gt_ErrSchema : (Tryd.prog.globals[10]?).map (·.type) = some 26 := by kernel_rfl
theorem sent10 {W : World} {L : List (String × DataW Unit)} (h : laidMet Tryd.prog L W) (hm : ("concord/api.ErrSchema", Rows.laid_concord_api_ErrSchema) ∈ L) : ∃ a, Sent W 112 10 [99, 111, 110, 99, 111, 114, 100, 58, 32, 115, 99, 104, 101, 109, 97] a := by
  obtain ⟨r, h⟩ := laidMet_mem h _ hm
  exact sent_head h Tryd.g_ErrSchema Tryd.gt_ErrSchema Tryd.underlying26 Tryd.rowErr Tryd.underlying112 Tryd.underlying129 rfl rfl Tryd.underlying9 Tryd.cellsErr Tryd.cellsStr
theorem Tryd.g_ErrField : Tryd.prog.globalNamed "concord/api.ErrField" = some 11 := by kernel_rfl
theorem Tryd.gt_ErrField : (Tryd.prog.globals[11]?).map (·.type) = some 26 := by kernel_rfl
theorem sent11 {W : World} {L : List (String × DataW Unit)} (h : laidMet Tryd.prog L W) (hm : ("concord/api.ErrField", Rows.laid_concord_api_ErrField) ∈ L) : ∃ a, Sent W 112 11 [99, 111, 110, 99, 111, 114, 100, 58, 32, 102, 105, 101, 108, 100] a := by
  obtain ⟨r, h⟩ := laidMet_mem h _ hm
  exact sent_head h Tryd.g_ErrField Tryd.gt_ErrField Tryd.underlying26 Tryd.rowErr Tryd.underlying112 Tryd.underlying129 rfl rfl Tryd.underlying9 Tryd.cellsErr Tryd.cellsStr
theorem Tryd.g_ErrValue : Tryd.prog.globalNamed "concord/api.ErrValue" = some 12 := by kernel_rfl
theorem Tryd.gt_ErrValue : (Tryd.prog.globals[12]?).map (·.type) = some 26 := by kernel_rfl
theorem sent12 {W : World} {L : List (String × DataW Unit)} (h : laidMet Tryd.prog L W) (hm : ("concord/api.ErrValue", Rows.laid_concord_api_ErrValue) ∈ L) : ∃ a, Sent W 112 12 [99, 111, 110, 99, 111, 114, 100, 58, 32, 118, 97, 108, 117, 101] a := by
  obtain ⟨r, h⟩ := laidMet_mem h _ hm
  exact sent_head h Tryd.g_ErrValue Tryd.gt_ErrValue Tryd.underlying26 Tryd.rowErr Tryd.underlying112 Tryd.underlying129 rfl rfl Tryd.underlying9 Tryd.cellsErr Tryd.cellsStr
end Go.Proofs.YtcbhgpdookappaaDoor
