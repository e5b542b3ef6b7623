import Derived.Test.YtidgofpmnlddaaaGreatDoorMrg8
namespace Go.Proofs.YtidgofpmnlddaaaGreatDoor
open Go.ChangeShapes Go.WideShapes Go.ChangeAt Go.RowKit

theorem Tryz.g_ErrSchema : Tryz.prog.globalNamed "concord/api.ErrSchema" = some 10 := by kernel_rfl
theorem Tryz.gt_ErrSchema : (Tryz.prog.globals[10]?).map (·.type) = some 33 := by kernel_rfl
theorem sent10 {W : World} {L : List (String × DataW Unit)} (h : laidMet Tryz.prog L W) (hm : ("concord/api.ErrSchema", Rows.laid_concord_api_ErrSchema) ∈ L) : ∃ a, Sent W 163 10 [99, 111, 110, 99, 111, 114, 100, 58, 32, 115, 99, 104, 101, 109, 97] a := by
  obtain ⟨r, h⟩ := laidMet_mem h _ hm
  exact sent_head h Tryz.g_ErrSchema Tryz.gt_ErrSchema Tryz.underlying33 Tryz.rowErr Tryz.underlying163 Tryz.underlying179 rfl rfl Tryz.underlying9 Tryz.cellsErr Tryz.cellsStr
theorem Tryz.g_ErrField : Tryz.prog.globalNamed "concord/api.ErrField" = some 11 := by kernel_rfl
theorem Tryz.gt_ErrField : (Tryz.prog.globals[11]?).map (·.type) = some 33 := by kernel_rfl
theorem sent11 {W : World} {L : List (String × DataW Unit)} (h : laidMet Tryz.prog L W) (hm : ("concord/api.ErrField", Rows.laid_concord_api_ErrField) ∈ L) : ∃ a, Sent W 163 11 [99, 111, 110, 99, 111, 114, 100, 58, 32, 102, 105, 101, 108, 100] a := by
  obtain ⟨r, h⟩ := laidMet_mem h _ hm
  exact sent_head h Tryz.g_ErrField Tryz.gt_ErrField Tryz.underlying33 Tryz.rowErr Tryz.underlying163 Tryz.underlying179 rfl rfl Tryz.underlying9 Tryz.cellsErr Tryz.cellsStr
theorem Tryz.g_ErrValue : Tryz.prog.globalNamed "concord/api.ErrValue" = some 12 := by kernel_rfl
theorem Tryz.gt_ErrValue : (Tryz.prog.globals[12]?).map (·.type) = some 33 := by kernel_rfl
theorem sent12 {W : World} {L : List (String × DataW Unit)} (h : laidMet Tryz.prog L W) (hm : ("concord/api.ErrValue", Rows.laid_concord_api_ErrValue) ∈ L) : ∃ a, Sent W 163 12 [99, 111, 110, 99, 111, 114, 100, 58, 32, 118, 97, 108, 117, 101] a := by
  obtain ⟨r, h⟩ := laidMet_mem h _ hm
  exact sent_head h Tryz.g_ErrValue Tryz.gt_ErrValue Tryz.underlying33 Tryz.rowErr Tryz.underlying163 Tryz.underlying179 rfl rfl Tryz.underlying9 Tryz.cellsErr Tryz.cellsStr
end Go.Proofs.YtidgofpmnlddaaaGreatDoor
