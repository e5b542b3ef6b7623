import Derived.Test.YtnkmjhcddegkhaaDoorErrs
namespace Go.Proofs.YtnkmjhcddegkhaaDoor
open Go.ChangeShapes Go.WideShapes Go.ChangeAt Go.RowKit

theorem Tryd.gs_ErrSyntax : Tryd.prog.globalNamed "strconv.ErrSyntax" = some 1 := by kernel_rfl
theorem Tryd.gst_ErrSyntax : (Tryd.prog.globals[1]?).map (·.type) = some 74 := by kernel_rfl
theorem sent20 {W : World} {L : List (String × DataW Unit)} (h : laidMet Tryd.prog L W) (hm : ("strconv.ErrSyntax", Rows.laid_strconv_ErrSyntax) ∈ L) : ∃ a, Sent W 96 1 [105, 110, 118, 97, 108, 105, 100, 32, 115, 121, 110, 116, 97, 120] a := by
  obtain ⟨r, h⟩ := laidMet_mem h _ hm
  exact sent_head h Tryd.gs_ErrSyntax Tryd.gst_ErrSyntax Tryd.underlying74 Tryd.rowErr Tryd.underlying96 Tryd.underlying98 rfl rfl Tryd.underlying9 Tryd.cellsErr Tryd.cellsStr
theorem Tryd.gs_ErrRange : Tryd.prog.globalNamed "strconv.ErrRange" = some 2 := by kernel_rfl
theorem Tryd.gst_ErrRange : (Tryd.prog.globals[2]?).map (·.type) = some 74 := by kernel_rfl
theorem sent21 {W : World} {L : List (String × DataW Unit)} (h : laidMet Tryd.prog L W) (hm : ("strconv.ErrRange", Rows.laid_strconv_ErrRange) ∈ L) : ∃ a, Sent W 96 2 [118, 97, 108, 117, 101, 32, 111, 117, 116, 32, 111, 102, 32, 114, 97, 110, 103, 101] a := by
  obtain ⟨r, h⟩ := laidMet_mem h _ hm
  exact sent_head h Tryd.gs_ErrRange Tryd.gst_ErrRange Tryd.underlying74 Tryd.rowErr Tryd.underlying96 Tryd.underlying98 rfl rfl Tryd.underlying9 Tryd.cellsErr Tryd.cellsStr
end Go.Proofs.YtnkmjhcddegkhaaDoor
