import Derived.Test.YtccmhceehciggaaDoorErrs
namespace Go.Proofs.YtccmhceehciggaaDoor
open Go.ChangeShapes Go.WideShapes Go.ChangeAt Go.RowKit

theorem Tryd.gs_ErrSyntax : Tryd.prog.globalNamed "strconv.ErrSyntax" = some 27 := by kernel_rfl
theorem Tryd.gst_ErrSyntax : (Tryd.prog.globals[27]?).map (·.type) = some 28 := by kernel_rfl
theorem sent20 {W : World} {L : List (String × DataW Unit)} (h : laidMet Tryd.prog L W) (hm : ("strconv.ErrSyntax", Rows.laid_strconv_ErrSyntax) ∈ L) : ∃ a, Sent W 91 27 [105, 110, 118, 97, 108, 105, 100, 32, 115, 121, 110, 116, 97, 120] a := by
  obtain ⟨r, h⟩ := laidMet_mem h _ hm
  exact sent_head h Tryd.gs_ErrSyntax Tryd.gst_ErrSyntax Tryd.underlying28 Tryd.rowErr Tryd.underlying91 Tryd.underlying93 rfl rfl Tryd.underlying9 Tryd.cellsErr Tryd.cellsStr
theorem Tryd.gs_ErrRange : Tryd.prog.globalNamed "strconv.ErrRange" = some 28 := by kernel_rfl
theorem Tryd.gst_ErrRange : (Tryd.prog.globals[28]?).map (·.type) = some 28 := by kernel_rfl
theorem sent21 {W : World} {L : List (String × DataW Unit)} (h : laidMet Tryd.prog L W) (hm : ("strconv.ErrRange", Rows.laid_strconv_ErrRange) ∈ L) : ∃ a, Sent W 91 28 [118, 97, 108, 117, 101, 32, 111, 117, 116, 32, 111, 102, 32, 114, 97, 110, 103, 101] a := by
  obtain ⟨r, h⟩ := laidMet_mem h _ hm
  exact sent_head h Tryd.gs_ErrRange Tryd.gst_ErrRange Tryd.underlying28 Tryd.rowErr Tryd.underlying91 Tryd.underlying93 rfl rfl Tryd.underlying9 Tryd.cellsErr Tryd.cellsStr
end Go.Proofs.YtccmhceehciggaaDoor
