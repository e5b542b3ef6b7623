import Derived.Test.YtnchamenhpppdaaDoorErrs
namespace Go.Proofs.YtnchamenhpppdaaDoor
open Go.ChangeShapes Go.WideShapes Go.ChangeAt Go.RowKit

theorem Tryd.gs_ErrSyntax : Tryd.prog.globalNamed "strconv.ErrSyntax" = some 0 := by kernel_rfl
theorem Tryd.gst_ErrSyntax : (Tryd.prog.globals[0]?).map (·.type) = some 30 := by kernel_rfl
theorem sent20 {W : World} {L : List (String × DataW Unit)} (h : laidMet Tryd.prog L W) (hm : ("strconv.ErrSyntax", Rows.laid_strconv_ErrSyntax) ∈ L) : ∃ a, Sent W 51 0 [105, 110, 118, 97, 108, 105, 100, 32, 115, 121, 110, 116, 97, 120] a := by
  obtain ⟨r, h⟩ := laidMet_mem h _ hm
  exact sent_head h Tryd.gs_ErrSyntax Tryd.gst_ErrSyntax Tryd.underlying30 Tryd.rowErr Tryd.underlying51 Tryd.underlying53 rfl rfl Tryd.underlying9 Tryd.cellsErr Tryd.cellsStr
theorem Tryd.gs_ErrRange : Tryd.prog.globalNamed "strconv.ErrRange" = some 1 := by kernel_rfl
theorem Tryd.gst_ErrRange : (Tryd.prog.globals[1]?).map (·.type) = some 30 := by kernel_rfl
theorem sent21 {W : World} {L : List (String × DataW Unit)} (h : laidMet Tryd.prog L W) (hm : ("strconv.ErrRange", Rows.laid_strconv_ErrRange) ∈ L) : ∃ a, Sent W 51 1 [118, 97, 108, 117, 101, 32, 111, 117, 116, 32, 111, 102, 32, 114, 97, 110, 103, 101] a := by
  obtain ⟨r, h⟩ := laidMet_mem h _ hm
  exact sent_head h Tryd.gs_ErrRange Tryd.gst_ErrRange Tryd.underlying30 Tryd.rowErr Tryd.underlying51 Tryd.underlying53 rfl rfl Tryd.underlying9 Tryd.cellsErr Tryd.cellsStr
end Go.Proofs.YtnchamenhpppdaaDoor
