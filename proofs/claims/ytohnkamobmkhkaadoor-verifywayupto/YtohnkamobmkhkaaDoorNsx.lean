import Derived.Test.YtohnkamobmkhkaaDoorNma
namespace Go.Proofs.YtohnkamobmkhkaaDoor
open Go.ChangeShapes Go.WideShapes Go.ChangeAt Go.RowKit

theorem Tryd.g_ErrStates : Tryd.prog.globalNamed "concord/api.ErrStates" = some 15 := by kernel_rfl
theorem Tryd.gt_ErrStates : (Tryd.prog.globals[15]?).map (·.type) = some 33 := by kernel_rfl
theorem sent14 {W : World} {L : List (String × DataW Unit)} (h : laidMet Tryd.prog L W) (hm : ("concord/api.ErrStates", Rows.laid_concord_api_ErrStates) ∈ L) : ∃ a, Sent W 123 15 [99, 111, 110, 99, 111, 114, 100, 58, 32, 115, 116, 97, 116, 101, 115] a := by
  obtain ⟨r, h⟩ := laidMet_mem h _ hm
  exact sent_head h Tryd.g_ErrStates Tryd.gt_ErrStates Tryd.underlying33 Tryd.rowErr Tryd.underlying123 Tryd.underlying140 rfl rfl Tryd.underlying9 Tryd.cellsErr Tryd.cellsStr
theorem Tryd.gn_ErrSyntax : Tryd.prog.globalNamed "concord/api.ErrSyntax" = some 16 := by kernel_rfl
theorem Tryd.gnt_ErrSyntax : (Tryd.prog.globals[16]?).map (·.type) = some 33 := by kernel_rfl
theorem sent15 {W : World} {L : List (String × DataW Unit)} (h : laidMet Tryd.prog L W) (hm : ("concord/api.ErrSyntax", Rows.laid_concord_api_ErrSyntax) ∈ L) : ∃ a, Sent W 123 16 [99, 111, 110, 99, 111, 114, 100, 58, 32, 115, 121, 110, 116, 97, 120] a := by
  obtain ⟨r, h⟩ := laidMet_mem h _ hm
  exact sent_head h Tryd.gn_ErrSyntax Tryd.gnt_ErrSyntax Tryd.underlying33 Tryd.rowErr Tryd.underlying123 Tryd.underlying140 rfl rfl Tryd.underlying9 Tryd.cellsErr Tryd.cellsStr
def te14 : List UInt8 := [99, 111, 110, 99, 111, 114, 100, 58, 32, 115, 116, 97, 116, 101, 115]
def te15 : List UInt8 := [99, 111, 110, 99, 111, 114, 100, 58, 32, 115, 121, 110, 116, 97, 120]
theorem hideMore {p : Prop} (h : p) : Hid p := h
structure Errs16 (w : World) (ad : Nat → Addr) : Prop where
  e : Errs14 w ad
  s14 : Sent w 123 15 te14 (ad 14)
  s15 : Sent w 123 16 te15 (ad 15)
theorem Errs16.kept {w w' : World} {ad : Nat → Addr} (h : Errs16 w ad) (k : Kept (fun _ => False) w w') : Errs16 w' ad := ⟨h.e.kept k, h.s14.kept k, h.s15.kept k⟩
set_option maxRecDepth 20000 in
set_option maxHeartbeats 1000000 in
theorem more_syntax {w : World} {ad : Nat → Addr} (h : Errs16 w ad) : Calls Tryd.prog 32 #[.iface 123 (.pointer (some (ad 15)))] w fun e w' => e = .returned (.int .i64 16) ∧ w' = w := by
  have v15 := h.s15.var
  have e15 := errEq w (ad 15)
  clear h
  go_enter Tryd.func32, Tryd.ntmps32
  go_wp2
  go_ret
  exact ⟨rfl, rfl⟩
set_option maxRecDepth 20000 in
set_option maxHeartbeats 1000000 in
theorem num_syntax {w : World} {ad : Nat → Addr} (h : Errs16 w ad) : Calls Tryd.prog 14 #[.iface 123 (.pointer (some (ad 15)))] w fun e w' => e = .returned (.int .i64 16) ∧ w' = w := by
  have CM := hideMore (more_syntax h)
  have v0 := h.e.s0.var
  have v1 := h.e.s1.var
  have v2 := h.e.s2.var
  have v3 := h.e.s3.var
  have v4 := h.e.s4.var
  have v5 := h.e.s5.var
  have v6 := h.e.s6.var
  have v7 := h.e.s7.var
  have v8 := h.e.s8.var
  have v9 := h.e.s9.var
  have v10 := h.e.s10.var
  have v11 := h.e.s11.var
  have v12 := h.e.s12.var
  have v13 := h.e.s13.var
  have v14 := h.s14.var
  have e0 := err_neqF h.s15 h.e.s0 (by decide)
  have e1 := err_neqF h.s15 h.e.s1 (by decide)
  have e2 := err_neqF h.s15 h.e.s2 (by decide)
  have e3 := err_neqF h.s15 h.e.s3 (by decide)
  have e4 := err_neqF h.s15 h.e.s4 (by decide)
  have e5 := err_neqF h.s15 h.e.s5 (by decide)
  have e6 := err_neqF h.s15 h.e.s6 (by decide)
  have e7 := err_neqF h.s15 h.e.s7 (by decide)
  have e8 := err_neqF h.s15 h.e.s8 (by decide)
  have e9 := err_neqF h.s15 h.e.s9 (by decide)
  have e10 := err_neqF h.s15 h.e.s10 (by decide)
  have e11 := err_neqF h.s15 h.e.s11 (by decide)
  have e12 := err_neqF h.s15 h.e.s12 (by decide)
  have e13 := err_neqF h.s15 h.e.s13 (by decide)
  have e14 := err_neqF h.s15 h.s14 (by decide)
  clear h
  go_enter Tryd.func14, Tryd.ntmps14
  go_wp2_with (go_at_call 32; refine CM.out.mono ?_; clear CM; rintro e w6 ⟨rfl, e6⟩; subst e6)
  go_ret
  exact ⟨rfl, rfl⟩
end Go.Proofs.YtohnkamobmkhkaaDoor
