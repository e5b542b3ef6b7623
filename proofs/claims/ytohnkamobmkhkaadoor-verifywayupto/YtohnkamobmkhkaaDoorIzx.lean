import Derived.Test.YtohnkamobmkhkaaDoorNsx
import Derived.Test.YtohnkamobmkhkaaDoorOpv
import Derived.Test.YtohnkamobmkhkaaDoorIzf
namespace Go.Proofs.YtohnkamobmkhkaaDoor
open Go.ChangeShapes Go.WideShapes Go.ChangeAt Go.RowKit

theorem Tryd.gi_ErrDeep : Tryd.prog.globalNamed "concord/api.ErrDeep" = some 17 := by kernel_rfl
theorem Tryd.git_ErrDeep : (Tryd.prog.globals[17]?).map (·.type) = some 33 := by kernel_rfl
theorem sent16 {W : World} {L : List (String × DataW Unit)} (h : laidMet Tryd.prog L W) (hm : ("concord/api.ErrDeep", Rows.laid_concord_api_ErrDeep) ∈ L) : ∃ a, Sent W 123 17 [99, 111, 110, 99, 111, 114, 100, 58, 32, 116, 111, 111, 32, 100, 101, 101, 112] a := by
  obtain ⟨r, h⟩ := laidMet_mem h _ hm
  exact sent_head h Tryd.gi_ErrDeep Tryd.git_ErrDeep Tryd.underlying33 Tryd.rowErr Tryd.underlying123 Tryd.underlying140 rfl rfl Tryd.underlying9 Tryd.cellsErr Tryd.cellsStr
def te16 : List UInt8 := [99, 111, 110, 99, 111, 114, 100, 58, 32, 116, 111, 111, 32, 100, 101, 101, 112]
theorem Tryd.gi_ErrNode : Tryd.prog.globalNamed "concord/api.ErrNode" = some 18 := by kernel_rfl
theorem Tryd.git_ErrNode : (Tryd.prog.globals[18]?).map (·.type) = some 33 := by kernel_rfl
theorem sent17 {W : World} {L : List (String × DataW Unit)} (h : laidMet Tryd.prog L W) (hm : ("concord/api.ErrNode", Rows.laid_concord_api_ErrNode) ∈ L) : ∃ a, Sent W 123 18 [99, 111, 110, 99, 111, 114, 100, 58, 32, 110, 111, 100, 101] a := by
  obtain ⟨r, h⟩ := laidMet_mem h _ hm
  exact sent_head h Tryd.gi_ErrNode Tryd.git_ErrNode Tryd.underlying33 Tryd.rowErr Tryd.underlying123 Tryd.underlying140 rfl rfl Tryd.underlying9 Tryd.cellsErr Tryd.cellsStr
def te17 : List UInt8 := [99, 111, 110, 99, 111, 114, 100, 58, 32, 110, 111, 100, 101]
theorem Tryd.gi_ErrTerms : Tryd.prog.globalNamed "concord/api.ErrTerms" = some 19 := by kernel_rfl
theorem Tryd.git_ErrTerms : (Tryd.prog.globals[19]?).map (·.type) = some 33 := by kernel_rfl
theorem sent18 {W : World} {L : List (String × DataW Unit)} (h : laidMet Tryd.prog L W) (hm : ("concord/api.ErrTerms", Rows.laid_concord_api_ErrTerms) ∈ L) : ∃ a, Sent W 123 19 [99, 111, 110, 99, 111, 114, 100, 58, 32, 116, 111, 111, 32, 109, 97, 110, 121, 32, 116, 101, 114, 109, 115] a := by
  obtain ⟨r, h⟩ := laidMet_mem h _ hm
  exact sent_head h Tryd.gi_ErrTerms Tryd.git_ErrTerms Tryd.underlying33 Tryd.rowErr Tryd.underlying123 Tryd.underlying140 rfl rfl Tryd.underlying9 Tryd.cellsErr Tryd.cellsStr
def te18 : List UInt8 := [99, 111, 110, 99, 111, 114, 100, 58, 32, 116, 111, 111, 32, 109, 97, 110, 121, 32, 116, 101, 114, 109, 115]
theorem Tryd.gi_ErrScore : Tryd.prog.globalNamed "concord/api.ErrScore" = some 20 := by kernel_rfl
theorem Tryd.git_ErrScore : (Tryd.prog.globals[20]?).map (·.type) = some 33 := by kernel_rfl
theorem sent19 {W : World} {L : List (String × DataW Unit)} (h : laidMet Tryd.prog L W) (hm : ("concord/api.ErrScore", Rows.laid_concord_api_ErrScore) ∈ L) : ∃ a, Sent W 123 20 [99, 111, 110, 99, 111, 114, 100, 58, 32, 115, 99, 111, 114, 101, 32, 111, 118, 101, 114, 102, 108, 111, 119] a := by
  obtain ⟨r, h⟩ := laidMet_mem h _ hm
  exact sent_head h Tryd.gi_ErrScore Tryd.git_ErrScore Tryd.underlying33 Tryd.rowErr Tryd.underlying123 Tryd.underlying140 rfl rfl Tryd.underlying9 Tryd.cellsErr Tryd.cellsStr
def te19 : List UInt8 := [99, 111, 110, 99, 111, 114, 100, 58, 32, 115, 99, 111, 114, 101, 32, 111, 118, 101, 114, 102, 108, 111, 119]
def te20 : List UInt8 := [99, 111, 110, 99, 111, 114, 100, 58, 32, 99, 111, 100, 101]
structure Errs21 (w : World) (ad : Nat → Addr) : Prop where
  e : Errs16 w ad
  s16 : Sent w 123 17 te16 (ad 16)
  s17 : Sent w 123 18 te17 (ad 17)
  s18 : Sent w 123 19 te18 (ad 18)
  s19 : Sent w 123 20 te19 (ad 19)
  s20 : Sent w 123 0 te20 (ad 20)
theorem Errs21.kept {w w' : World} {ad : Nat → Addr} (h : Errs21 w ad) (k : Kept (fun _ => False) w w') : Errs21 w' ad := ⟨h.e.kept k, h.s16.kept k, h.s17.kept k, h.s18.kept k, h.s19.kept k, h.s20.kept k⟩
theorem Errs21.ew {w : World} {ad : Nat → Addr} (h : Errs21 w ad) : Ew w (ad 0) (ad 1) (ad 20) := ⟨h.e.e.s0.var, h.e.e.s1.var, h.s20.var⟩
set_option maxRecDepth 20000 in
set_option maxHeartbeats 1000000 in
theorem more_code {w : World} {ad : Nat → Addr} (h : Errs21 w ad) : Calls Tryd.prog 32 #[.iface 123 (.pointer (some (ad 20)))] w fun e w' => e = .returned (.int .i64 21) ∧ w' = w := by
  have v15 := h.e.s15.var
  have v16 := h.s16.var
  have v17 := h.s17.var
  have v18 := h.s18.var
  have v19 := h.s19.var
  have v20 := h.s20.var
  have e15 := err_neqF h.s20 h.e.s15 (by decide)
  have e16 := err_neqF h.s20 h.s16 (by decide)
  have e17 := err_neqF h.s20 h.s17 (by decide)
  have e18 := err_neqF h.s20 h.s18 (by decide)
  have e19 := err_neqF h.s20 h.s19 (by decide)
  have e20 := errEq w (ad 20)
  clear h
  go_enter Tryd.func32, Tryd.ntmps32
  go_wp2
  go_ret
  exact ⟨rfl, rfl⟩
set_option maxRecDepth 20000 in
set_option maxHeartbeats 1000000 in
theorem num_code {w : World} {ad : Nat → Addr} (h : Errs21 w ad) : Calls Tryd.prog 14 #[.iface 123 (.pointer (some (ad 20)))] w fun e w' => e = .returned (.int .i64 21) ∧ w' = w := by
  have CM := hideMore (more_code h)
  have v0 := h.e.e.s0.var
  have v1 := h.e.e.s1.var
  have v2 := h.e.e.s2.var
  have v3 := h.e.e.s3.var
  have v4 := h.e.e.s4.var
  have v5 := h.e.e.s5.var
  have v6 := h.e.e.s6.var
  have v7 := h.e.e.s7.var
  have v8 := h.e.e.s8.var
  have v9 := h.e.e.s9.var
  have v10 := h.e.e.s10.var
  have v11 := h.e.e.s11.var
  have v12 := h.e.e.s12.var
  have v13 := h.e.e.s13.var
  have v14 := h.e.s14.var
  have e0 := err_neqF h.s20 h.e.e.s0 (by decide)
  have e1 := err_neqF h.s20 h.e.e.s1 (by decide)
  have e2 := err_neqF h.s20 h.e.e.s2 (by decide)
  have e3 := err_neqF h.s20 h.e.e.s3 (by decide)
  have e4 := err_neqF h.s20 h.e.e.s4 (by decide)
  have e5 := err_neqF h.s20 h.e.e.s5 (by decide)
  have e6 := err_neqF h.s20 h.e.e.s6 (by decide)
  have e7 := err_neqF h.s20 h.e.e.s7 (by decide)
  have e8 := err_neqF h.s20 h.e.e.s8 (by decide)
  have e9 := err_neqF h.s20 h.e.e.s9 (by decide)
  have e10 := err_neqF h.s20 h.e.e.s10 (by decide)
  have e11 := err_neqF h.s20 h.e.e.s11 (by decide)
  have e12 := err_neqF h.s20 h.e.e.s12 (by decide)
  have e13 := err_neqF h.s20 h.e.e.s13 (by decide)
  have e14 := err_neqF h.s20 h.e.s14 (by decide)
  clear h
  go_enter Tryd.func14, Tryd.ntmps14
  go_wp2_with (go_at_call 32; refine CM.out.mono ?_; clear CM; rintro e w6 ⟨rfl, e6⟩; subst e6)
  go_ret
  exact ⟨rfl, rfl⟩
end Go.Proofs.YtohnkamobmkhkaaDoor
