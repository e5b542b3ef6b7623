import Derived.Test.YtcbhgpdookappaaDoorErx
import Derived.Test.YtcbhgpdookappaaDoorBase
import Derived.LaidEql
namespace Go.Proofs.YtcbhgpdookappaaDoor
open Go.ChangeShapes Go.WideShapes Go.ChangeAt Go.RowKit

theorem Tryd.g_ErrPattern : Tryd.prog.globalNamed "concord/api.ErrPattern" = some 13 := by kernel_rfl
theorem Tryd.gt_ErrPattern : (Tryd.prog.globals[13]?).map (·.type) = some 26 := by kernel_rfl
theorem sent13 {W : World} {L : List (String × DataW Unit)} (h : laidMet Tryd.prog L W) (hm : ("concord/api.ErrPattern", Rows.laid_concord_api_ErrPattern) ∈ L) : ∃ a, Sent W 112 13 [99, 111, 110, 99, 111, 114, 100, 58, 32, 112, 97, 116, 116, 101, 114, 110] a := by
  obtain ⟨r, h⟩ := laidMet_mem h _ hm
  exact sent_head h Tryd.g_ErrPattern Tryd.gt_ErrPattern Tryd.underlying26 Tryd.rowErr Tryd.underlying112 Tryd.underlying129 rfl rfl Tryd.underlying9 Tryd.cellsErr Tryd.cellsStr
theorem Sent.kept {w w' : World} {tp : TypeId} {g : Nat} {text : List UInt8} {a : Addr} (h : Sent w tp g text a) (k : Kept (fun _ => False) w w') : Sent w' tp g text a := by
  obtain ⟨c, t, hb⟩ := h.blk
  exact ⟨k.cell h.var (fun f => f), k.cell h.cell (fun f => f), c, t, k.heap hb (fun f => f)⟩
theorem Sent.ne {w : World} {tp : TypeId} {g g' : Nat} {x y : List UInt8} {a b : Addr} (h : Sent w tp g x a) (h' : Sent w tp g' y b) (hne : x ≠ y) : a ≠ b := by
  intro e
  have h1 := h.cell
  rw [e, h'.cell] at h1
  simp at h1
  exact hne h1.symm
theorem Tryd.compErrF : (Tryd.prog.info? 112).map (·.comparable) = some true := by kernel_rfl
theorem Tryd.sizeErrF : (Tryd.prog.info? 129).map (·.size) = some 1 := by kernel_rfl
theorem errEq (W : World) (a : Addr) : (binOp .eql 26 (.iface 112 (.pointer (some a))) (.iface 112 (.pointer (some a)))).run Tryd.prog W = .ok (.bool true) W := by
  obtain ⟨i, hi, hci⟩ := Option.map_eq_some_iff.1 (show (Tryd.prog.info? 112).map (·.comparable) = some true by kernel_rfl)
  obtain ⟨j, hj, _⟩ := Option.map_eq_some_iff.1 (show (Tryd.prog.info? 129).map (·.comparable) = some true by kernel_rfl)
  exact run_eql_iface_ptr_same W a Tryd.underlying26 Tryd.underlying112 hi hci hj
theorem err_neqF {w : World} {tp : TypeId} {g g' : Nat} {x y : List UInt8} {a b : Addr} (h : Sent w tp g x a) (h' : Sent w tp g' y b) (hne : x ≠ y) :
    (binOp .eql 26 (.iface 112 (.pointer (some a))) (.iface 112 (.pointer (some b)))).run Tryd.prog w = .ok (.bool false) w := by
  obtain ⟨i, hi, hci⟩ := Option.map_eq_some_iff.1 Tryd.compErrF
  obtain ⟨j, hj, hcj⟩ := Option.map_eq_some_iff.1 Tryd.sizeErrF
  obtain ⟨c, t, ha⟩ := h.blk
  obtain ⟨c', t', hb⟩ := h'.blk
  exact run_eql_iface_ptr_other w Tryd.underlying26 Tryd.underlying112 hi hci hj (by rw [hcj]; decide) (h.ne h' hne) ha hb
def te0 : List UInt8 := [99, 111, 110, 99, 111, 114, 100, 58, 32, 116, 111, 111, 32, 115, 104, 111, 114, 116]
def te1 : List UInt8 := [99, 111, 110, 99, 111, 114, 100, 58, 32, 118, 97, 114, 105, 110, 116]
def te2 : List UInt8 := [99, 111, 110, 99, 111, 114, 100, 58, 32, 108, 105, 109, 105, 116]
def te3 : List UInt8 := [99, 111, 110, 99, 111, 114, 100, 58, 32, 111, 114, 100, 101, 114]
def te4 : List UInt8 := [99, 111, 110, 99, 111, 114, 100, 58, 32, 116, 97, 105, 108]
def te5 : List UInt8 := [99, 111, 110, 99, 111, 114, 100, 58, 32, 116, 97, 103]
def te6 : List UInt8 := [99, 111, 110, 99, 111, 114, 100, 58, 32, 115, 117, 109]
def te7 : List UInt8 := [99, 111, 110, 99, 111, 114, 100, 58, 32, 114, 97, 110, 103, 101]
def te8 : List UInt8 := [99, 111, 110, 99, 111, 114, 100, 58, 32, 115, 105, 122, 101]
def te9 : List UInt8 := [99, 111, 110, 99, 111, 114, 100, 58, 32, 99, 111, 114, 114, 117, 112, 116]
def te10 : List UInt8 := [99, 111, 110, 99, 111, 114, 100, 58, 32, 115, 99, 104, 101, 109, 97]
def te11 : List UInt8 := [99, 111, 110, 99, 111, 114, 100, 58, 32, 102, 105, 101, 108, 100]
def te12 : List UInt8 := [99, 111, 110, 99, 111, 114, 100, 58, 32, 118, 97, 108, 117, 101]
def te13 : List UInt8 := [99, 111, 110, 99, 111, 114, 100, 58, 32, 112, 97, 116, 116, 101, 114, 110]
/-- The errors, as they lie. -/
structure Errs14 (w : World) (ad : Nat → Addr) : Prop where
  s0 : Sent w 112 2 te0 (ad 0)
  s1 : Sent w 112 3 te1 (ad 1)
  s2 : Sent w 112 4 te2 (ad 2)
  s3 : Sent w 112 5 te3 (ad 3)
  s4 : Sent w 112 6 te4 (ad 4)
  s5 : Sent w 112 7 te5 (ad 5)
  s6 : Sent w 112 8 te6 (ad 6)
  s7 : Sent w 112 1 te7 (ad 7)
  s8 : Sent w 112 9 te8 (ad 8)
  s9 : Sent w 112 0 te9 (ad 9)
  s10 : Sent w 112 10 te10 (ad 10)
  s11 : Sent w 112 11 te11 (ad 11)
  s12 : Sent w 112 12 te12 (ad 12)
  s13 : Sent w 112 13 te13 (ad 13)
theorem Errs14.kept {w w' : World} {ad : Nat → Addr} (h : Errs14 w ad) (k : Kept (fun _ => False) w w') : Errs14 w' ad :=
  ⟨h.s0.kept k, h.s1.kept k, h.s2.kept k, h.s3.kept k, h.s4.kept k, h.s5.kept k, h.s6.kept k, h.s7.kept k, h.s8.kept k, h.s9.kept k, h.s10.kept k, h.s11.kept k, h.s12.kept k, h.s13.kept k⟩
theorem num_nil (w : World) : Calls Tryd.prog 32 #[.nilIface] w fun e w' => e = .returned (.int .i64 0) ∧ w' = w := by
  go_enter Tryd.func32, Tryd.ntmps32
  go_wp2
  go_ret
  exact ⟨rfl, rfl⟩
set_option maxRecDepth 20000 in
set_option maxHeartbeats 1000000 in
theorem num_range {w : World} {ad : Nat → Addr} (h : Errs14 w ad) : Calls Tryd.prog 32 #[.iface 112 (.pointer (some (ad 7)))] w fun e w' => e = .returned (.int .i64 8) ∧ w' = w := by
  have v0 := h.s0.var
  have v1 := h.s1.var
  have v2 := h.s2.var
  have v3 := h.s3.var
  have v4 := h.s4.var
  have v5 := h.s5.var
  have v6 := h.s6.var
  have v7 := h.s7.var
  have e0 := err_neqF h.s7 h.s0 (by decide)
  have e1 := err_neqF h.s7 h.s1 (by decide)
  have e2 := err_neqF h.s7 h.s2 (by decide)
  have e3 := err_neqF h.s7 h.s3 (by decide)
  have e4 := err_neqF h.s7 h.s4 (by decide)
  have e5 := err_neqF h.s7 h.s5 (by decide)
  have e6 := err_neqF h.s7 h.s6 (by decide)
  have e7 := errEq w (ad 7)
  clear h
  go_enter Tryd.func32, Tryd.ntmps32
  go_wp2
  go_ret
  exact ⟨rfl, rfl⟩
set_option maxRecDepth 20000 in
set_option maxHeartbeats 1000000 in
theorem num_pattern {w : World} {ad : Nat → Addr} (h : Errs14 w ad) : Calls Tryd.prog 32 #[.iface 112 (.pointer (some (ad 13)))] w fun e w' => e = .returned (.int .i64 14) ∧ w' = w := by
  have v0 := h.s0.var
  have v1 := h.s1.var
  have v2 := h.s2.var
  have v3 := h.s3.var
  have v4 := h.s4.var
  have v5 := h.s5.var
  have v6 := h.s6.var
  have v7 := h.s7.var
  have v8 := h.s8.var
  have v9 := h.s9.var
  have v10 := h.s10.var
  have v11 := h.s11.var
  have v12 := h.s12.var
  have v13 := h.s13.var
  have e0 := err_neqF h.s13 h.s0 (by decide)
  have e1 := err_neqF h.s13 h.s1 (by decide)
  have e2 := err_neqF h.s13 h.s2 (by decide)
  have e3 := err_neqF h.s13 h.s3 (by decide)
  have e4 := err_neqF h.s13 h.s4 (by decide)
  have e5 := err_neqF h.s13 h.s5 (by decide)
  have e6 := err_neqF h.s13 h.s6 (by decide)
  have e7 := err_neqF h.s13 h.s7 (by decide)
  have e8 := err_neqF h.s13 h.s8 (by decide)
  have e9 := err_neqF h.s13 h.s9 (by decide)
  have e10 := err_neqF h.s13 h.s10 (by decide)
  have e11 := err_neqF h.s13 h.s11 (by decide)
  have e12 := err_neqF h.s13 h.s12 (by decide)
  have e13 := errEq w (ad 13)
  clear h
  go_enter Tryd.func32, Tryd.ntmps32
  go_wp2
  go_ret
  exact ⟨rfl, rfl⟩
end Go.Proofs.YtcbhgpdookappaaDoor
