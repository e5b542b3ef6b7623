import Derived.Test.YtoglgicmnhklbaaDoorEnr
import Derived.LaidEql
namespace Go.Proofs.YtoglgicmnhklbaaDoor
open Go.ChangeShapes Go.WideShapes Go.ChangeAt Go.RowKit

theorem Sent.kept {w w' : World} {tp : TypeId} {g : Nat} {text : List UInt8} {a : Addr} (h : Sent w tp g text a) (k : Kept (fun _ => False) w w') : Sent w' tp g text a := by
  obtain ⟨c, t, hb⟩ := h.blk
  exact ⟨k.cell h.var (fun f => f), k.cell h.cell (fun f => f), c, t, k.heap hb (fun f => f)⟩
theorem Sent.ne {w : World} {tp : TypeId} {g g' : Nat} {x y : List UInt8} {a b : Addr} (h : Sent w tp g x a) (h' : Sent w tp g' y b) (hne : x ≠ y) : a ≠ b := by
  intro e
  have h1 := h.cell
  rw [e, h'.cell] at h1
  simp at h1
  exact hne h1.symm
theorem Tryd.compErrF : (Tryd.prog.info? 98).map (·.comparable) = some true := by kernel_rfl
theorem Tryd.sizeErrF : (Tryd.prog.info? 114).map (·.size) = some 1 := by kernel_rfl
theorem err_neqF {w : World} {tp : TypeId} {g g' : Nat} {x y : List UInt8} {a b : Addr} (h : Sent w tp g x a) (h' : Sent w tp g' y b) (hne : x ≠ y) :
    (binOp .eql 38 (.iface 98 (.pointer (some a))) (.iface 98 (.pointer (some b)))).run Tryd.prog w = .ok (.bool false) w := by
  obtain ⟨i, hi, hci⟩ := Option.map_eq_some_iff.1 Tryd.compErrF
  obtain ⟨j, hj, hcj⟩ := Option.map_eq_some_iff.1 Tryd.sizeErrF
  obtain ⟨c, t, ha⟩ := h.blk
  obtain ⟨c', t', hb⟩ := h'.blk
  exact run_eql_iface_ptr_other w Tryd.underlying38 Tryd.underlying98 hi hci hj (by rw [hcj]; decide) (h.ne h' hne) ha hb
theorem err_eqF (a : Addr) (W : World) :
    (binOp .eql 38 (.iface 98 (.pointer (some a))) (.iface 98 (.pointer (some a)))).run Tryd.prog W = .ok (.bool true) W := by
  obtain ⟨i, hi, hci⟩ := Option.map_eq_some_iff.1 Tryd.compErrF
  obtain ⟨j, hj, hcj⟩ := Option.map_eq_some_iff.1 Tryd.sizeErrF
  exact run_eql_iface_ptr_same W a Tryd.underlying38 Tryd.underlying98 hi hci hj
/-- The errors of blocks, as they lie. -/
def tx0 : List UInt8 := [99, 111, 110, 99, 111, 114, 100, 58, 32, 116, 111, 111, 32, 115, 104, 111, 114, 116]
def tx1 : List UInt8 := [99, 111, 110, 99, 111, 114, 100, 58, 32, 118, 97, 114, 105, 110, 116]
def tx2 : List UInt8 := [99, 111, 110, 99, 111, 114, 100, 58, 32, 108, 105, 109, 105, 116]
def tx3 : List UInt8 := [99, 111, 110, 99, 111, 114, 100, 58, 32, 111, 114, 100, 101, 114]
def tx4 : List UInt8 := [99, 111, 110, 99, 111, 114, 100, 58, 32, 116, 97, 105, 108]
def tx5 : List UInt8 := [99, 111, 110, 99, 111, 114, 100, 58, 32, 116, 97, 103]
def tx6 : List UInt8 := [99, 111, 110, 99, 111, 114, 100, 58, 32, 115, 117, 109]
/-- The errors that Decode reaches. -/
structure Errs4 (w : World) (a0 a1 a5 a6 : Addr) : Prop where
  s0 : Sent w 98 2 tx0 a0
  s1 : Sent w 98 4 tx1 a1
  s5 : Sent w 98 0 tx5 a5
  s6 : Sent w 98 1 tx6 a6
theorem Errs4.kept {w w' : World} {a0 a1 a5 a6 : Addr} (h : Errs4 w a0 a1 a5 a6) (k : Kept (fun _ => False) w w') : Errs4 w' a0 a1 a5 a6 := ⟨h.s0.kept k, h.s1.kept k, h.s5.kept k, h.s6.kept k⟩
end Go.Proofs.YtoglgicmnhklbaaDoor
