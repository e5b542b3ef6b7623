import Derived.Test.YtedohkcoeebajaaDoorPos
import Derived.Test.YtedohkcoeebajaaDoorPoj
import Derived.Test.YtedohkcoeebajaaDoorErrs
import Derived.LaidEql
namespace Go.Proofs.YtedohkcoeebajaaDoor
open Go.ChangeShapes Go.WideShapes Go.ChangeAt Go.RowKit

theorem Sent.kept {w w' : World} {tp : TypeId} {g : Nat} {text : List UInt8} {a : Addr} (h : Sent w tp g text a) (k : Kept (fun _ => False) w w') : Sent w' tp g text a := by
  obtain ⟨c, t, hb⟩ := h.blk
  exact ⟨k.cell h.var (fun f => f), k.cell h.cell (fun f => f), c, t, k.heap hb (fun f => f)⟩
theorem Sent.ne {w : World} {tp : TypeId} {g g' : Nat} {x y : List UInt8} {a b : Addr} (h : Sent w tp g x a) (h' : Sent w tp g' y b) (hne : x ≠ y) : a ≠ b := by
  intro e
  have h1 := h.cell
  rw [e, h'.cell] at h1
  simp at h1
  exact hne h1.symm
theorem Tryd.compErrF : (Tryd.prog.info? 140).map (·.comparable) = some true := by kernel_rfl
theorem Tryd.sizeErrF : (Tryd.prog.info? 156).map (·.size) = some 1 := by kernel_rfl
theorem errEq (W : World) (a : Addr) : (binOp .eql 37 (.iface 140 (.pointer (some a))) (.iface 140 (.pointer (some a)))).run Tryd.prog W = .ok (.bool true) W := by
  obtain ⟨i, hi, hci⟩ := Option.map_eq_some_iff.1 (show (Tryd.prog.info? 140).map (·.comparable) = some true by kernel_rfl)
  obtain ⟨j, hj, _⟩ := Option.map_eq_some_iff.1 (show (Tryd.prog.info? 156).map (·.comparable) = some true by kernel_rfl)
  exact run_eql_iface_ptr_same W a Tryd.underlying37 Tryd.underlying140 hi hci hj
theorem err_neqF {w : World} {tp : TypeId} {g g' : Nat} {x y : List UInt8} {a b : Addr} (h : Sent w tp g x a) (h' : Sent w tp g' y b) (hne : x ≠ y) :
    (binOp .eql 37 (.iface 140 (.pointer (some a))) (.iface 140 (.pointer (some b)))).run Tryd.prog w = .ok (.bool false) w := by
  obtain ⟨i, hi, hci⟩ := Option.map_eq_some_iff.1 Tryd.compErrF
  obtain ⟨j, hj, hcj⟩ := Option.map_eq_some_iff.1 Tryd.sizeErrF
  obtain ⟨c, t, ha⟩ := h.blk
  obtain ⟨c', t', hb⟩ := h'.blk
  exact run_eql_iface_ptr_other w Tryd.underlying37 Tryd.underlying140 hi hci hj (by rw [hcj]; decide) (h.ne h' hne) ha hb
def te0 : List UInt8 := [99, 111, 110, 99, 111, 114, 100, 58, 32, 116, 111, 111, 32, 115, 104, 111, 114, 116]
def te1 : List UInt8 := [99, 111, 110, 99, 111, 114, 100, 58, 32, 118, 97, 114, 105, 110, 116]
def te2 : List UInt8 := [99, 111, 110, 99, 111, 114, 100, 58, 32, 108, 105, 109, 105, 116]
def te3 : List UInt8 := [99, 111, 110, 99, 111, 114, 100, 58, 32, 111, 114, 100, 101, 114]
def te4 : List UInt8 := [99, 111, 110, 99, 111, 114, 100, 58, 32, 116, 97, 105, 108]
def te5 : List UInt8 := [99, 111, 110, 99, 111, 114, 100, 58, 32, 116, 97, 103]
def te6 : List UInt8 := [99, 111, 110, 99, 111, 114, 100, 58, 32, 115, 117, 109]
def te7 : List UInt8 := [99, 111, 110, 99, 111, 114, 100, 58, 32, 114, 97, 110, 103, 101]
def te8 : List UInt8 := [99, 111, 110, 99, 111, 114, 100, 58, 32, 115, 105, 122, 101]
def te9 : List UInt8 := [99, 111, 110, 99, 111, 114, 100, 58, 32, 99, 111, 114, 114, 117, 112, 116]
def te10 : List UInt8 := [99, 111, 110, 99, 111, 114, 100, 58, 32, 115, 99, 104, 101, 109, 97]
def te11 : List UInt8 := [99, 111, 110, 99, 111, 114, 100, 58, 32, 102, 105, 101, 108, 100]
def te12 : List UInt8 := [99, 111, 110, 99, 111, 114, 100, 58, 32, 118, 97, 108, 117, 101]
def L0 (a b : Option Addr) : List Pg := [⟨2, a, 2, [1, 4]⟩, ⟨5, b, 1, [0]⟩]
def P0 : List Po := [⟨2, [1, 4]⟩, ⟨5, [0]⟩]
theorem pol_L0 (a b : Option Addr) : pol (L0 a b) = P0 := rfl
def B0 : List Int := [2, 3, 5, 9, 2, 2, 10, 2, 1, 1, 1, 2, 0]
theorem gdl_P0 : gdl (-1) P0 := by
  refine ⟨⟨by decide, by decide, by decide, by decide, ?_⟩, ⟨by decide, by decide, by decide, by decide, ?_⟩, trivial⟩
  · exact ⟨by decide, by decide, ⟨by decide, by decide, trivial⟩⟩
  · exact ⟨by decide, by decide, trivial⟩
theorem pk22 : packed [2, 2] = [2, 2, 10] := by
  rw [packed_eq, pbody, if_neg (by decide), uvb_small (by decide)]
  decide +kernel
theorem pk10 : packed [1, 0] = [2, 1, 1] := by
  rw [packed_eq, pbody, if_neg (by decide), uvb_small (by decide)]
  decide +kernel
theorem psb0 : psb P0 = [1, 2, 0] := by
  simp only [psb, P0, List.map_cons, List.map_nil, List.flatten_cons, List.flatten_nil, risb]
  rw [uvb_small (by decide), uvb_small (by decide), uvb_small (by decide)]
  decide
theorem blk0 : blk (-1) P0 = [2, 2, 10, 2, 1, 1, 1, 2, 0] := by
  rw [blk, psb0, show gps (-1) P0 = [2, 2] by decide, show mos P0 = [1, 0] by decide, pk22, pk10]
  rfl
theorem img_P0 : img P0 = B0 := by
  have e1 : chp (nbp P0.length) P0 = [P0] := rfl
  unfold img
  rw [e1]
  simp only [skb, bkb]
  rw [blk0, show lastd (-1) P0 = 5 by decide, show tot P0 = 3 by decide, uvb_small (by decide), uvb_small (by decide), uvb_small (by decide), uvb_small (by decide)]
  decide
end Go.Proofs.YtedohkcoeebajaaDoor
