import Derived.Test.YtmddcjjmlfpffaaErx
import Derived.Test.YtmddcjjmlfpffaaBase
import Derived.LaidEql
namespace Go.Proofs.Ytmddcjjmlfpffaa
open Go.ChangeShapes Go.WideShapes Go.ChangeAt Go.RowKit

theorem Sent.kept {w w' : World} {tp : TypeId} {g : Nat} {text : List UInt8} {a : Addr} (h : Sent w tp g text a) (k : Kept (fun _ => False) w w') : Sent w' tp g text a := by
  obtain ⟨c, t, hb⟩ := h.blk
  exact ⟨k.cell h.var (fun f => f), k.cell h.cell (fun f => f), c, t, k.heap hb (fun f => f)⟩
theorem Sent.ne {w : World} {tp : TypeId} {g g' : Nat} {x y : List UInt8} {a b : Addr} (h : Sent w tp g x a) (h' : Sent w tp g' y b) (hne : x ≠ y) : a ≠ b := by
  intro e
  have h1 := h.cell
  rw [e, h'.cell] at h1
  simp at h1
  exact hne h1.symm
def te0 : List UInt8 := [99, 111, 110, 99, 111, 114, 100, 58, 32, 116, 111, 111, 32, 115, 104, 111, 114, 116]
def te1 : List UInt8 := [99, 111, 110, 99, 111, 114, 100, 58, 32, 118, 97, 114, 105, 110, 116]
def te2 : List UInt8 := [99, 111, 110, 99, 111, 114, 100, 58, 32, 108, 105, 109, 105, 116]
def te3 : List UInt8 := [99, 111, 110, 99, 111, 114, 100, 58, 32, 111, 114, 100, 101, 114]
def te4 : List UInt8 := [99, 111, 110, 99, 111, 114, 100, 58, 32, 116, 97, 105, 108]
def te5 : List UInt8 := [99, 111, 110, 99, 111, 114, 100, 58, 32, 116, 97, 103]
def te6 : List UInt8 := [99, 111, 110, 99, 111, 114, 100, 58, 32, 115, 117, 109]
def te7 : List UInt8 := [99, 111, 110, 99, 111, 114, 100, 58, 32, 114, 97, 110, 103, 101]
def te8 : List UInt8 := [99, 111, 110, 99, 111, 114, 100, 58, 32, 115, 105, 122, 101]
def te9 : List UInt8 := [99, 111, 110, 99, 111, 114, 100, 58, 32, 99, 111, 114, 114, 117, 112, 116]
def te10 : List UInt8 := [99, 111, 110, 99, 111, 114, 100, 58, 32, 115, 99, 104, 101, 109, 97]
def te11 : List UInt8 := [99, 111, 110, 99, 111, 114, 100, 58, 32, 102, 105, 101, 108, 100]
def te12 : List UInt8 := [99, 111, 110, 99, 111, 114, 100, 58, 32, 118, 97, 108, 117, 101]
def te13 : List UInt8 := [99, 111, 110, 99, 111, 114, 100, 58, 32, 112, 97, 116, 116, 101, 114, 110]
end Go.Proofs.Ytmddcjjmlfpffaa
