import Derived.Test.YteeimpjjmdpbgaaDoorOpb
namespace Go.Proofs.YteeimpjjmdpbgaaDoor
open Go.ChangeShapes Go.WideShapes Go.ChangeAt Go.RowKit

theorem bytes_cap {H : Type} {enc : TypeId × Value → H} {W : World} {fuel : Nat} {a : Option Addr} {n c : Nat} {x : DataW H × List MemPlace} (hf : DataW.trod enc Tryd.prog W 0 (fun _ => true) true fuel 25 [.slice a n c] = some x) : n ≤ c := by
  rcases open_ints Tryd.underlying25 Tryd.underlying5 Tryd.cU8 hf with ⟨e, _⟩ | ⟨a', l, c', zs, e, _, hl, _⟩
  · simp only [List.cons.injEq, Value.slice.injEq, and_true] at e
    omega
  · simp only [List.cons.injEq, Value.slice.injEq, and_true] at e
    omega
end Go.Proofs.YteeimpjjmdpbgaaDoor
