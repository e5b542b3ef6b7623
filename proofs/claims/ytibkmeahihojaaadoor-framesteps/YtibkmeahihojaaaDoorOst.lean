import Derived.Test.YtibkmeahihojaaaDoorOpb
namespace Go.Proofs.YtibkmeahihojaaaDoor
open Go.ChangeShapes Go.WideShapes Go.ChangeAt Go.RowKit

theorem Tryd.cSt : Tryd.prog.cellsOf 3 = 1 ∧ Tryd.prog.cellsOf 23 = 1 ∧ Tryd.prog.cellsOf 31 = 4 := by
  refine ⟨?_, ?_, ?_⟩ <;> kernel_rfl
theorem list4 {α : Type} {l : List α} (h : l.length = 4) : ∃ a b c d, l = [a, b, c, d] := by
  match l, h with
  | [a, b, c, d], _ => exact ⟨a, b, c, d, rfl⟩
set_option maxRecDepth 100000 in
/-- The cells of a Steps that came in. -/
theorem steps_of {H : Type} {enc : TypeId × Value → H} {W : World} {fuel : Nat} {cs : List Value} {x : DataW H × List MemPlace} (hf : DataW.trod enc Tryd.prog W 0 (fun _ => true) true fuel 31 cs = some x) :
    ∃ (a b : Nat) (n m : Int), cs = [.int .u32 a, .int .u32 b, .int .i64 n, .int .i64 m] ∧ a < 4294967296 ∧ b < 4294967296 ∧ (-9223372036854775808 ≤ n ∧ n ≤ 9223372036854775807) ∧ (-9223372036854775808 ≤ m ∧ m ≤ 9223372036854775807) := by
  obtain ⟨xs, k, rfl, hx, hl, hxl, hfs⟩ := DataW.trod_struct Tryd.underlying31 hf
  obtain ⟨c1, c2, c3⟩ := Tryd.cSt
  obtain ⟨x0, x1, x2, x3, rfl⟩ := list4 hxl
  rw [c3] at hl
  obtain ⟨y0, y1, y2, y3, rfl⟩ := list4 hl
  have q0 : DataW.trod enc Tryd.prog W 0 (fun _ => true) true k 23 (([y0, y1, y2, y3].drop 0).take (Tryd.prog.cellsOf 23)) = some x0 := hfs 0 _ rfl
  have q1 : DataW.trod enc Tryd.prog W 0 (fun _ => true) true k 23 (([y0, y1, y2, y3].drop 1).take (Tryd.prog.cellsOf 23)) = some x1 := hfs 1 _ rfl
  have q2 : DataW.trod enc Tryd.prog W 0 (fun _ => true) true k 3 (([y0, y1, y2, y3].drop 2).take (Tryd.prog.cellsOf 3)) = some x2 := hfs 2 _ rfl
  have q3 : DataW.trod enc Tryd.prog W 0 (fun _ => true) true k 3 (([y0, y1, y2, y3].drop 3).take (Tryd.prog.cellsOf 3)) = some x3 := hfs 3 _ rfl
  rw [c2] at q0 q1
  rw [c1] at q2 q3
  simp only [List.drop, List.take] at q0 q1 q2 q3
  obtain ⟨a, e0, -, w0⟩ := DataW.trod_int Tryd.underlying23 q0
  obtain ⟨b, e1, -, w1⟩ := DataW.trod_int Tryd.underlying23 q1
  obtain ⟨n, e2, -, w2⟩ := DataW.trod_int Tryd.underlying3 q2
  obtain ⟨m, e3, -, w3⟩ := DataW.trod_int Tryd.underlying3 q3
  have b0 := bounds_u32 w0
  have b1 := bounds_u32 w1
  have b2 := bounds_i64 w2
  have b3 := bounds_i64 w3
  obtain ⟨A, rfl⟩ : ∃ A : Nat, a = A := ⟨a.toNat, by omega⟩
  obtain ⟨B, rfl⟩ : ∃ B : Nat, b = B := ⟨b.toNat, by omega⟩
  simp only [List.cons.injEq, and_true] at e0 e1 e2 e3
  subst e0 e1 e2 e3
  exact ⟨A, B, n, m, rfl, by omega, by omega, b2, b3⟩
end Go.Proofs.YtibkmeahihojaaaDoor
