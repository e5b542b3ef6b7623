import Derived.Test.YtnkmjhcddegkhaaDoorChn9
import Derived.SizedLaws
import Derived.DataOpen
namespace Go.Proofs.YtnkmjhcddegkhaaDoor
open Go.ChangeShapes Go.WideShapes Go.ChangeAt Go.RowKit

theorem Tryd.cFd5 : Tryd.prog.cellsOf 9 = 1 ∧ Tryd.prog.cellsOf 3 = 1 ∧ Tryd.prog.cellsOf 4 = 1 ∧ Tryd.prog.cellsOf 23 = 5 := by
  refine ⟨?_, ?_, ?_, ?_⟩ <;> kernel_rfl
theorem list5t {α : Type} {l : List α} (h : l.length = 5) : ∃ a b c d e, l = [a, b, c, d, e] := by
  match l, h with
  | [a, b, c, d, e], _ => exact ⟨a, b, c, d, e, rfl⟩
/-- A field that came in. -/
theorem fieldT_of {H : Type} {enc : TypeId × Value → H} {W : World} {fuel : Nat} {cs : List Value} {x : DataW H × List MemPlace} (hf : DataW.trod enc Tryd.prog W 0 (fun _ => true) true fuel 23 cs = some x) :
    ∃ (nm : ByteArray) (kd : Int) (fo st se : Bool), cs = [.string nm, .int .i64 kd, .bool fo, .bool st, .bool se] := by
  obtain ⟨xs, k, rfl, hx, hl, hxl, hfs⟩ := DataW.trod_struct Tryd.underlying23 hf
  obtain ⟨c1, c2, c3, c4⟩ := Tryd.cFd5
  obtain ⟨x0, x1, x2, x3, x4, rfl⟩ := list5t hxl
  rw [c4] at hl
  obtain ⟨y0, y1, y2, y3, y4, rfl⟩ := list5t hl
  have q0 : DataW.trod enc Tryd.prog W 0 (fun _ => true) true k 9 (([y0, y1, y2, y3, y4].drop 0).take (Tryd.prog.cellsOf 9)) = some x0 := hfs 0 _ rfl
  have q1 : DataW.trod enc Tryd.prog W 0 (fun _ => true) true k 3 (([y0, y1, y2, y3, y4].drop 1).take (Tryd.prog.cellsOf 3)) = some x1 := hfs 1 _ rfl
  have q2 : DataW.trod enc Tryd.prog W 0 (fun _ => true) true k 4 (([y0, y1, y2, y3, y4].drop 2).take (Tryd.prog.cellsOf 4)) = some x2 := hfs 2 _ rfl
  have q3 : DataW.trod enc Tryd.prog W 0 (fun _ => true) true k 4 (([y0, y1, y2, y3, y4].drop 3).take (Tryd.prog.cellsOf 4)) = some x3 := hfs 3 _ rfl
  have q4 : DataW.trod enc Tryd.prog W 0 (fun _ => true) true k 4 (([y0, y1, y2, y3, y4].drop 4).take (Tryd.prog.cellsOf 4)) = some x4 := hfs 4 _ rfl
  rw [c1] at q0
  rw [c2] at q1
  rw [c3] at q2 q3 q4
  simp only [List.drop, List.take] at q0 q1 q2 q3 q4
  obtain ⟨nm, e0, -, -⟩ := DataW.trod_string Tryd.underlying9 q0
  obtain ⟨kd, e1, -, -⟩ := DataW.trod_int Tryd.underlying3 q1
  obtain ⟨fo, e2, -⟩ := DataW.trod_bool Tryd.underlying4 q2
  obtain ⟨st, e3, -⟩ := DataW.trod_bool Tryd.underlying4 q3
  obtain ⟨se, e4, -⟩ := DataW.trod_bool Tryd.underlying4 q4
  simp only [List.cons.injEq, and_true] at e0 e1 e2 e3 e4
  subst e0 e1 e2 e3 e4
  exact ⟨nm, kd, fo, st, se, rfl⟩
end Go.Proofs.YtnkmjhcddegkhaaDoor
