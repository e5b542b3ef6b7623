import Derived.Test.YtacmmclamkhpcaaDoorAun
import Derived.SizedLaws
import Derived.DataOpen
namespace Go.Proofs.YtacmmclamkhpcaaDoor
open Go.ChangeShapes Go.WideShapes Go.ChangeAt Go.RowKit

theorem Tryd.cOf : Tryd.prog.cellsOf 9 = 1 ∧ Tryd.prog.cellsOf 3 = 1 ∧ Tryd.prog.cellsOf 4 = 1 ∧ Tryd.prog.cellsOf 23 = 3 ∧ Tryd.prog.cellsOf 25 = 9 := by
  refine ⟨?_, ?_, ?_, ?_, ?_⟩ <;> kernel_rfl
theorem list3o {α : Type} {l : List α} (h : l.length = 3) : ∃ a b c, l = [a, b, c] := by
  match l, h with
  | [a, b, c], _ => exact ⟨a, b, c, rfl⟩
theorem list5o {α : Type} {l : List α} (h : l.length = 5) : ∃ a b c d e, l = [a, b, c, d, e] := by
  match l, h with
  | [a, b, c, d, e], _ => exact ⟨a, b, c, d, e, rfl⟩
theorem list9o {α : Type} {l : List α} (h : l.length = 9) : ∃ a b c d e f g i j, l = [a, b, c, d, e, f, g, i, j] := by
  match l, h with
  | [a, b, c, d, e, f, g, i, j], _ => exact ⟨a, b, c, d, e, f, g, i, j, rfl⟩
theorem blk_str {H : Type} (s : ByteArray) : s.size < Rows.uptoBulk (H := H) (.lit (.string s.data.toList)) := by rw [Rows.uptoBulk, Array.length_toList]; exact Nat.lt_succ_self _
/-- A bound that came in. -/
theorem bound_of {H : Type} {enc : TypeId × Value → H} {W : World} {fuel : Nat} {cs : List Value} {x : DataW H × List MemPlace} (hf : DataW.trod enc Tryd.prog W 0 (fun _ => true) true fuel 23 cs = some x) :
    ∃ (o i : Bool) (t : ByteArray), cs = [.bool o, .bool i, .string t] ∧ t.size < Rows.uptoBulk x.1 := by
  obtain ⟨xs, k, rfl, hx, hl, hxl, hfs⟩ := DataW.trod_struct Tryd.underlying23 hf
  obtain ⟨c1, c2, c3, c4, c5⟩ := Tryd.cOf
  obtain ⟨x0, x1, x2, rfl⟩ := list3o hxl
  rw [c4] at hl
  obtain ⟨y0, y1, y2, rfl⟩ := list3o hl
  have q0 : DataW.trod enc Tryd.prog W 0 (fun _ => true) true k 4 (([y0, y1, y2].drop 0).take (Tryd.prog.cellsOf 4)) = some x0 := hfs 0 _ rfl
  have q1 : DataW.trod enc Tryd.prog W 0 (fun _ => true) true k 4 (([y0, y1, y2].drop 1).take (Tryd.prog.cellsOf 4)) = some x1 := hfs 1 _ rfl
  have q2 : DataW.trod enc Tryd.prog W 0 (fun _ => true) true k 9 (([y0, y1, y2].drop 2).take (Tryd.prog.cellsOf 9)) = some x2 := hfs 2 _ rfl
  rw [c3] at q0 q1
  rw [c1] at q2
  simp only [List.drop, List.take] at q0 q1 q2
  obtain ⟨o, e0, -⟩ := DataW.trod_bool Tryd.underlying4 q0
  obtain ⟨i, e1, -⟩ := DataW.trod_bool Tryd.underlying4 q1
  obtain ⟨t, e2, d2, -⟩ := DataW.trod_string Tryd.underlying9 q2
  simp only [List.cons.injEq, and_true] at e0 e1 e2
  subst e0 e1 e2
  refine ⟨o, i, t, rfl, ?_⟩
  have hb := blk_str (H := H) t
  rw [hx]
  subst d2
  simp only [List.map, Rows.uptoBulk, Rows.uptoBulkAll] at hb ⊢
  omega
/-- What an automaton is made of, as it came in. -/
theorem of_of {H : Type} {enc : TypeId × Value → H} {W : World} {fuel : Nat} {cs : List Value} {x : DataW H × List MemPlace} (hf : DataW.trod enc Tryd.prog W 0 (fun _ => true) true fuel 25 cs = some x) :
    ∃ (k : Int) (s : ByteArray) (n : Int) (a1 a2 : Bool) (t1 : ByteArray) (b1 b2 : Bool) (t2 : ByteArray), cs = [.int .i64 k, .string s, .int .i64 n, .bool a1, .bool a2, .string t1, .bool b1, .bool b2, .string t2] ∧ s.size + t1.size + t2.size < Rows.uptoBulk x.1 := by
  obtain ⟨xs, m, rfl, hx, hl, hxl, hfs⟩ := DataW.trod_struct Tryd.underlying25 hf
  obtain ⟨c1, c2, c3, c4, c5⟩ := Tryd.cOf
  obtain ⟨x0, x1, x2, x3, x4, rfl⟩ := list5o hxl
  rw [c5] at hl
  obtain ⟨y0, y1, y2, y3, y4, y5, y6, y7, y8, rfl⟩ := list9o hl
  have q0 : DataW.trod enc Tryd.prog W 0 (fun _ => true) true m 3 (([y0, y1, y2, y3, y4, y5, y6, y7, y8].drop 0).take (Tryd.prog.cellsOf 3)) = some x0 := hfs 0 _ rfl
  have q1 : DataW.trod enc Tryd.prog W 0 (fun _ => true) true m 9 (([y0, y1, y2, y3, y4, y5, y6, y7, y8].drop 1).take (Tryd.prog.cellsOf 9)) = some x1 := hfs 1 _ rfl
  have q2 : DataW.trod enc Tryd.prog W 0 (fun _ => true) true m 3 (([y0, y1, y2, y3, y4, y5, y6, y7, y8].drop 2).take (Tryd.prog.cellsOf 3)) = some x2 := hfs 2 _ rfl
  have q3 : DataW.trod enc Tryd.prog W 0 (fun _ => true) true m 23 (([y0, y1, y2, y3, y4, y5, y6, y7, y8].drop 3).take (Tryd.prog.cellsOf 23)) = some x3 := hfs 3 _ rfl
  have q4 : DataW.trod enc Tryd.prog W 0 (fun _ => true) true m 23 (([y0, y1, y2, y3, y4, y5, y6, y7, y8].drop 6).take (Tryd.prog.cellsOf 23)) = some x4 := hfs 4 _ rfl
  rw [c2] at q0 q2
  rw [c1] at q1
  rw [c4] at q3 q4
  simp only [List.drop, List.take] at q0 q1 q2 q3 q4
  obtain ⟨k, e0, -, -⟩ := DataW.trod_int Tryd.underlying3 q0
  obtain ⟨s, e1, d1, -⟩ := DataW.trod_string Tryd.underlying9 q1
  obtain ⟨n, e2, -, -⟩ := DataW.trod_int Tryd.underlying3 q2
  obtain ⟨a1, a2, t1, e3, h3⟩ := bound_of q3
  obtain ⟨b1, b2, t2, e4, h4⟩ := bound_of q4
  simp only [List.cons.injEq, and_true] at e0 e1 e2 e3 e4
  obtain ⟨rfl, rfl, rfl⟩ := e3
  obtain ⟨rfl, rfl, rfl⟩ := e4
  subst e0 e1 e2
  refine ⟨k, s, n, a1, a2, t1, b1, b2, t2, rfl, ?_⟩
  have hb := blk_str (H := H) s
  rw [hx]
  subst d1
  simp only [List.map, Rows.uptoBulk, Rows.uptoBulkAll] at hb ⊢
  omega
end Go.Proofs.YtacmmclamkhpcaaDoor
