import Derived.Test.YtbhoplmbiomogaaDoorRda2
import Derived.Test.YtbhoplmbiomogaaDoorErrs
import Derived.Test.YtbhoplmbiomogaaDoorOsc
namespace Go.Proofs.YtbhoplmbiomogaaDoor
open Go.ChangeShapes Go.WideShapes Go.ChangeAt Go.RowKit

theorem Tryd.c3s : Tryd.prog.cellsOf 100 = 3 := by kernel_rfl
theorem list3s {α : Type} {l : List α} (h : l.length = 3) : ∃ a b c, l = [a, b, c] := by
  match l, h with
  | [a, b, c], _ => exact ⟨a, b, c, rfl⟩
/-- An array of three listed words. -/
theorem words3 {enc : TypeId × Value → Unit} {W : World} {base : Nat} {sp : Bool} {held : TypeId → Bool} {fuel : Nat} {cs : List Value} {p : List MemPlace} {A B C : List UInt8} (hd : DataW.trod enc Tryd.prog W base held sp fuel 100 cs = some (.agg [.lit (.string A), .lit (.string B), .lit (.string C)], p)) :
    cs = [.string (bstr A), .string (bstr B), .string (bstr C)] := by
  obtain ⟨xs, n, e0, ex, hl, hxl, hel⟩ := DataW.trod_array Tryd.underlying100 hd
  obtain ⟨c1, -, -, -, -, -⟩ := Tryd.cFd
  rw [Tryd.c3s] at hl
  rw [c1] at hel
  obtain ⟨x0, x1, x2, rfl⟩ := list3s hxl
  obtain ⟨y0, y1, y2, rfl⟩ := list3s hl
  have q0 : DataW.trod enc Tryd.prog W base held sp n 9 [y0] = some x0 := hel 0 (by decide)
  have q1 : DataW.trod enc Tryd.prog W base held sp n 9 [y1] = some x1 := hel 1 (by decide)
  have q2 : DataW.trod enc Tryd.prog W base held sp n 9 [y2] = some x2 := hel 2 (by decide)
  obtain ⟨s0, e0, f0, -⟩ := DataW.trod_string Tryd.underlying9 q0
  obtain ⟨s1, e1, f1, -⟩ := DataW.trod_string Tryd.underlying9 q1
  obtain ⟨s2, e2, f2, -⟩ := DataW.trod_string Tryd.underlying9 q2
  simp only [List.cons.injEq, and_true] at e0 e1 e2
  subst e0 e1 e2 f0 f1 f2
  simp only [List.map, Prod.mk.injEq, DataW.agg.injEq, List.cons.injEq, DataW.lit.injEq, Lit.string.injEq, and_true] at ex
  obtain ⟨⟨g0, g1, g2⟩, -⟩ := ex
  rw [g0, g1, g2, bstr_of, bstr_of, bstr_of]
theorem Tryd.gKinds : Tryd.prog.globalNamed "concord/schema.kinds" = some 24 := by kernel_rfl
theorem Tryd.gtKinds : (Tryd.prog.globals[24]?).map (·.type) = some 100 := by kernel_rfl
theorem Tryd.gMarks : Tryd.prog.globalNamed "concord/schema.marks" = some 25 := by kernel_rfl
theorem Tryd.gtMarks : (Tryd.prog.globals[25]?).map (·.type) = some 100 := by kernel_rfl
/-- What the listed words give. -/
theorem words_at {W : World} {L : List (String × DataW Unit)} (h : laidMet Tryd.prog L W) (hk : ("concord/schema.kinds", Rows.laid_concord_schema_kinds) ∈ L) (hm : ("concord/schema.marks", Rows.laid_concord_schema_marks) ∈ L) : Words W := by
  obtain ⟨r1, h1⟩ := laidMet_mem h _ hk
  obtain ⟨r2, h2⟩ := laidMet_mem h _ hm
  obtain ⟨_, ⟨g1, t1, cs1, _, _, _, hg1, ht1, hv1, hd1, _, _⟩, _⟩ := h1
  obtain ⟨_, ⟨g2, t2, cs2, _, _, _, hg2, ht2, hv2, hd2, _, _⟩, _⟩ := h2
  obtain rfl := Option.some.inj (Tryd.gKinds.symm.trans hg1)
  obtain rfl := Option.some.inj (Tryd.gtKinds.symm.trans ht1)
  obtain rfl := Option.some.inj (Tryd.gMarks.symm.trans hg2)
  obtain rfl := Option.some.inj (Tryd.gtMarks.symm.trans ht2)
  have e1 := words3 hd1
  have e2 := words3 hd2
  have c1 : ∀ i, W.cell? ⟨24, i, none⟩ = cs1.toList[i]? := fun i => by simpa using World.var?_cell Tryd.gKinds hv1 i
  have c2 : ∀ i, W.cell? ⟨25, i, none⟩ = cs2.toList[i]? := fun i => by simpa using World.var?_cell Tryd.gMarks hv2 i
  rw [e1] at c1
  rw [e2] at c2
  exact ⟨c1 0, c1 1, c1 2, c2 0, c2 1, c2 2⟩
end Go.Proofs.YtbhoplmbiomogaaDoor
