import Derived.Test.YtacmmclamkhpcaaDoorAut
namespace Go.Proofs.YtacmmclamkhpcaaDoor
open Go.ChangeShapes Go.WideShapes Go.ChangeAt Go.RowKit

/-- 'make([]int, 1, n)'. -/
theorem gro_make1 (w : World) (n : Nat) (hn : 1 ≤ n) (h63 : n ≤ maxLen) : Gro w (w.alloc (.cells (madeCells (Value.int .i64 0).cells (n * 1)) 3)) 3 1 (.slice (some ⟨w.heap.size, 0, none⟩) 1 n) 1 (iv [0]) := by
  refine ⟨⟨rfl, .inr ⟨w.heap.size, n, madeCells (Value.int .i64 0).cells (n * 1), rfl, Nat.le_refl _, heap_alloc_new w _, hn, h63, size_madeCells _ _, ?_⟩⟩, Kept.alloc _ _⟩
  obtain ⟨m, rfl⟩ : ∃ m, n = m + 1 := ⟨n - 1, by omega⟩
  unfold madeCells iv
  apply List.ext_getElem?
  intro j
  rcases Nat.lt_or_ge j 1 with hj | hj
  · obtain rfl : j = 0 := by omega
    simp [Value.cells]
  · rw [List.getElem?_eq_none (by rw [List.length_take]; omega), List.getElem?_eq_none (by simpa using hj)]
theorem wpList_make1 (w : World) {ops : Array Oper} {rest : List Oper} {o : Oper} {a : Act} {Q : Exit → Act → World → Prop}
    (hg : o.guard = none) (l c : Operand) (hop : o.op = Op.makeSlice 53 l c) (C : Int) (n : Nat) (hl : a.eval l = .int .i64 1) (hc : a.eval c = .int .i64 C) (hC : C = (n : Int)) (h1 : 1 ≤ n) (b2 : n ≤ 1099511627776)
    (hK : ∀ w', Hid (Gro w w' 3 1 (.slice (some ⟨w.heap.size, 0, none⟩) 1 n) 1 (iv [0])) → wpList Tryd.prog ops Q rest (a.put o.dst (.slice (some ⟨w.heap.size, 0, none⟩) 1 n)) w') :
    wpList Tryd.prog ops Q (o :: rest) a w := by
  refine wpList_plain hg fun K hK' => ?_
  obtain ⟨i0, hi, hz0, hz1, hz2⟩ := info_partsA Tryd.infoI
  have hr := run_make (P := Tryd.prog) w 53 3 i0 (.int .i64 0) Tryd.underlying53 hi hz0 .i64 .i64 1 (n : Int) (by omega) (by omega) (by rw [hz2]; omega) (by omega)
  rw [hz1] at hr
  simp only [Int.toNat_natCast, Int.toNat_one] at hr
  subst hC
  unfold Oper.wp execOp
  simp only [hop, hl, hc, Sem.run_bind, hr, Result.andThen_ok]
  exact hK' _ _ (hK _ (hideG (gro_make1 w n h1 (by unfold maxLen; omega))))
end Go.Proofs.YtacmmclamkhpcaaDoor
