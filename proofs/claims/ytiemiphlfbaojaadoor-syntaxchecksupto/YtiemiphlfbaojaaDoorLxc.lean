import Derived.Test.YtiemiphlfbaojaaDoorLxb
namespace Go.Proofs.YtiemiphlfbaojaaDoor
open Go.ChangeShapes Go.WideShapes Go.ChangeAt Go.RowKit

theorem info_partsL {e : TypeId} {z : Value} {s b : Nat} (h : (Tryd.prog.info? e).map (fun i => (i.zero, i.size, i.bytes)) = some (some z, s, b)) : ∃ i, Tryd.prog.info? e = some i ∧ i.zero = some z ∧ i.size = s ∧ i.bytes = b := by
  cases e0 : Tryd.prog.info? e with
  | none => rw [e0] at h; cases h
  | some i =>
    rw [e0] at h
    simp only [Option.map_some, Option.some.injEq, Prod.mk.injEq] at h
    exact ⟨i, rfl, h.1, h.2.1, h.2.2⟩
/-- 'make([]byte, 0, n)'. -/
theorem gb_make0 (w : World) (n : Nat) (h63 : n ≤ maxLen) : Gb w (w.alloc (.cells (madeCells (Value.int .u8 0).cells (n * 1)) 5)) (some ⟨w.heap.size, 0, none⟩) n 0 [] := by
  refine ⟨⟨⟨rfl, .inr ⟨w.heap.size, n, madeCells (Value.int .u8 0).cells (n * 1), rfl, Nat.le_refl _, heap_alloc_new w _, Nat.zero_le _, h63, size_madeCells _ _, ?_⟩⟩, Kept.alloc _ _⟩, rfl⟩
  rw [Nat.zero_mul]; rfl
/-- What 'make([]byte, 0, n)' does: an equation for the walk, and the row. -/
theorem make0B (w : World) (n : Nat) (hn : n ≤ 1099511627776) : ∃ W1 : World, ((Instr.makeSlice 96 (.int .i64 0) (.int .i64 (n : Int))).run Tryd.prog w = .ok (.slice (some ⟨w.heap.size, 0, none⟩) 0 n) W1) ∧ Gb w W1 (some ⟨w.heap.size, 0, none⟩) n 0 [] := by
  obtain ⟨i0, hi, hz0, hz1, hz2⟩ := info_partsL Tryd.infoB
  have hr := run_make (P := Tryd.prog) w 96 5 i0 (.int .u8 0) Tryd.underlying96 hi hz0 .i64 .i64 0 (n : Int) (by omega) (by omega) (by rw [hz2]; omega) (by omega)
  rw [hz1] at hr
  exact ⟨_, hr, gb_make0 w n (by unfold maxLen; omega)⟩
theorem rsv_is (l : List UInt8) : rsv l ≤ 7 := by unfold rsv; (repeat' split) <;> omega
end Go.Proofs.YtiemiphlfbaojaaDoor
