import Derived.Test.YtiemiphlfbaojaaDoorMrg1
namespace Go.Proofs.YtiemiphlfbaojaaDoor
open Go.ChangeShapes Go.WideShapes Go.ChangeAt Go.RowKit

theorem cov_cons (l : List UInt8) (a : Nat) (M : List Lx) (h : Cov l a M) : ∃ x N, M = x :: N ∧ a ≤ x.a ∧ x.a ≤ x.e ∧ x.e ≤ l.length ∧ blk ((l.drop a).take (x.a - a)) = true := by
  cases M with
  | nil => exact h.elim
  | cons x N =>
    cases N with
    | nil =>
      obtain ⟨rfl, h1, h2⟩ := h
      exact ⟨_, _, rfl, h1, Nat.le_refl _, Nat.le_refl _, h2⟩
    | cons y N =>
      obtain ⟨h1, h2, h3, h4, _⟩ := h
      exact ⟨_, _, rfl, h1, by omega, h3, h4⟩
theorem slice_of (l : List UInt8) (i j : Nat) (h : i ≤ j) (hj : j ≤ l.length) (W : World) : (Instr.slice 9 (.string (bq l)) (some (.int .i64 (i : Int))) (some (.int .i64 (j : Int))) none).run Tryd.prog W = .ok (.string (bq ((l.drop i).take (j - i)))) W := by
  rw [run_slice_string W 9 (bq l) .i64 .i64 (i : Int) (j : Int) Tryd.underlying9 (by omega) (by omega) (by rw [bq_size]; omega), Int.toNat_natCast, Int.toNat_natCast, bq_extract]
theorem lx2_new (w : World) (x y : Lx) : ∀ k z, [x, y][k]? = some z → LxAt (w.alloc (.cells #[.int .i64 (x.k : Int), .string (bq x.t), .int .i64 x.n, .int .i64 (x.a : Int), .int .i64 (x.e : Int), .int .i64 (y.k : Int), .string (bq y.t), .int .i64 y.n, .int .i64 (y.a : Int), .int .i64 (y.e : Int)] 59)) w.heap.size k z := by
  intro k z h
  match k, h with
  | 0, h =>
    simp at h; subst h
    refine ⟨?_, ?_, ?_, ?_, ?_⟩ <;> (rw [World.cell?_alloc_new]; rfl)
  | 1, h =>
    simp at h; subst h
    refine ⟨?_, ?_, ?_, ?_, ?_⟩ <;> (rw [World.cell?_alloc_new]; rfl)
end Go.Proofs.YtiemiphlfbaojaaDoor
