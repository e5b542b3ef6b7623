import Derived.Test.YtiebmmpnmklpnaaDoorIs
import Derived.Test.YtiebmmpnmklpnaaDoorGro
namespace Go.Proofs.YtiebmmpnmklpnaaDoor
open Go.ChangeShapes Go.WideShapes Go.ChangeAt Go.RowKit

/-! make([]int, n), and its cells. -/
theorem mkI_cells (n : Nat) : madeCells #[Value.int .i64 0] n = (is (List.replicate n (0 : Int))).toArray := by
  apply Array.ext
  · rw [size_madeCells, List.size_toArray]; simp [is]
  · intro i h1 h2
    simp [madeCells, is, Nat.mod_one]
theorem mkI_run (n : Nat) (W : World) (hn : n ≤ 1099511627776) :
    (Instr.makeSlice 22 (.int .i64 (n : Int)) (.int .i64 (n : Int))).run Tryd.prog W = .ok (.slice (some ⟨W.heap.size, 0, none⟩) n n) (W.alloc (.cells (is (List.replicate n (0 : Int))).toArray 3)) := by
  obtain ⟨i0, hi, hz0, hz1, hz2⟩ := info_parts Tryd.infoI
  have q := run_make (P := Tryd.prog) W 22 3 i0 (.int .i64 0) Tryd.underlying22 hi hz0 .i64 .i64 (n : Int) (n : Int) (by omega) (by omega) (by rw [hz2]; omega) (by omega)
  rw [hz1, Nat.mul_one, Int.toNat_natCast] at q
  rw [q, show (Value.int .i64 0).cells = #[Value.int .i64 0] from rfl, mkI_cells]
theorem mkI_gro (n : Nat) (W : World) (hn : n ≤ 1099511627776) : Gro W (W.alloc (.cells (is (List.replicate n (0 : Int))).toArray 3)) 3 1 (.slice (some ⟨W.heap.size, 0, none⟩) n n) n (is (List.replicate n 0)) := by
  have hs : (is (List.replicate n (0 : Int))).length = n := by simp [is]
  refine ⟨⟨by rw [hs]; omega, .inr ⟨W.heap.size, n, (is (List.replicate n 0)).toArray, rfl, Nat.le_refl _, heap_alloc_new W _, Nat.le_refl _, by unfold maxLen; omega, by simp [is], ?_⟩⟩, Kept.alloc W _⟩
  rw [List.toList_toArray, List.take_of_length_le (by rw [hs]; omega)]
theorem isV_get {l : List Int} {k : Nat} {x : Int} (h : l[k]? = some x) : (is l)[k]? = some (.int .i64 x) := by simp [is, h]
theorem isV_set (l : List Int) (k : Nat) (x : Int) : (is l).set k (.int .i64 x) = is (l.set k x) := by simp [is, List.map_set]
theorem gro_ints {w0 w : World} {a : Option Addr} {c n : Nat} {l : List Int} (h : Gro w0 w 3 1 (.slice a n c) n (is l)) (hn : n = l.length) : IntsAt w a l := fun hne => by
  have hp : 0 < n := by rw [hn]; exact List.length_pos_iff.2 hne
  obtain ⟨g, rfl, -, hc⟩ := h.cell hp
  refine ⟨g, 0, rfl, fun k hk => ?_⟩
  rw [Nat.zero_add]
  exact hc k _ (isV_get (by rw [List.getElem?_eq_getElem hk]; simp))
end Go.Proofs.YtiebmmpnmklpnaaDoor
