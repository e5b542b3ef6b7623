import Derived.Test.YtbcohdioapmlgaaDoorBp
import Derived.BigQuiet
namespace Go.Proofs.YtbcohdioapmlgaaDoor
open Go.ChangeShapes Go.WideShapes Go.ChangeAt Go.RowKit

/-- A call of a script, as a value. -/
def opV (kd : Int) (sec : Bool) (nn uu ii : Int) (bv : Value) (s : ByteArray) (lv : Value) : Value := .agg #[.int .i64 kd, .bool sec, .int .i64 nn, .int .u64 uu, .int .i64 ii, bv, .string s, lv]
def opCells (kd : Int) (sec : Bool) (nn uu ii : Int) (bv : Value) (s : ByteArray) (lv : Value) : Array Value := #[.int .i64 kd, .bool sec, .int .i64 nn, .int .u64 uu, .int .i64 ii, bv, .string s, lv]
def badAt (kd : Int) (l : List Int) (k : Nat) : Bool := decide (l[k]?.getD 0 < 0) || (decide (kd = 8) && decide (0 < k) && decide (l[k]?.getD 0 ≤ l[k - 1]?.getD 0))
def mayB (kd : Int) (l : List Int) : Bool := ((List.range l.length).all fun k => !badAt kd l k) && (decide (kd ≠ 9) || !(l.all fun x => decide (x = 0)) || decide (l.length ≤ 65536))
theorem mayB_bad {kd : Int} {l : List Int} {k : Nat} (hk : k < l.length) (h : badAt kd l k = true) : mayB kd l = false := by
  unfold mayB
  rw [Bool.and_eq_false_iff]
  refine .inl ?_
  rw [List.all_eq_false]
  exact ⟨k, List.mem_range.2 hk, by simp [h]⟩

theorem all_snoc {k : Nat} {l : List Int} (p : Int → Bool) (hk : k < l.length) : (l.take (k + 1)).all p = ((l.take k).all p && p (l[k]?.getD 0)) := by
  rw [List.take_add_one, List.all_append, List.getElem?_eq_getElem hk]
  simp
theorem stepJ {p : Nat → Prop} {k : Nat} (h : ∀ j, j < k → p j) (h2 : p k) : ∀ j, j < k + 1 → p j := by
  intro j hj
  by_cases e : j = k
  · exact e ▸ h2
  · exact h j (by omega)
end Go.Proofs.YtbcohdioapmlgaaDoor
