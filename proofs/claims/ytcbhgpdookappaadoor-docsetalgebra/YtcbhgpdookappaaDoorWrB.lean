import Derived.Test.YtcbhgpdookappaaDoorWrA
import Derived.Test.YtcbhgpdookappaaDoorPack
import Derived.Deep.QuietTactic
import Derived.BigQuiet
namespace Go.Proofs.YtcbhgpdookappaaDoor
open Go.ChangeShapes Go.WideShapes Go.ChangeAt Go.RowKit

/-- A list of ints as it lies in memory: nothing is said of the address of an empty one. -/
def IntsAt (w : World) (a : Option Addr) (l : List Int) : Prop :=
  l ≠ [] → ∃ b off, a = some ⟨b, off, none⟩ ∧ ∀ k, k < l.length → w.cell? ⟨b, off + k, none⟩ = some (.int .i64 (l[k]?.getD 0))
/-- Ints that are ints. -/
def IsInts (l : List Int) : Prop := ∀ x ∈ l, -9223372036854775808 ≤ x ∧ x ≤ 9223372036854775807
theorem IsInts.at {l : List Int} (h : IsInts l) {k : Nat} (hk : k < l.length) : -9223372036854775808 ≤ l[k]?.getD 0 ∧ l[k]?.getD 0 ≤ 9223372036854775807 := by
  rw [List.getElem?_eq_getElem hk]
  exact h _ (List.getElem_mem hk)
theorem IntsAt.get {w : World} {a : Option Addr} {l : List Int} (h : IntsAt w a l) {k : Nat} (hk : k < l.length) : ∃ b off, a = some ⟨b, off, none⟩ ∧ w.cell? ⟨b, off + k, none⟩ = some (.int .i64 (l[k]?.getD 0)) := by
  obtain ⟨b, off, e, hc⟩ := h (by intro e; rw [e] at hk; simp at hk)
  exact ⟨b, off, e, hc k hk⟩
theorem IntsAt.of_same {w w' : World} {a : Option Addr} {l : List Int} (h : IntsAt w a l) (hs : ∀ p v, w.cell? p = some v → (∃ x, v = .int .i64 x) → w'.cell? p = some v) : IntsAt w' a l := by
  intro hl
  obtain ⟨b, off, e, hc⟩ := h hl
  exact ⟨b, off, e, fun k hk => hs _ _ (hc k hk) ⟨_, rfl⟩⟩

theorem any_snoc {k : Nat} {l : List Int} (p : Int → Bool) (hk : k < l.length) : (l.take (k + 1)).any p = ((l.take k).any p || p (l[k]?.getD 0)) := by
  rw [List.take_succ_eq_append_getElem hk, List.any_append, List.getElem?_eq_getElem hk]
  simp

/-- Each is greater than the one before it. -/
def riseB (l : List Int) : Bool := (List.range (l.length - 1)).all fun j => decide (l[j]?.getD 0 < l[j + 1]?.getD 0)
theorem riseB_iff (l : List Int) : riseB l = true ↔ ∀ j, j + 1 < l.length → l[j]?.getD 0 < l[j + 1]?.getD 0 := by
  unfold riseB
  rw [List.all_eq_true]
  constructor
  · intro h j hj
    simpa using h j (List.mem_range.2 (by omega))
  · intro h j hj
    simpa using h j (by have := List.mem_range.1 hj; omega)
end Go.Proofs.YtcbhgpdookappaaDoor
