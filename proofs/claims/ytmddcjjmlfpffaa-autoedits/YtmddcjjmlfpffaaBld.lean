import Derived.Test.YtmddcjjmlfpffaaGro
import Derived.Test.YtmddcjjmlfpffaaShl
import Derived.Lib.Builder
import Derived.Lib.AppendStr
namespace Go.Proofs.Ytmddcjjmlfpffaa
open Go.ChangeShapes Go.WideShapes Go.ChangeAt Go.RowKit

theorem hideB {p : Prop} (h : p) : Hid p := h
/-- What a call on the Builder may write: its own box, and younger rows of bytes. -/
def BF (w : World) (b : Nat) : Nat → Prop := fun k => k = b ∨ (b ≤ k ∧ ∃ c fz, w.heap[k]? = some (.cells c 5 fz))
theorem BF.trans {w w1 w2 : World} {b : Nat} (h : Kept (BF w b) w w1) (k : Kept (BF w1 b) w1 w2) : Kept (BF w b) w w2 := by
  refine h.trans k (fun i hi => ?_)
  rcases hi with e | ⟨hb, c, fz, hc⟩
  · exact .inl (.inl e)
  · by_cases hlt : i < w.heap.size
    · by_cases hF : BF w b i
      · exact .inl hF
      · rw [h.block i hlt hF] at hc
        exact .inl (.inr ⟨hb, c, fz, hc⟩)
    · exact .inr (by omega)
theorem BF.quiet {w w1 : World} (b : Nat) (h : Kept (fun _ => False) w w1) : Kept (BF w b) w w1 := h.mono (fun _ f => f.elim)
theorem BF.below {w w1 : World} {b : Nat} (h : Kept (BF w b) w w1) {p : Addr} {u : Value} (hc : w.cell? p = some u) (hp : p.block < b) : w1.cell? p = some u :=
  h.cell hc (fun f => by rcases f with e | ⟨e, _⟩ <;> omega)
theorem BF.box {w w1 : World} {b : Nat} (h : Kept (BF w b) w w1) {k : Nat} {cs : Array Value} {t : TypeId} {fz : Nat × Nat} (hc : w.heap[k]? = some (.cells cs t fz)) (hk : k ≠ b) (ht : t ≠ 5) : w1.heap[k]? = some (.cells cs t fz) :=
  h.heap hc (fun f => by
    rcases f with e | ⟨_, c, fz', e⟩
    · exact hk e
    · rw [hc] at e
      simp only [Option.some.injEq, Obj.cells.injEq] at e
      exact ht e.2.1)
theorem own_slice {w : World} {base e sz n : Nat} {v : Value} {xs : List Value} (h : w.ownsRow base e sz v n xs) : ∃ a c, v = .slice a n c := by
  rcases h.2 with ⟨rfl, e⟩ | ⟨g, cap, cur, rfl, _⟩
  · rw [e]; exact ⟨_, _, rfl⟩
  · exact ⟨_, _, rfl⟩
end Go.Proofs.Ytmddcjjmlfpffaa
