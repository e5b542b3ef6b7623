import Derived.Test.YtcbhgpdookappaaDoorWrB
import Derived.Test.YtcbhgpdookappaaDoorRun
namespace Go.Proofs.YtcbhgpdookappaaDoor
open Go.ChangeShapes Go.WideShapes Go.ChangeAt Go.RowKit

/-- A list of ints that lies apart from what a Writer writes. -/
def IntsFar (w : World) (a : Option Addr) (l : List Int) (bw : Nat) (v : Value) : Prop :=
  l ≠ [] → ∃ b off, a = some ⟨b, off, none⟩ ∧ ¬ WF bw v b ∧ ∀ k, k < l.length → w.cell? ⟨b, off + k, none⟩ = some (.int .i64 (l[k]?.getD 0))
theorem IntsFar.ints {w : World} {a : Option Addr} {l : List Int} {bw : Nat} {v : Value} (h : IntsFar w a l bw v) : IntsAt w a l := by
  intro hl
  obtain ⟨b, off, e, _, hc⟩ := h hl
  exact ⟨b, off, e, hc⟩
theorem IntsFar.step {w w' : World} {a : Option Addr} {l : List Int} {bw : Nat} {v v' : Value} (h : IntsFar w a l bw v) (k : WStep w w' bw v v') : IntsFar w' a l bw v' := by
  intro hl
  obtain ⟨b, off, e, hF, hc⟩ := h hl
  have h0 := hc 0 (List.length_pos_iff.2 hl)
  have hlt := World.block_lt_of_cell? w _ h0
  refine ⟨b, off, e, ?_, fun j hj => k.kept.cell (hc j hj) hF⟩
  rintro (e1 | e1)
  · exact hF (.inl e1)
  · rcases k.new b e1 with x | x
    · exact hF (.inr x)
    · simp at hlt; omega
theorem IntsFar.keptF {F : Nat → Prop} {w w' : World} {a : Option Addr} {l : List Int} {bw : Nat} {v : Value} (h : IntsFar w a l bw v) (k : Kept F w w') (hF : ∀ ad, a = some ad → ¬ F ad.block) : IntsFar w' a l bw v := by
  intro hl
  obtain ⟨b, off, e, hW, hc⟩ := h hl
  exact ⟨b, off, e, hW, fun j hj => k.cell (hc j hj) (hF ⟨b, off, none⟩ e)⟩

end Go.Proofs.YtcbhgpdookappaaDoor
