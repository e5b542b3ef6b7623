import Derived.Test.YtcbhgpdookappaaDoorLive
import Derived.Lib.AppendStr
import Derived.Maps.AppendAt
import Derived.Laws.AppendOwnNone
namespace Go.Proofs.YtcbhgpdookappaaDoor
open Go.ChangeShapes Go.WideShapes Go.ChangeAt Go.RowKit

/-- What 'w.held = append(w.held, ..)' does, whatever the new value. -/
theorem wr_put {w w0 w1 : World} {bw : Nat} {v v' : Value} {xs news : List Int} (h : Wr w bw v xs) (k0 : Kept (fun _ => False) w w0)
    (hown : w1.ownsRow 0 5 1 v' (xs.length + news.length) (bs xs ++ bs news))
    (hgrow : w0.grownBy w1 v.ownBlock) (hat : v'.ownBlock = v.ownBlock ∨ v'.ownBlock = some w0.heap.size) :
    w1.cell? ⟨bw, 0, none⟩ = some v ∧ w1.frozen? ⟨bw, 0, none⟩ = false ∧ Wr (w1.setCell ⟨bw, 0, none⟩ v') bw v' (xs ++ news) ∧ WStep w (w1.setCell ⟨bw, 0, none⟩ v') bw v v' := by
  have k1 : Kept (fun k => v.ownBlock = some k) w w1 := k0.mono (fun _ h => h.elim) |>.trans (Kept.grown hgrow) (fun i hi => .inl hi)
  have hb : w1.heap[bw]? = some (.cells #[v] 98 (0, 0)) := k1.heap h.blk h.ne
  have hne : v'.ownBlock ≠ some bw := by
    rcases hat with e | e
    · rw [e]; exact h.ne
    · rw [e]; intro x; have := h.lt; have := k0.size; simp at x; omega
  refine ⟨cell_of_one hb, free_of_one hb, ⟨one_setCell hb, ?_⟩, ?_, ?_⟩
  · rw [List.length_append, bs_append]
    exact ownsRow_setCell_other hown hne _
  · exact (k1.mono (fun i hi => .inl (.inr hi))).trans (Kept.setCell _ _ _) (fun i hi => .inl (.inl hi))
  · intro k hk
    rcases hat with e | e
    · exact .inl (by rw [← e]; exact hk)
    · right; rw [e] at hk; have := k0.size; simp at hk; omega
theorem own_slice {w : World} {b e z n : Nat} {u : Value} {xs : List Value} (h : w.ownsRow b e z u n xs) : ∃ a c, u = .slice a n c := by
  obtain ⟨_, ⟨rfl, rfl⟩ | ⟨g, cap, cur, rfl, _⟩⟩ := h
  · exact ⟨_, _, rfl⟩
  · exact ⟨_, _, rfl⟩

end Go.Proofs.YtcbhgpdookappaaDoor
