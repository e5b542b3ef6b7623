import Derived.Test.YtiebmmpnmklpnaaDoorLive
namespace Go.Proofs.YtiebmmpnmklpnaaDoor
open Go.ChangeShapes Go.WideShapes Go.ChangeAt Go.RowKit

theorem Tryd.infoI : (Tryd.prog.info? 3).map (fun i => (i.zero, i.size, i.bytes)) = some (some (.int .i64 0), 1, 8) := by kernel_rfl
/-- Ints as cells. -/
def is (xs : List Int) : List Value := xs.map (Value.int .i64)
theorem is_length (a : List Int) : (is a).length = a.length := List.length_map ..
theorem is_one (a : List Int) : ∀ u ∈ is a, u.oneCell' = true := by
  intro u hu
  obtain ⟨x, _, rfl⟩ := List.mem_map.1 hu
  rfl
/-- What an owned row of ints is as a list in memory. -/
theorem ints_of_own {w : World} {base n : Nat} {v : Value} {l : List Int} (h : w.ownsRow base 3 1 v n (is l)) : ∃ a c, v = .slice a n c ∧ n = l.length ∧ (l ≠ [] → ∃ b off, a = some ⟨b, off, none⟩ ∧ base ≤ b ∧ v.ownBlock = some b ∧ ∀ k, k < l.length → w.cell? ⟨b, off + k, none⟩ = some (.int .i64 (l[k]?.getD 0))) := by
  have hn : n = l.length := by have := h.1; rw [is_length] at this; omega
  rcases h.2 with ⟨rfl, h0⟩ | ⟨g, cap, cur, rfl, hb, hg, hnc, _, hcs, ht⟩
  · refine ⟨none, 0, by rw [h0], hn, fun e => ?_⟩
    exact (e (List.eq_nil_of_length_eq_zero (by omega))).elim
  · refine ⟨_, cap, rfl, hn, fun _ => ⟨g, 0, rfl, hb, rfl, fun k hk => ?_⟩⟩
    rw [cell_of_row w g (0 + k) cur 3 (0, 0) hg]
    have h1 : (is l)[k]? = some (.int .i64 (l[k]?.getD 0)) := by
      unfold is
      rw [List.getElem?_map, List.getElem?_eq_getElem hk]; rfl
    rw [← ht, List.getElem?_take] at h1
    split at h1
    · simpa using h1
    · cases h1

end Go.Proofs.YtiebmmpnmklpnaaDoor
