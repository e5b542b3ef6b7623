import Derived.Test.YtpopfgablgnalaaRdA
namespace Go.Proofs.Ytpopfgablgnalaa
open Go.ChangeShapes Go.WideShapes Go.ChangeAt Go.RowKit

theorem hide {p : Prop} (h : p) : Hid p := h

theorem bs_get {l : List Int} {j : Nat} {u : Value} (h : (bs l)[j]? = some u) : j < l.length ∧ u = .int .u8 (l[j]?.getD 0) := by
  unfold bs at h
  rw [List.getElem?_map] at h
  cases hj : l[j]? with
  | none => rw [hj] at h; simp at h
  | some x =>
    rw [hj] at h
    simp at h
    refine ⟨(List.getElem?_eq_some_iff.1 hj).1, ?_⟩
    simp [h]
theorem BytesAt.cells {w : World} {b off : Nat} {l : List Int} (h : ∀ k, k < l.length → w.cell? ⟨b, off + k, none⟩ = some (.int .u8 (l[k]?.getD 0))) : ∀ j u, (bs l)[j]? = some u → w.cell? ((⟨b, off, none⟩ : Addr).add j) = some u := by
  intro j u hu
  obtain ⟨hj, rfl⟩ := bs_get hu
  have e : (⟨b, off, none⟩ : Addr).add j = ⟨b, off + j, none⟩ := by unfold Addr.add; split <;> simp_all
  rw [e]
  exact h j hj
theorem Try.sizeB : (Try.prog.info? 5).map (·.size) = some 1 := by kernel_rfl
/-- What an owned row of bytes is as a list in memory. -/
theorem bytes_of_own {w : World} {base n : Nat} {v : Value} {l : List Int} (h : w.ownsRow base 5 1 v n (bs l)) : ∃ a c, v = .slice a n c ∧ BytesAt w a l ∧ n = l.length := by
  have hn : n = l.length := by have := h.1; rw [bs_length] at this; omega
  rcases h.2 with ⟨rfl, h0⟩ | ⟨g, cap, cur, rfl, _, hg, hnc, _, hcs, ht⟩
  · refine ⟨none, 0, by rw [h0], fun e => ?_, hn⟩
    exact (e (List.eq_nil_of_length_eq_zero (by omega))).elim
  · refine ⟨_, cap, rfl, fun _ => ⟨g, 0, rfl, fun k hk => ?_⟩, hn⟩
    rw [cell_of_row w g (0 + k) cur 5 (0, 0) hg]
    have h1 : (bs l)[k]? = some (.int .u8 (l[k]?.getD 0)) := by
      unfold bs
      rw [List.getElem?_map, List.getElem?_eq_getElem hk]; rfl
    rw [← ht, List.getElem?_take] at h1
    split at h1
    · simpa using h1
    · cases h1

end Go.Proofs.Ytpopfgablgnalaa
