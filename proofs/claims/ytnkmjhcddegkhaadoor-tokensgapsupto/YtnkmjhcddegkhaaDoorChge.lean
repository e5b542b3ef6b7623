import Derived.Test.YtnkmjhcddegkhaaDoorChgd
namespace Go.Proofs.YtnkmjhcddegkhaaDoor
open Go.ChangeShapes Go.WideShapes Go.ChangeAt Go.RowKit

theorem fold_pre (TT : Nat → ByteArray) (f : Fd) (ys : List Vl) (s : Fs) : ∃ R, (ys.foldl (fstep TT f) s).L = s.L ++ R := by
  induction ys generalizing s with
  | nil => exact ⟨[], by simp⟩
  | cons y r ih =>
    obtain ⟨R, hR⟩ := ih (fstep TT f s y)
    rw [List.foldl_cons, hR]
    unfold fstep
    split
    · exact ⟨_, by rw [List.append_assoc]⟩
    · exact ⟨R, rfl⟩
theorem frun_pre (TT : Nat → ByteArray) (f : Fd) (xs : List Vl) (k : Nat) : ∃ R, (frun TT f xs).L = (frun TT f (xs.take k)).L ++ R := by
  obtain ⟨R, hR⟩ := fold_pre TT f (xs.drop k) (frun TT f (xs.take k))
  refine ⟨R, ?_⟩
  rw [← hR]
  unfold frun
  rw [← List.foldl_append, List.take_append_drop]
theorem pre_at {L0 M1 R G : List Tk} (h : G = (L0 ++ M1) ++ R) {n0 j : Nat} (hn : n0 = L0.length) (hj : j < M1.length) : ∃ hl : n0 + j < G.length, G[n0 + j] = M1[j] := by
  subst h hn
  refine ⟨by simp; omega, ?_⟩
  rw [List.getElem_append_left (by simp; omega), List.getElem_append_right (by omega)]
  congr 1
  omega
theorem ris_lt {M : List Tk} {n : Nat} (h : Ris M n) {i j : Nat} (hi : i < j) (hj : j < M.length) : (M[i]'(by omega)).p < M[j].p :=
  List.pairwise_iff_getElem.1 h.1 i j (by omega) hj hi
end Go.Proofs.YtnkmjhcddegkhaaDoor
