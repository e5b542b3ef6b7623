import Derived.Test.YtcnnnkdbbiflfaaDoorMrg2
import Derived.Test.YtcnnnkdbbiflfaaDoorMrg1
namespace Go.Proofs.YtcnnnkdbbiflfaaDoor
open Go.ChangeShapes Go.WideShapes Go.ChangeAt Go.RowKit

/-- The entries of DictWalks. -/
def enW (i : Nat) (x : List UInt8) : En := ⟨⟨x.toArray⟩, (i : Nat), (2 * i : Nat), (3 * i : Nat), 1⟩
def entW (T : List (List UInt8)) : List En := T.mapIdx enW
theorem entW_len (T : List (List UInt8)) : (entW T).length = T.length := by unfold entW; simp
theorem entW_at {T : List (List UInt8)} {i : Nat} (h : i < T.length) : (entW T)[i]'(by rw [entW_len]; exact h) = enW i T[i] := by unfold entW; simp
theorem entW_take {T : List (List UInt8)} {i : Nat} (h : i < T.length) : (entW T).take (i + 1) = (entW T).take i ++ [enW i T[i]] := by
  rw [List.take_succ_eq_append_getElem (by rw [entW_len]; exact h), entW_at h]
theorem entW_good {T : List (List UInt8)} (hs : StrictK T) (ho : ∀ x ∈ T, okK x) (hl : T.length ≤ 1048576) : Good (entW T) := by
  refine good_of (fun e he => ?_) (fun i h => ?_)
  · obtain ⟨i, hi, rfl⟩ := List.mem_iff_getElem.1 he
    rw [entW_len] at hi
    rw [entW_at hi]
    have := ho _ (List.getElem_mem hi)
    unfold okK at this
    have hz : (⟨T[i].toArray⟩ : ByteArray).size = T[i].length := by simp [ByteArray.size]
    refine ⟨?_, ?_, ?_, ?_, ?_, ?_⟩ <;> unfold enW <;> dsimp only <;> omega
  · rw [entW_len] at h
    rw [entW_at (by omega), entW_at h]
    have := hs i h
    unfold klt enW
    dsimp only
    rw [ByteArray.toList_eq, ByteArray.toList_eq]
    exact this
end Go.Proofs.YtcnnnkdbbiflfaaDoor
