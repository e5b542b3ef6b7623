import Derived.Test.YtcbhgpdookappaaDoorWrC
namespace Go.Proofs.YtcbhgpdookappaaDoor
open Go.ChangeShapes Go.WideShapes Go.ChangeAt Go.RowKit

theorem Kept.drewN (w : World) (n : Nat) : Kept (fun _ => False) w (w.drewN n) := ⟨rfl, rfl, rfl, Nat.le_refl _, fun _ _ _ => rfl⟩
theorem Wr.drewN {w : World} {bw : Nat} {v : Value} {xs : List Int} (h : Wr w bw v xs) (n : Nat) : Wr (w.drewN n) bw v xs := h.kept (Kept.drewN w n) (fun _ _ f => f)
theorem WStep.drewN (w : World) (bw : Nat) (v : Value) (n : Nat) : WStep w (w.drewN n) bw v v := ⟨(Kept.drewN w n).mono (fun _ h => h.elim), fun _ h => .inl h⟩

/-- The bytes of a packed list. -/
def packed (l : List Int) : List Int :=
  uvb l.length ++ (if l = [] then [] else ((bitLen (orl l) : Nat) : Int) :: le ((l.length * bitLen (orl l) + 7) / 8) (pk (bitLen (orl l)) l))
theorem packed_length (l : List Int) : (packed l).length = ulen l.length + (if l = [] then 0 else 1 + (l.length * bitLen (orl l) + 7) / 8) := by
  unfold packed
  rw [List.length_append, uvb_length]
  split <;> simp [le_length]
  omega
theorem orl_bits (l : List Int) (h0 : ∀ x ∈ l, 0 ≤ x) (hI : IsInts l) : bitLen (orl l) ≤ 63 := by
  rw [bitLen_le_iff]
  exact orl_lt 63 l (fun x hx => by have := hI x hx; have := h0 x hx; omega)
theorem no_neg {l : List Int} (h0 : ∀ x ∈ l, 0 ≤ x) : l.any (fun x => decide (x < 0)) = false := by
  rw [List.any_eq_false]
  intro x hx
  have := h0 x hx
  simp; omega


end Go.Proofs.YtcbhgpdookappaaDoor
