import Derived.Test.YtmddcjjmlfpffaaAub
namespace Go.Proofs.Ytmddcjjmlfpffaa
open Go.ChangeShapes Go.WideShapes Go.ChangeAt Go.RowKit

/-- One number's part in the next state; the next state. -/
def nxW (E : List Int) (b : Nat) (L : List Nat) (i : Nat) : List Nat :=
  let L1 := if 0 < i ∧ E[i - 1]? = some 257 then rch E L i else L
  if E[i]? = some 256 ∨ E[i]? = some (b : Int) then rch E L1 (i + 1) else L1
def nxt (E : List Int) (b : Nat) (S : List Nat) : List Nat := S.foldl (nxW E b) []
theorem nxW_all {E : List Int} {b : Nat} {L : List Nat} {i : Nat} (hL : ∀ x ∈ L, x ≤ E.length) (hi : i ≤ E.length) : ∀ x ∈ nxW E b L i, x ≤ E.length := by
  unfold nxW
  have h1 : ∀ x ∈ (if 0 < i ∧ E[i - 1]? = some 257 then rch E L i else L), x ≤ E.length := by
    split
    · exact rch_all hL hi
    · exact hL
  simp only []
  split
  · rename_i h
    have : i < E.length := by
      rcases Nat.lt_or_ge i E.length with h' | h'
      · exact h'
      · rw [List.getElem?_eq_none h'] at h; simp at h
    exact rch_all h1 this
  · exact h1
theorem nxt_all {E : List Int} {b : Nat} {S : List Nat} (hS : ∀ x ∈ S, x ≤ E.length) : ∀ x ∈ nxt E b S, x ≤ E.length := by
  have : ∀ (S L : List Nat), (∀ x ∈ S, x ≤ E.length) → (∀ x ∈ L, x ≤ E.length) → ∀ x ∈ S.foldl (nxW E b) L, x ≤ E.length := by
    intro S
    induction S with
    | nil => exact fun L _ h => h
    | cons i S ih => exact fun L hS hL => ih _ (fun x hx => hS x (List.mem_cons_of_mem _ hx)) (nxW_all hL (hS i List.mem_cons_self))
  exact this S [] hS (fun x h => by cases h)
theorem nxW_size {E : List Int} {b : Nat} {L : List Nat} {i : Nat} : (nxW E b L i).length ≤ L.length + 4 := by
  unfold nxW
  have h1 : (if 0 < i ∧ E[i - 1]? = some 257 then rch E L i else L).length ≤ L.length + 2 := by
    split
    · exact rch_size
    · omega
  simp only []
  split
  · have := rch_size (E := E) (L := if 0 < i ∧ E[i - 1]? = some 257 then rch E L i else L) (i := i + 1)
    omega
  · omega
theorem Kept.drewA (w : World) (n : Nat) : Kept (fun _ => False) w (w.drewN n) := ⟨rfl, rfl, rfl, Nat.le_refl _, fun _ _ _ => rfl⟩
end Go.Proofs.Ytmddcjjmlfpffaa
