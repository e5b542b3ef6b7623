import Derived.Test.YtedohkcoeebajaaDoorPod
namespace Go.Proofs.YtedohkcoeebajaaDoor
open Go.ChangeShapes Go.WideShapes Go.ChangeAt Go.RowKit

theorem WStep.ofKept {w w' : World} {bw : Nat} {v : Value} (k : Kept (fun _ => False) w w') : WStep w w' bw v v := ⟨k.mono (fun _ f => f.elim), fun _ h => .inl h⟩
theorem psb_le : ∀ {F : List Po}, (∀ p ∈ F, Ris p.ps 0) → (psb F).length ≤ 10 * tot F
  | [], _ => Nat.zero_le _
  | p :: F, h => by
    have h1 := psb_le (F := F) (fun q hq => h q (List.mem_cons_of_mem _ hq))
    have h2 := risb_length p.ps 0 (fun x hx => ((h p (List.mem_cons_self ..)).mem x hx).2)
    rw [psb_cons, List.length_append, tot]
    omega
theorem pol_take (L : List Pg) (k : Nat) : pol (L.take k) = (pol L).take k := by simp [pol, List.map_take]
theorem pol_step {L : List Pg} {k : Nat} (h : k < L.length) : pol (L.take (k + 1)) = pol (L.take k) ++ [⟨L[k].d, L[k].ps⟩] := by
  rw [List.take_succ_eq_append_getElem h]
  unfold pol
  rw [List.map_append]
  rfl
theorem pol_at {L : List Pg} {k : Nat} (h : k < L.length) : (⟨L[k].d, L[k].ps⟩ : Po) ∈ pol L := List.mem_map.2 ⟨L[k], List.getElem_mem h, rfl⟩
theorem tot_mem : ∀ {F : List Po} {p : Po}, p ∈ F → p.ps.length ≤ tot F
  | q :: F, p, h => by
    rw [tot]
    rcases List.mem_cons.1 h with rfl | h
    · omega
    · have := tot_mem h; omega
theorem tot_take_le (F : List Po) (k : Nat) : tot (F.take k) ≤ tot F := by
  have := tot_append (F.take k) (F.drop k)
  rw [List.take_append_drop] at this
  omega
theorem gdl_at : ∀ {F : List Po} {b : Int} {k : Nat} (h : k < F.length), gdl b F → Gd1 (lastd b (F.take k)) F[k]
  | p :: F, b, 0, _, hg => by simpa [lastd] using hg.1
  | p :: F, b, k + 1, h, hg => by
    have := gdl_at (F := F) (b := p.d) (k := k) (by simpa using h) hg.2
    simpa [lastd] using this
theorem packed_le {l : List Int} (h0 : ∀ x ∈ l, 0 ≤ x) (hI : IsInts l) (hl : l.length ≤ 16) : (packed l).length ≤ 200 := by
  have h1 := orl_bits l h0 hI
  have h2 := (ulen_le l.length (by omega)).2
  have h3 : l.length * bitLen (orl l) ≤ 16 * 63 := Nat.mul_le_mul hl h1
  rw [packed_length]
  split <;> omega
theorem gdl_take {F : List Po} {b : Int} (h : gdl b F) (k : Nat) : gdl b (F.take k) := by
  have : gdl b (F.take k ++ F.drop k) := by rw [List.take_append_drop]; exact h
  exact ((gdl_append _ _ _).1 this).1
end Go.Proofs.YtedohkcoeebajaaDoor
