import Derived.Test.YtkgcafomlhfonaaTky
import Derived.Test.YtkgcafomlhfonaaTkw
namespace Go.Proofs.Ytkgcafomlhfonaa.Tk
open Go.ChangeShapes Go.WideShapes Go.ChangeAt Go.RowKit

/-- Lists of hits that came in, with their room. -/
theorem hlists_ofC {H : Type} {enc : TypeId × Value → H} {W : World} {fuel : Nat} {cs : List Value} {x : DataW H × List MemPlace} (hf : DataW.trod enc Try.prog W 0 (fun _ => true) true fuel 39 cs = some x) :
    ∃ (a : Option Addr) (c : Nat) (S : List Hl), cs = [.slice a S.length c] ∧ LsAt W a S ∧ (∀ g ∈ S, g.l.length ≤ g.c) ∧ (allH S).length + S.length < Rows.uptoBulk x.1 := by
  rcases DataW.trod_slice Try.underlying39 hf with ⟨rfl, rfl⟩ | ⟨a, len, cap, elems, rest, n, _, rfl, rfl, _, hl, hm, hlen, hel, _, _⟩
  · exact ⟨none, 0, [], rfl, fun e => (e rfl).elim, fun y hy => (by cases hy), bulk_posT _⟩
  rw [cHits] at hel
  have hbk : Rows.uptoBulk (DataW.slice (H := H) (elems.map (·.1)) (rest.map (·.1))) = Rows.uptoBulkAll (elems.map (·.1)) + Rows.uptoBulkAll (rest.map (·.1)) + 1 := by simp only [Rows.uptoBulk]
  have each : ∀ i, i < len → ∃ o : Hl, (∀ j, j < 1 → W.cell? ((a.add (i * 1)).add j) = [Value.slice o.a o.l.length o.c][j]?) ∧ (HsAt W o.a o.l ∧ o.l.length ≤ o.c) ∧ ∀ (h : i < elems.length), o.l.length + 1 ≤ Rows.uptoBulk (elems[i]).1 := by
    intro i hi
    have h := hel i hi
    rw [List.getElem?_eq_getElem (by omega), Option.bind_eq_some_iff] at h
    obtain ⟨cs8, h1, h2⟩ := h
    obtain ⟨_, h3⟩ := (World.cells?_some h1).2
    obtain ⟨la, lc, B, rfl, k1, k2, k3⟩ := hits_of h2
    exact ⟨⟨la, lc, B⟩, h3, ⟨k1, hits_cap h2 rfl⟩, fun _ => k2⟩
  obtain ⟨S, hS, hp⟩ := choose_listT len each
  refine ⟨some a, cap, S, by rw [hS], fun hne => ?_, fun o ho => ?_, ?_⟩
  · have hp0 : 0 < S.length := List.length_pos_iff.2 hne
    obtain ⟨b, off, spot⟩ := a
    have h00 := (hp 0 hp0).1 0 (by omega)
    have hspot : spot = none := by
      have e : [Value.slice (S[0]).a (S[0]).l.length (S[0]).c][0]? = some (.slice (S[0]).a (S[0]).l.length (S[0]).c) := rfl
      rw [e] at h00
      simpa [Addr.add] using World.cell?_spot h00
    subst hspot
    refine ⟨b, off, rfl, fun k hk => ?_⟩
    have t0 := (hp k hk).1 0 (by omega)
    rw [Go.WideShapes.add_plain, Go.WideShapes.add_plain, Nat.mul_one] at t0
    exact ⟨t0, (hp k hk).2.1.1⟩
  · obtain ⟨i, hi, rfl⟩ := List.mem_iff_getElem.1 ho
    exact (hp i hi).2.1.2
  · have h1 := hits_tot S (elems.map (·.1)) (by rw [List.length_map]; omega) (fun i hi hi' => by
      rw [List.getElem_map]
      exact (hp i hi).2.2 (by omega))
    show (allH S).length + S.length < Rows.uptoBulk (DataW.slice (H := H) (elems.map (·.1)) (rest.map (·.1)))
    omega
end Go.Proofs.Ytkgcafomlhfonaa.Tk
