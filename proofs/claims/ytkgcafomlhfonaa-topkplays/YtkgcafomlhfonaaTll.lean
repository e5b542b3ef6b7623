import Derived.Test.YtkgcafomlhfonaaTlk
namespace Go.Proofs.Ytkgcafomlhfonaa.Tk
open Go.ChangeShapes Go.WideShapes Go.ChangeAt Go.RowKit

theorem StA.same {W W' : World} {p q : Nat} {k : Int} {v : Value} {K : List Ht} {ka : Option Addr} {kc : Nat} (h : StA W p q k v K ka kc) (s : Kept (fun _ => False) W W') : StA W' p q k v K ka kc :=
  ⟨h.keep.same s, s.heap h.cell (fun f => f), h.hs.same s, h.qp, h.qv, h.fp, h.nil⟩
theorem SStep.of {W W' : World} {p q : Nat} {v : Value} {ka : Option Addr} (s : Kept (fun _ => False) W W') : SStep W W' p q v v ka ka :=
  ⟨s.mono (fun _ f => f.elim), fun _ h => Or.inl h, Or.inl rfl⟩
theorem step_any {W : World} {p q : Nat} {k : Int} {v : Value} {K : List Ht} {ka : Option Addr} {kc : Nat} (kind which : Int) (h : Ht) (hs : StA W p q k v K ka kc) (hlim : K.length + 1 ≤ 8796093021952) : Calls Try.prog 11 #[.pointer (some ⟨p, 0, none⟩), .pointer (some ⟨q, 0, none⟩), .int .i64 k, opA kind which h] W fun e w' => e = .returned (.bool true) ∧ ∃ v' K' ka' kc', StA w' p q k v' K' ka' kc' ∧ K'.length ≤ K.length + 1 ∧ SStep W w' p q v v' ka ka' := by
  have un : ∀ {e : Ending} {w' : World}, e = .returned (.bool true) ∧ Kept (fun _ => False) W w' → e = .returned (.bool true) ∧ ∃ v' K' ka' kc', StA w' p q k v' K' ka' kc' ∧ K'.length ≤ K.length + 1 ∧ SStep W w' p q v v' ka ka' :=
    fun x => ⟨x.1, v, K, ka, kc, hs.same x.2, Nat.le_succ _, SStep.of x.2⟩
  by_cases h1 : kind = 1
  · subst h1
    refine (step_offer which h hs hlim).mono ?_
    rintro e w' ⟨x, v', ka', kc', y, z⟩
    exact ⟨x, v', _, ka', kc', y, off_grow _ _ _, z⟩
  by_cases h2 : kind = 2
  · subst h2
    exact (step_len which h hs).mono (fun e w' x => un x)
  by_cases h3 : kind = 3
  · subst h3
    exact (step_worst which h hs (by omega)).mono (fun e w' x => un x)
  by_cases h4 : kind = 4
  · subst h4
    exact (step_hits which h hs (by omega)).mono (fun e w' x => un x)
  exact (step_none kind h1 h2 h3 h4 which h).mono (fun e w' x => un x)
end Go.Proofs.Ytkgcafomlhfonaa.Tk
