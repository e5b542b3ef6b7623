import Derived.Test.YtkgcafomlhfonaaTll
namespace Go.Proofs.Ytkgcafomlhfonaa.Tk
open Go.ChangeShapes Go.WideShapes Go.ChangeAt Go.RowKit

/-- What a keeper and the document's list beside it may write. -/
def Fp (p q : Nat) (v : Value) (i : Nat) : Prop := i = p ∨ v.ownBlock = some i ∨ i = q
/-- What they stand on. -/
def Rp (p q : Nat) (v : Value) (K : List Ht) (ka : Option Addr) (i : Nat) : Prop := Fp p q v i ∨ (K ≠ [] ∧ ∃ o, ka = some ⟨i, o, none⟩)
section
variable {W W' : World} {p q : Nat} {k : Int} {v v' : Value} {K K' : List Ht} {ka ka' : Option Addr} {kc kc' : Nat}
theorem StA.fp_lt (h : StA W p q k v K ka kc) {i : Nat} (hi : Fp p q v i) : i < W.heap.size := by
  obtain ⟨pl, vl⟩ := h.keep.lt
  rcases hi with e | e | e
  · omega
  · exact (vl _ e).2
  · have := lt_of_block h.cell; omega
theorem StA.rp_lt (h : StA W p q k v K ka kc) {i : Nat} (hi : Rp p q v K ka i) : i < W.heap.size := by
  rcases hi with e | ⟨hne, o, e⟩
  · exact h.fp_lt e
  · obtain ⟨b', o', e', hc⟩ := h.hs hne
    have e2 := e.symm.trans e'
    simp only [Option.some.injEq, Addr.mk.injEq, and_true] at e2
    obtain ⟨rfl, rfl⟩ := e2
    have c0 := (hc 0 (List.length_pos_iff.2 hne)).1
    rcases Nat.lt_or_ge i W.heap.size with l | l
    · exact l
    · simp [World.cell?, Array.getElem?_eq_none l] at c0
theorem SStep.fp (s : SStep W W' p q v v' ka ka') {i : Nat} (hi : Fp p q v' i) : Fp p q v i ∨ W.heap.size ≤ i := by
  rcases hi with e | e | e
  · exact Or.inl (Or.inl e)
  · rcases s.newv i e with f | f
    · exact Or.inl (Or.inr (Or.inl f))
    · exact Or.inr f
  · exact Or.inl (Or.inr (Or.inr e))
theorem SStep.rp (s : SStep W W' p q v v' ka ka') (h : StA W p q k v K ka kc) (h' : StA W' p q k v' K' ka' kc') {i : Nat} (hi : Rp p q v' K' ka' i) : Rp p q v K ka i ∨ W.heap.size ≤ i := by
  rcases hi with e | ⟨hne, o, e⟩
  · exact (s.fp e).imp Or.inl id
  · rcases s.newa with f | f
    · by_cases hK : K = []
      · have hk : k.toNat ≠ 0 := by
          have h1 := h'.keep.len
          have h2 := List.length_pos_iff.2 hne
          omega
        have := h.nil hK hk
        rw [f, this] at e
        cases e
      · exact Or.inl (Or.inr ⟨hK, o, by rw [← f]; exact e⟩)
    · exact Or.inr (f i o e)
theorem StA.other {F : Nat → Prop} (h : StA W p q k v K ka kc) (s : Kept F W W') (hF : ∀ i, Rp p q v K ka i → ¬ F i) : StA W' p q k v K ka kc := by
  obtain ⟨H, a, b, c⟩ := h.keep.at'
  refine ⟨⟨⟨H, ⟨s.heap a.box (hF _ (Or.inl (Or.inl rfl))), a.row.same s (fun i hi => hF i (Or.inl (Or.inr (Or.inl hi)))), a.far⟩, b, c⟩, h.keep.srt, h.keep.len, Nat.le_trans h.keep.old s.size, h.keep.nil⟩, s.heap h.cell (hF _ (Or.inl (Or.inr (Or.inr rfl)))), ?_, h.qp, h.qv, h.fp, h.nil⟩
  intro hne
  exact (h.hs.kept s (fun b off e => hF b (Or.inr ⟨hne, off, e⟩))) hne
end
/-- Two keepers, each with its list, neither on the other's ground. -/
structure Duo (W : World) (p q : Nat) (k : Int) (v : Value) (K : List Ht) (ka : Option Addr) (kc : Nat) (p2 q2 : Nat) (k2 : Int) (v2 : Value) (K2 : List Ht) (kb : Option Addr) (kd : Nat) : Prop where
  one : StA W p q k v K ka kc
  two : StA W p2 q2 k2 v2 K2 kb kd
  far : ∀ i, Rp p q v K ka i → ¬ Fp p2 q2 v2 i
  far2 : ∀ i, Rp p2 q2 v2 K2 kb i → ¬ Fp p q v i
section
variable {W W' : World} {p q p2 q2 : Nat} {k k2 : Int} {v v' v2 : Value} {K K' K2 : List Ht} {ka ka' kb : Option Addr} {kc kc' kd : Nat}
theorem Duo.swap (d : Duo W p q k v K ka kc p2 q2 k2 v2 K2 kb kd) : Duo W p2 q2 k2 v2 K2 kb kd p q k v K ka kc := ⟨d.two, d.one, d.far2, d.far⟩
theorem Duo.same (d : Duo W p q k v K ka kc p2 q2 k2 v2 K2 kb kd) (s : Kept (fun _ => False) W W') : Duo W' p q k v K ka kc p2 q2 k2 v2 K2 kb kd := ⟨d.one.same s, d.two.same s, d.far, d.far2⟩
theorem Duo.step (d : Duo W p q k v K ka kc p2 q2 k2 v2 K2 kb kd) (a : StA W' p q k v' K' ka' kc') (s : SStep W W' p q v v' ka ka') : Duo W' p q k v' K' ka' kc' p2 q2 k2 v2 K2 kb kd := by
  refine ⟨a, d.two.other s.kept (fun i hi => d.far2 i hi), ?_, ?_⟩
  · intro i hi hf
    rcases s.rp d.one a hi with e | e
    · exact d.far i e hf
    · have := d.two.fp_lt hf
      omega
  · intro i hi hf
    rcases s.fp hf with e | e
    · exact d.far2 i hi e
    · have := d.two.rp_lt hi
      omega
end
end Go.Proofs.Ytkgcafomlhfonaa.Tk
