import Derived.Test.YtakjaablankipaaDoorLzi
namespace Go.Proofs.YtakjaablankipaaDoor
open Go.ChangeShapes Go.WideShapes Go.ChangeAt Go.RowKit

/-! A run of signs as a piece of the bytes. -/
theorem sp_uniq {l : List UInt8} {G : List Sg} {i p p' : Nat} (h : SP l G i p) (h' : SP l G i p') : p = p' := by
  have at_p : ∀ {q : Nat}, SP l G i q → (q = l.length ∧ G.length ≤ i) ∨ (i < G.length ∧ ∃ x, G[i]? = some x ∧ x.p = q) := by
    intro q hq
    rcases sp_cases hq with h1 | ⟨x, _, hi, hx, _, _, hh⟩
    · exact .inl h1
    · refine .inr ⟨hi, x, hx, ?_⟩
      rcases hh with ⟨_, _, _, rfl, _⟩ | ⟨_, rfl, _⟩ | ⟨_, _, _, _, rfl, _⟩ <;> rfl
  rcases at_p h with ⟨h1, h2⟩ | ⟨h1, x, hx, e⟩
  · rcases at_p h' with ⟨h3, _⟩ | ⟨h3, _⟩
    · rw [h1, h3]
    · omega
  · rcases at_p h' with ⟨_, h3⟩ | ⟨_, y, hy, e'⟩
    · omega
    · rw [hx] at hy
      obtain rfl := Option.some.inj hy
      rw [← e, ← e']
theorem sp_piece (l : List UInt8) (G : List Sg) : ∀ (n i p p' : Nat), SP l G i p → SP l G (i + n) p' → i + n ≤ G.length → p ≤ p' ∧ ((G.drop i).take n).map sgB = sgn ((l.drop p).take (p' - p)) := by
  intro n
  induction n with
  | zero =>
    intro i p p' h h' _
    have e := sp_uniq h h'
    subst e
    refine ⟨Nat.le_refl _, ?_⟩
    rw [Nat.sub_self, List.take_zero, List.take_zero]
    rfl
  | succ n ih =>
    intro i p p' h h' hle
    rcases sp_cases h with ⟨_, h2⟩ | ⟨x, q, hi, hx, _, hS, hh⟩
    · omega
    · rw [show i + (n + 1) = i + 1 + n by omega] at h'
      obtain ⟨h3, h4⟩ := ih (i + 1) q p' hS h' (by omega)
      have eG : (G.drop i).take (n + 1) = x :: (G.drop (i + 1)).take n := by
        rw [List.drop_eq_getElem_cons hi, List.take_succ_cons]
        rw [List.getElem?_eq_getElem hi] at hx
        rw [Option.some.inj hx]
      rw [eG, List.map_cons, h4]
      rcases hh with ⟨d, s, hd, rfl, rfl⟩ | ⟨hd, rfl, rfl⟩ | ⟨c, s, hd, h92, rfl, rfl⟩
      · refine ⟨by omega, ?_⟩
        rw [show p + 2 = p + 1 + 1 from rfl, (drop_next (drop_next hd).2).2, hd, show p' - p = (p' - (p + 1 + 1)) + 1 + 1 by omega, List.take_succ_cons, List.take_succ_cons, sgn_esc]
        rfl
      · refine ⟨by omega, ?_⟩
        rw [(drop_next hd).2, hd, show p' - p = (p' - (p + 1)) + 1 by omega, List.take_succ_cons, List.take_nil]
        rfl
      · refine ⟨by omega, ?_⟩
        rw [(drop_next hd).2, hd, show p' - p = (p' - (p + 1)) + 1 by omega, List.take_succ_cons, sgn_oth c _ h92]
        rfl
/-- Does a run go on with this sign? -/
def goS (x : Sg) : Bool := x.l || (!bkB x.c && !mkB x.c)
theorem goS_R (c : UInt8) (h : c ≠ 92) : (!bkB c && !mkB c) = isR c := by
  have := u8_all (fun c => c == 92 || ((!bkB c && !mkB c) == isR c)) (by decide +kernel) c
  simp [h] at this
  simpa using this
theorem goS_92 : (!bkB 92 && !mkB 92) = true := by decide +kernel
end Go.Proofs.YtakjaablankipaaDoor
