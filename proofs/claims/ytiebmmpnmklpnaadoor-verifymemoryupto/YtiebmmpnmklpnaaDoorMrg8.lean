import Derived.Test.YtiebmmpnmklpnaaDoorMrg5
namespace Go.Proofs.YtiebmmpnmklpnaaDoor
open Go.ChangeShapes Go.WideShapes Go.ChangeAt Go.RowKit

/-- May the instruction be come to with the height h? -/
def StpOk (p : Pg) (x : In) (h : Nat) : Prop := x.op ≠ 0 ∧ tkN x ≤ h ∧ (x.op = 3 → x.a < p.av.length) ∧ (x.op = 4 → x.a < p.cu.length) ∧ (x.op = 5 → x.a < p.nr.length) ∧ (x.op = 14 → 1 ≤ x.b ∧ x.b ≤ x.a)
/-- What 'step' answers. -/
def spP (w : World) (x : In) (h : Nat) (v : Bool) (e : Ending) (w' : World) : Prop := (∃ z : Int, e = .returned (.tuple #[.int .i64 z, .bool v]) ∧ (v = true → z = ((h + 1 - tkN x : Nat) : Int))) ∧ Kept (fun _ => False) w w'
end Go.Proofs.YtiebmmpnmklpnaaDoor
namespace Go.Proofs.YtiebmmpnmklpnaaDoor
open Go.ChangeShapes Go.WideShapes Go.ChangeAt Go.RowKit

theorem gd_stp {p : Pg} {L : List In} (h : Gd p L) {k : Nat} (hk : k < L.length) (h0 : L[k].op ≠ 0) : StpOk p L[k] (hA L k) := by
  have q := h.pa k hk
  exact ⟨h0, h.st k hk, q.1, q.2.1, q.2.2.1, q.2.2.2.1⟩
theorem gd_skip {p : Pg} {L : List In} (h : Gd p L) {k : Nat} (hk : k < L.length) (hs : L[k].op = 15 ∨ L[k].op = 16) : k + 1 + L[k].a < L.length ∧ hA L (k + 1 + L[k].a) = hA L (k + 1) := by
  have q := h.pa k hk
  have h1 : L[k].a < L.length - 1 - k := by
    rcases hs with e | e
    · exact q.2.2.2.2.1 e
    · exact q.2.2.2.2.2 e
  refine ⟨by omega, ?_⟩
  rw [h.sk k hk hs, hA_next hk]
  have : tkN L[k] = 1 := by
    unfold tkN
    rcases hs with e | e
    · rw [if_neg (by rw [e]; decide), e]; rfl
    · rw [if_neg (by rw [e]; decide), e]; rfl
  omega
end Go.Proofs.YtiebmmpnmklpnaaDoor
