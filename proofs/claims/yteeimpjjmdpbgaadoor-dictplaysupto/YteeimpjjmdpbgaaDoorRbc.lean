import Derived.Test.YteeimpjjmdpbgaaDoorRbb
namespace Go.Proofs.YteeimpjjmdpbgaaDoor
open Go.ChangeShapes Go.WideShapes Go.ChangeAt Go.RowKit

theorem een_first (b : ByteArray) (k : ByteArray) (d t p s : Nat) (sh : Nat) (hsh : sh = shr b.data.toList k.data.toList) : een b ⟨k, d, t, p, s⟩ = uvb sh ++ (uvb (k.size - sh) ++ ((sb k).drop sh ++ (uvb d ++ (uvb t ++ (uvb p ++ uvb s))))) := by
  rw [een, ← hsh]
  simp [List.append_assoc]
/-- The entries' list lies below what is grown. -/
theorem EsAt.step {w w' : World} {a : Option Addr} {l : List En} {v v' : Value} {base : Nat} (h : EsAt w a l) (s : RStep w w' v v') (hv : ∀ k, v.ownBlock = some k → base ≤ k) (ha : ∀ b off, a = some ⟨b, off, none⟩ → l ≠ [] → b < base) : EsAt w' a l := by
  intro hne
  obtain ⟨b, off, e, hc⟩ := h hne
  have hb := ha b off e hne
  have key : ¬ v.ownBlock = some b := fun f => by have := hv b f; omega
  refine ⟨b, off, e, fun j hj => ?_⟩
  obtain ⟨x0, x1, x2, x3, x4⟩ := hc j hj
  exact ⟨s.kept.cell x0 key, s.kept.cell x1 key, s.kept.cell x2 key, s.kept.cell x3 key, s.kept.cell x4 key⟩
end Go.Proofs.YteeimpjjmdpbgaaDoor
