import Derived.Test.YtohnkamobmkhkaaDoorMrg6
import Derived.Test.YtohnkamobmkhkaaDoorVfw
namespace Go.Proofs.YtohnkamobmkhkaaDoor
open Go.ChangeShapes Go.WideShapes Go.ChangeAt Go.RowKit

/-! A list of bools that came in. -/
theorem plainBV {W : World} {a : Addr} {v : Value} (h : W.cell? a = some v) : a.spot = none := by
  obtain ⟨b, o, s⟩ := a
  exact World.cell?_spot h
theorem bulk_boolsV {H : Type} (B : Nat → Bool) : ∀ n : Nat, n ≤ Rows.uptoBulkAll (H := H) ((List.range n).map fun i => .lit (.bool (B i)))
  | 0 => by simp
  | n + 1 => by
    have h := bulk_boolsV (H := H) (fun i => B (i + 1)) n
    rw [List.range_succ_eq_map, List.map_cons, List.map_map]
    simp only [Rows.uptoBulkAll, Rows.uptoBulk]
    have e : ((fun i => (DataW.lit (.bool (B i)) : DataW H)) ∘ Nat.succ) = (fun i => .lit (.bool (B (i + 1)))) := rfl
    rw [e]
    omega
theorem boolsV_of {H : Type} {enc : TypeId × Value → H} {W : World} {fuel : Nat} {a : Option Addr} {n c : Nat} {x : DataW H × List MemPlace} (hf : DataW.trod enc Tryd.prog W 0 (fun _ => true) true fuel 53 [.slice a n c] = some x) :
    ∃ B : List Bool, B.length = n ∧ BlAt W a B ∧ n < Rows.uptoBulk x.1 := by
  obtain ⟨-, cb, -⟩ := Tryd.cPg
  rcases Go.Deep.open_bools Tryd.underlying53 Tryd.underlying4 cb hf with ⟨e, rfl⟩ | ⟨a', len, cap, B, e, _, hl, _, rfl, hc⟩
  · simp only [List.cons.injEq, Value.slice.injEq, and_true] at e
    obtain ⟨rfl, rfl, rfl⟩ := e
    exact ⟨[], rfl, fun h => absurd rfl h, by simp [Rows.uptoBulk]⟩
  · simp only [List.cons.injEq, Value.slice.injEq, and_true] at e
    obtain ⟨rfl, rfl, rfl⟩ := e
    refine ⟨(List.range n).map B, by simp, fun hne => ?_, ?_⟩
    · have hn : 0 < n := by
        have := List.length_pos_iff.2 hne
        simpa using this
      have hp : a'.spot = none := plainBV (v := .bool (B 0)) (by have := hc 0 (by omega); simpa [Addr.add] using this)
      obtain ⟨b, off, spot⟩ := a'
      simp only at hp
      subst hp
      refine ⟨b, off, rfl, fun j hj => ?_⟩
      have hj' : j < n := by simpa using hj
      have h9 := hc j (by omega)
      have ha : (⟨b, off, none⟩ : Addr).add j = ⟨b, off + j, none⟩ := by unfold Addr.add; split <;> simp_all
      rw [ha] at h9
      rw [h9]
      simp [hj']
    · have h1 := bulk_boolsV (H := H) B n
      show n < Rows.uptoBulk (Go.Deep.boolRow (some a') n c B)
      unfold Go.Deep.boolRow
      simp only [Rows.uptoBulk]
      omega
end Go.Proofs.YtohnkamobmkhkaaDoor
