import Derived.Test.YtacmmclamkhpcaaDoorStm
import Derived.SliceStrings
namespace Go.Proofs.YtacmmclamkhpcaaDoor
open Go.ChangeShapes Go.WideShapes Go.ChangeAt Go.RowKit

theorem bulk_posKT {H : Type} (d : DataW H) : 1 ≤ Rows.uptoBulk d := by
  cases d with
  | lit l => cases l <;> simp [Rows.uptoBulk]
  | _ => simp [Rows.uptoBulk]
theorem bulk_countKT {H : Type} : ∀ l : List (DataW H), l.length ≤ Rows.uptoBulkAll l
  | [] => by simp
  | x :: r => by
    have h1 := bulk_posKT x
    have h2 := bulk_countKT r
    simp only [Rows.uptoBulkAll, List.length_cons]
    omega
theorem plainAT {W : World} {a : Addr} {v : Value} (h : W.cell? a = some v) : a.spot = none := by
  unfold World.cell? at h
  split at h
  · split at h
    · cases h
    · rename_i hs
      cases hx : a.spot with
      | none => rfl
      | some y => rw [hx] at hs; simp at hs
  · cases h
theorem Tryd.cKsT : Tryd.prog.cellsOf 9 = 1 := by kernel_rfl
def KsT (w : World) (a : Option Addr) (K : List (List UInt8)) : Prop :=
  K ≠ [] → ∃ b off, a = some ⟨b, off, none⟩ ∧ ∀ j (h : j < K.length), w.cell? ⟨b, off + j, none⟩ = some (.string (bq K[j]))
theorem KsT.kept {w w' : World} {a : Option Addr} {K : List (List UInt8)} (h : KsT w a K) (k : Kept (fun _ => False) w w') : KsT w' a K := fun hne => by
  obtain ⟨b, off, e, hc⟩ := h hne
  exact ⟨b, off, e, fun j hj => k.cell (hc j hj) (fun f => f)⟩
/-- A list of texts that came in. -/
theorem texts_ofT {H : Type} {enc : TypeId × Value → H} {W : World} {fuel : Nat} {a : Option Addr} {n c : Nat} {x : DataW H × List MemPlace} (hf : DataW.trod enc Tryd.prog W 0 (fun _ => true) true fuel 26 [.slice a n c] = some x) :
    ∃ K : List (List UInt8), n = K.length ∧ KsT W a K ∧ K.length < Rows.uptoBulk x.1 := by
  rcases Go.ChangeShapes.open_strings Tryd.underlying26 Tryd.underlying9 Tryd.cKsT hf with ⟨e, rfl⟩ | ⟨a', len, cap, ss, e, _, hl, _, hss, rfl, hc, hm⟩
  · simp only [List.cons.injEq, Value.slice.injEq, and_true] at e
    obtain ⟨rfl, rfl, rfl⟩ := e
    exact ⟨[], rfl, fun h => absurd rfl h, by simp [Rows.uptoBulk]⟩
  · simp only [List.cons.injEq, Value.slice.injEq, and_true] at e
    obtain ⟨rfl, rfl, rfl⟩ := e
    have hcap : ss.length = c := by simpa using hss
    have hlen : (ss.take n).length = n := by rw [List.length_take]; omega
    refine ⟨(ss.take n).map (fun s => s.data.toList), by rw [List.length_map, hlen], ?_, ?_⟩
    · intro hne
      have hn : 0 < n := by
        rcases Nat.eq_zero_or_pos n with h0 | h0
        · rw [h0] at hne
          simp at hne
        · exact h0
      have hp : a'.spot = none := plainAT (v := .string (ss.getD 0 ByteArray.empty)) (by have := hc 0 (by omega); simpa [Addr.add] using this)
      obtain ⟨b, off, spot⟩ := a'
      simp only at hp
      subst hp
      refine ⟨b, off, rfl, fun j hj => ?_⟩
      rw [List.length_map, hlen] at hj
      have h9 := hc j (by omega)
      have ha : (⟨b, off, none⟩ : Addr).add j = ⟨b, off + j, none⟩ := by unfold Addr.add; split <;> simp_all
      rw [ha] at h9
      rw [h9, List.getElem_map, List.getElem_take]
      simp [List.getD, List.getElem?_eq_getElem (show j < ss.length by omega)]
      exact (bq_of _).symm
    · have h1 := bulk_countKT (Go.ChangeShapes.strs (H := H) (ss.take n))
      have h2 : (Go.ChangeShapes.strs (H := H) (ss.take n)).length = n := by simp [Go.ChangeShapes.strs]; omega
      rw [List.length_map, hlen]
      simp only [Rows.uptoBulk]
      omega
end Go.Proofs.YtacmmclamkhpcaaDoor
namespace Go.Proofs.YtacmmclamkhpcaaDoor
open Go.ChangeShapes Go.WideShapes Go.ChangeAt Go.RowKit

theorem bulk_memKT {H : Type} {x : DataW H} : ∀ {l : List (DataW H)}, x ∈ l → Rows.uptoBulk x ≤ Rows.uptoBulkAll l
  | [], h => by simp at h
  | y :: r, h => by
    simp only [Rows.uptoBulkAll]
    rcases List.mem_cons.1 h with h | h
    · subst h; omega
    · have := bulk_memKT h; omega
/-- A list of texts that came in, none of them longer than the bulk. -/
theorem texts_ofB {H : Type} {enc : TypeId × Value → H} {W : World} {fuel : Nat} {a : Option Addr} {n c : Nat} {x : DataW H × List MemPlace} (hf : DataW.trod enc Tryd.prog W 0 (fun _ => true) true fuel 26 [.slice a n c] = some x) :
    ∃ K : List (List UInt8), n = K.length ∧ (KsT W a K ∧ ∀ s ∈ K, s.length < Rows.uptoBulk x.1) ∧ K.length < Rows.uptoBulk x.1 := by
  rcases Go.ChangeShapes.open_strings Tryd.underlying26 Tryd.underlying9 Tryd.cKsT hf with ⟨e, rfl⟩ | ⟨a', len, cap, ss, e, _, hl, _, hss, rfl, hc, hm⟩
  · simp only [List.cons.injEq, Value.slice.injEq, and_true] at e
    obtain ⟨rfl, rfl, rfl⟩ := e
    exact ⟨[], rfl, ⟨fun h => absurd rfl h, fun s h => by simp at h⟩, by simp [Rows.uptoBulk]⟩
  · simp only [List.cons.injEq, Value.slice.injEq, and_true] at e
    obtain ⟨rfl, rfl, rfl⟩ := e
    have hcap : ss.length = c := by simpa using hss
    have hlen : (ss.take n).length = n := by rw [List.length_take]; omega
    refine ⟨(ss.take n).map (fun s => s.data.toList), by rw [List.length_map, hlen], ⟨?_, ?_⟩, ?_⟩
    · intro hne
      have hn : 0 < n := by
        rcases Nat.eq_zero_or_pos n with h0 | h0
        · rw [h0] at hne
          simp at hne
        · exact h0
      have hp : a'.spot = none := plainAT (v := .string (ss.getD 0 ByteArray.empty)) (by have := hc 0 (by omega); simpa [Addr.add] using this)
      obtain ⟨b, off, spot⟩ := a'
      simp only at hp
      subst hp
      refine ⟨b, off, rfl, fun j hj => ?_⟩
      rw [List.length_map, hlen] at hj
      have h9 := hc j (by omega)
      have ha : (⟨b, off, none⟩ : Addr).add j = ⟨b, off + j, none⟩ := by unfold Addr.add; split <;> simp_all
      rw [ha] at h9
      rw [h9, List.getElem_map, List.getElem_take]
      simp [List.getD, List.getElem?_eq_getElem (show j < ss.length by omega)]
      exact (bq_of _).symm
    · intro s hs
      obtain ⟨t, ht, rfl⟩ := List.mem_map.1 hs
      have h1 := bulk_memKT (H := H) (x := .lit (.string t.data.toList)) (l := Go.ChangeShapes.strs (H := H) (ss.take n)) (by unfold Go.ChangeShapes.strs; exact List.mem_map.2 ⟨t, ht, rfl⟩)
      simp only [Rows.uptoBulk] at h1 ⊢
      omega
    · have h1 := bulk_countKT (Go.ChangeShapes.strs (H := H) (ss.take n))
      have h2 : (Go.ChangeShapes.strs (H := H) (ss.take n)).length = n := by simp [Go.ChangeShapes.strs]; omega
      rw [List.length_map, hlen]
      simp only [Rows.uptoBulk]
      omega
end Go.Proofs.YtacmmclamkhpcaaDoor
