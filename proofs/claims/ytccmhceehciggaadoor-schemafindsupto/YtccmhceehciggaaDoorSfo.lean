import Derived.Test.YtccmhceehciggaaDoorSfi
import Derived.Test.YtccmhceehciggaaDoorOsc
import Derived.SliceStrings
namespace Go.Proofs.YtccmhceehciggaaDoor
open Go.ChangeShapes Go.WideShapes Go.ChangeAt Go.RowKit

theorem bulk_posS {H : Type} (d : DataW H) : 1 ≤ Rows.uptoBulk d := by
  cases d with
  | lit l => cases l <;> simp [Rows.uptoBulk]
  | _ => simp [Rows.uptoBulk]
theorem bulk_countS {H : Type} : ∀ l : List (DataW H), l.length ≤ Rows.uptoBulkAll l
  | [] => by simp
  | x :: r => by
    have h1 := bulk_posS x
    have h2 := bulk_countS r
    simp only [Rows.uptoBulkAll, List.length_cons]
    omega
theorem schema_bulk {H : Type} {d : DataW H} {F : List Fd} (h : F = [] ∨ ∃ es sp, d = .agg [.slice es sp] ∧ F.length = es.length) : F.length < Rows.uptoBulk d := by
  rcases h with rfl | ⟨es, sp, rfl, h2⟩
  · exact bulk_posS d
  · have := bulk_countS es
    simp only [Rows.uptoBulk, Rows.uptoBulkAll]
    omega
/-- A list of strings that came in. -/
theorem strs_of {H : Type} {enc : TypeId × Value → H} {W : World} {fuel : Nat} {a : Option Addr} {n c : Nat} {x : DataW H × List MemPlace} (hf : DataW.trod enc Tryd.prog W 0 (fun _ => true) true fuel 32 [.slice a n c] = some x) :
    ∃ ss : List ByteArray, n = ss.length ∧ (a = none → ss = [] ∧ c = 0) ∧ (∀ p, a = some p → ∀ (j : Nat) (u : Value), (strV ss)[j]? = some u → W.cell? (p.add j) = some u) ∧ (∀ s ∈ ss, s.size ≤ maxLen) ∧ ss.length < Rows.uptoBulk x.1 := by
  rcases Go.ChangeShapes.open_strings Tryd.underlying32 Tryd.underlying9 Tryd.cFd.1 hf with ⟨e, rfl⟩ | ⟨a', len, cap, ss, e, _, hl, _, hss, rfl, hc, hm⟩
  · simp only [List.cons.injEq, Value.slice.injEq, and_true] at e
    obtain ⟨rfl, rfl, rfl⟩ := e
    exact ⟨[], rfl, fun _ => ⟨rfl, rfl⟩, (fun p h => by cases h), (fun s h => by cases h), by simp [Rows.uptoBulk]⟩
  · simp only [List.cons.injEq, Value.slice.injEq, and_true] at e
    obtain ⟨rfl, rfl, rfl⟩ := e
    have hcap : ss.length = c := by simpa using hss
    have hlen : (ss.take n).length = n := by rw [List.length_take]; omega
    refine ⟨ss.take n, hlen.symm, (fun h => by cases h), ?_, fun s hs => hm s (List.mem_of_mem_take hs), ?_⟩
    · intro p hp j u hu
      injection hp with hp
      subst hp
      rw [strV, List.getElem?_map, List.getElem?_take] at hu
      by_cases hj : j < n
      · rw [if_pos hj, List.getElem?_eq_getElem (by omega)] at hu
        simp at hu
        subst hu
        have := hc j (by omega)
        rw [this]
        simp [List.getD, List.getElem?_eq_getElem (show j < ss.length by omega)]
      · rw [if_neg hj] at hu
        cases hu
    · have h1 := bulk_countS (Go.ChangeShapes.strs (H := H) (ss.take n))
      have h2 : (Go.ChangeShapes.strs (H := H) (ss.take n)).length = n := by simp [Go.ChangeShapes.strs]; omega
      rw [hlen]
      simp only [Rows.uptoBulk]
      omega
end Go.Proofs.YtccmhceehciggaaDoor
