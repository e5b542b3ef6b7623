import Derived.Test.YtakjaablankipaaDoorLbf
import Derived.SliceStrings
import Derived.Deep.Grids
namespace Go.Proofs.YtakjaablankipaaDoor
open Go.ChangeShapes Go.WideShapes Go.ChangeAt Go.RowKit

/-! The lists that came in. -/
theorem plainB {W : World} {a : Addr} {v : Value} (h : W.cell? a = some v) : a.spot = none := by
  unfold World.cell? at h
  split at h
  · split at h
    · cases h
    · rename_i hs
      cases hx : a.spot with
      | none => rfl
      | some y => rw [hx] at hs; simp at hs
  · cases h
theorem Tryd.cKb : Tryd.prog.cellsOf 9 = 1 := by kernel_rfl
theorem Tryd.cBb : Tryd.prog.cellsOf 4 = 1 := by kernel_rfl
theorem bulk_strs {H : Type} : ∀ ss : List ByteArray, szs (ss.map (fun s => s.data.toList)) ≤ Rows.uptoBulkAll (Go.ChangeShapes.strs (H := H) ss)
  | [] => by simp [szs]
  | s :: r => by
    have h2 := bulk_strs (H := H) r
    unfold szs at h2 ⊢
    simp only [List.map_cons, List.sum_cons, Go.ChangeShapes.strs, Rows.uptoBulkAll, Rows.uptoBulk] at h2 ⊢
    omega
theorem textsB_of {H : Type} {enc : TypeId × Value → H} {W : World} {fuel : Nat} {a : Option Addr} {n c : Nat} {x : DataW H × List MemPlace} (hf : DataW.trod enc Tryd.prog W 0 (fun _ => true) true fuel 33 [.slice a n c] = some x) :
    ∃ K : List (List UInt8), n = K.length ∧ KsL W a K ∧ szs K < Rows.uptoBulk x.1 := by
  rcases Go.ChangeShapes.open_strings Tryd.underlying33 Tryd.underlying9 Tryd.cKb hf with ⟨e, rfl⟩ | ⟨a', len, cap, ss, e, _, hl, _, hss, rfl, hc, hm⟩
  · simp only [List.cons.injEq, Value.slice.injEq, and_true] at e
    obtain ⟨rfl, rfl, rfl⟩ := e
    exact ⟨[], rfl, fun h => absurd rfl h, by simp [Rows.uptoBulk, szs]⟩
  · simp only [List.cons.injEq, Value.slice.injEq, and_true] at e
    obtain ⟨rfl, rfl, rfl⟩ := e
    have hcap : ss.length = c := by simpa using hss
    have hlen : (ss.take n).length = n := by rw [List.length_take]; omega
    refine ⟨(ss.take n).map (fun s => s.data.toList), by rw [List.length_map, hlen], ?_, ?_⟩
    · intro hne
      have hn : 0 < n := by
        rcases Nat.eq_zero_or_pos n with h0 | h0
        · rw [h0] at hne
          simp at hne
        · exact h0
      have hp : a'.spot = none := plainB (v := .string (ss.getD 0 ByteArray.empty)) (by have := hc 0 (by omega); simpa [Addr.add] using this)
      obtain ⟨b, off, spot⟩ := a'
      simp only at hp
      subst hp
      refine ⟨b, off, rfl, fun j hj => ?_⟩
      rw [List.length_map, hlen] at hj
      have h9 := hc j (by omega)
      have ha : (⟨b, off, none⟩ : Addr).add j = ⟨b, off + j, none⟩ := by unfold Addr.add; split <;> simp_all
      rw [ha] at h9
      rw [h9, List.getElem_map, List.getElem_take]
      simp [List.getD, List.getElem?_eq_getElem (show j < ss.length by omega)]
      rfl
    · have h1 := bulk_strs (H := H) (ss.take n)
      simp only [Rows.uptoBulk]
      omega
theorem bulk_bools {H : Type} (B : Nat → Bool) : ∀ n : Nat, n ≤ Rows.uptoBulkAll (H := H) ((List.range n).map fun i => .lit (.bool (B i)))
  | 0 => by simp
  | n + 1 => by
    have h := bulk_bools (H := H) (fun i => B (i + 1)) n
    rw [List.range_succ_eq_map, List.map_cons, List.map_map]
    simp only [Rows.uptoBulkAll, Rows.uptoBulk]
    have e : ((fun i => (DataW.lit (.bool (B i)) : DataW H)) ∘ Nat.succ) = (fun i => .lit (.bool (B (i + 1)))) := rfl
    rw [e]
    omega
theorem boolsB_of {H : Type} {enc : TypeId × Value → H} {W : World} {fuel : Nat} {a : Option Addr} {n c : Nat} {x : DataW H × List MemPlace} (hf : DataW.trod enc Tryd.prog W 0 (fun _ => true) true fuel 34 [.slice a n c] = some x) :
    ∃ B : Nat → Bool, GpL W a B n ∧ n < Rows.uptoBulk x.1 := by
  rcases Go.Deep.open_bools Tryd.underlying34 Tryd.underlying4 Tryd.cBb hf with ⟨e, rfl⟩ | ⟨a', len, cap, B, e, _, hl, _, rfl, hc⟩
  · simp only [List.cons.injEq, Value.slice.injEq, and_true] at e
    obtain ⟨rfl, rfl, rfl⟩ := e
    exact ⟨fun _ => false, fun h => absurd h (by decide), by simp [Rows.uptoBulk]⟩
  · simp only [List.cons.injEq, Value.slice.injEq, and_true] at e
    obtain ⟨rfl, rfl, rfl⟩ := e
    refine ⟨B, fun hn => ?_, ?_⟩
    · have hp : a'.spot = none := plainB (v := .bool (B 0)) (by have := hc 0 (by omega); simpa [Addr.add] using this)
      obtain ⟨b, off, spot⟩ := a'
      simp only at hp
      subst hp
      refine ⟨b, off, rfl, fun j hj => ?_⟩
      have h9 := hc j (by omega)
      have ha : (⟨b, off, none⟩ : Addr).add j = ⟨b, off + j, none⟩ := by unfold Addr.add; split <;> simp_all
      rw [ha] at h9
      exact h9
    · have h1 := bulk_bools (H := H) B n
      show n < Rows.uptoBulk (Go.Deep.boolRow (some a') n c B)
      unfold Go.Deep.boolRow
      simp only [Rows.uptoBulk]
      omega
theorem back_all (s : List UInt8) (X : List (List UInt8)) (gf : Nat → Bool) (ng : Nat) (a a2 : Option Addr) (c c2 : Nat) (x y : Int) (w : World) (hC : ClsAt w) (hS : ∃ ad, SynAt w ad) (hs : s.length ≤ 1048576) (hX : KsL w a X) (hG : GpL w a2 gf ng) (hT : szs X ≤ 1048576) (hng : ng ≤ 1048576) :
    Calls Tryd.prog 4 #[.string (bq s), .slice a X.length c, .slice a2 ng c2, .int .i64 x, .int .i64 y] w fun e w' => e = .returned (.bool true) ∧ Kept (fun _ => False) w w' := by
  obtain ⟨ad, hS⟩ := hS
  by_cases h : 1000 < X.length
  · exact back_long s X.length ng a a2 c c2 x y w ad hC hS h
  · cases s with
    | nil => exact back_nil X gf X.length ng a a2 c c2 x y w ad hC hS rfl (by omega) hX hG hT hng
    | cons d s => exact back_cons (d :: s) hs (by simp) X gf X.length ng a a2 c c2 x y w ad hC hS rfl (by omega) hX hG hT hng
end Go.Proofs.YtakjaablankipaaDoor
