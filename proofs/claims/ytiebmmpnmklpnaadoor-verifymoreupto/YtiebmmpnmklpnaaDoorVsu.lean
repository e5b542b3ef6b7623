import Derived.Test.YtiebmmpnmklpnaaDoorMrg6
import Derived.Test.YtiebmmpnmklpnaaDoorVsp
import Derived.SliceStrings
import Derived.Deep.Grids
namespace Go.Proofs.YtiebmmpnmklpnaaDoor
open Go.ChangeShapes Go.WideShapes Go.ChangeAt Go.RowKit

theorem prog_ofS {H : Type} {enc : TypeId × Value → H} {W : World} {fuel : Nat} {cs : List Value} {x : DataW H × List MemPlace} (hf : DataW.trod enc Tryd.prog W 0 (fun _ => true) true fuel 27 cs = some x) (hb : Rows.uptoBulk x.1 ≤ 1048576) :
    ∃ (p : Pg) (aA aC aN aD aO : Option Addr) (cA cC cN cD cO : Nat), cs = [.slice aA p.av.length cA, .slice aC p.cu.length cC, .slice aN p.nr.length cN, .bool p.al, .slice aD p.dr.length cD, .slice aO p.co.length cO] ∧ PgAt W p aA aC aN aD aO ∧ p.Ok ∧ psz p ≤ 1048576 := by
  obtain ⟨xs, n, rfl, hx, hl, hxl, hfs⟩ := DataW.trod_struct Tryd.underlying27 hf
  obtain ⟨-, cB, cI, cU, cL, cN, -, -, c6⟩ := Tryd.cPg
  obtain ⟨x0, x1, x2, x3, x4, x5, rfl⟩ := list6I hxl
  rw [c6] at hl
  obtain ⟨y0, y1, y2, y3, y4, y5, rfl⟩ := list6I hl
  have q0 : DataW.trod enc Tryd.prog W 0 (fun _ => true) true n 22 (([y0, y1, y2, y3, y4, y5].drop 0).take (Tryd.prog.cellsOf 22)) = some x0 := hfs 0 _ rfl
  have q1 : DataW.trod enc Tryd.prog W 0 (fun _ => true) true n 23 (([y0, y1, y2, y3, y4, y5].drop 1).take (Tryd.prog.cellsOf 23)) = some x1 := hfs 1 _ rfl
  have q2 : DataW.trod enc Tryd.prog W 0 (fun _ => true) true n 24 (([y0, y1, y2, y3, y4, y5].drop 2).take (Tryd.prog.cellsOf 24)) = some x2 := hfs 2 _ rfl
  have q3 : DataW.trod enc Tryd.prog W 0 (fun _ => true) true n 4 (([y0, y1, y2, y3, y4, y5].drop 3).take (Tryd.prog.cellsOf 4)) = some x3 := hfs 3 _ rfl
  have q4 : DataW.trod enc Tryd.prog W 0 (fun _ => true) true n 22 (([y0, y1, y2, y3, y4, y5].drop 4).take (Tryd.prog.cellsOf 22)) = some x4 := hfs 4 _ rfl
  have q5 : DataW.trod enc Tryd.prog W 0 (fun _ => true) true n 25 (([y0, y1, y2, y3, y4, y5].drop 5).take (Tryd.prog.cellsOf 25)) = some x5 := hfs 5 _ rfl
  rw [cI] at q0 q4
  rw [cL] at q1
  rw [cN] at q2
  rw [cB] at q3
  rw [cU] at q5
  simp only [List.drop, List.take] at q0 q1 q2 q3 q4 q5
  obtain ⟨aA, cA, A, e0, iA, nA, bA⟩ := ints_inI q0
  obtain ⟨aC, cC, C, e1, iC, nC, bC⟩ := leaves_of q1
  obtain ⟨aN, cN, N, e2, iN, nN, bN⟩ := nears_of q2
  obtain ⟨al, e3, -⟩ := DataW.trod_bool Tryd.underlying4 q3
  obtain ⟨aD, cD, D, e4, iD, nD, bD⟩ := ints_inI q4
  obtain ⟨aO, cO, O, e5, iO, nO, -, bO⟩ := bytes_of q5
  simp only [List.cons.injEq, and_true] at e0 e1 e2 e3 e4 e5
  subst e0 e1 e2 e3 e4 e5
  rw [hx] at hb
  simp only [List.map, Rows.uptoBulk, Rows.uptoBulkAll] at hb
  have hs : psz ⟨A, C, N, al, D, O⟩ ≤ 1048576 := by unfold psz; simp only; omega
  exact ⟨⟨A, C, N, al, D, O⟩, aA, aC, aN, aD, aO, cA, cC, cN, cD, cO, rfl, ⟨iA, iC, iN, iD, iO⟩, ⟨nA, nD, nC, nN, nO, by omega⟩, hs⟩
theorem plainT {W : World} {a : Addr} {v : Value} (h : W.cell? a = some v) : a.spot = none := by
  unfold World.cell? at h
  split at h
  · split at h
    · cases h
    · rename_i hs
      cases hx : a.spot with
      | none => rfl
      | some y => rw [hx] at hs; simp at hs
  · cases h
theorem Tryd.cKt : Tryd.prog.cellsOf 9 = 1 := by kernel_rfl
theorem szT_len : ∀ T : List ByteArray, T.length ≤ szT T
  | [] => Nat.zero_le _
  | t :: T => by have := szT_len T; unfold szT at this ⊢; simp only [List.length_cons, List.map_cons, List.sum_cons]; omega
theorem bulk_txs {H : Type} : ∀ ss : List ByteArray, szT ss ≤ Rows.uptoBulkAll (Go.ChangeShapes.strs (H := H) ss)
  | [] => by simp [szT]
  | s :: r => by
    have h2 := bulk_txs (H := H) r
    have h3 : s.size = s.data.toList.length := by rw [Array.length_toList]; rfl
    unfold szT at h2 ⊢
    simp only [List.map_cons, List.sum_cons, Go.ChangeShapes.strs, Rows.uptoBulkAll, Rows.uptoBulk] at h2 ⊢
    omega
/-- A []string that came in. -/
theorem textsT_of {H : Type} {enc : TypeId × Value → H} {W : World} {fuel : Nat} {a : Option Addr} {n c : Nat} {x : DataW H × List MemPlace} (hf : DataW.trod enc Tryd.prog W 0 (fun _ => true) true fuel 46 [.slice a n c] = some x) :
    ∃ T : List ByteArray, n = T.length ∧ TxAt W a T ∧ szT T < Rows.uptoBulk x.1 := by
  rcases Go.ChangeShapes.open_strings Tryd.underlying46 Tryd.underlying9 Tryd.cKt hf with ⟨e, rfl⟩ | ⟨a', len, cap, ss, e, _, hl, _, hss, rfl, hc, hm⟩
  · simp only [List.cons.injEq, Value.slice.injEq, and_true] at e
    obtain ⟨rfl, rfl, rfl⟩ := e
    exact ⟨[], rfl, fun h => absurd rfl h, bulk_pos _⟩
  · simp only [List.cons.injEq, Value.slice.injEq, and_true] at e
    obtain ⟨rfl, rfl, rfl⟩ := e
    have hcap : ss.length = c := by simpa using hss
    have hlen : (ss.take n).length = n := by rw [List.length_take]; omega
    refine ⟨ss.take n, hlen.symm, ?_, ?_⟩
    · intro hne
      have hn : 0 < n := by
        rcases Nat.eq_zero_or_pos n with h0 | h0
        · rw [h0] at hne
          simp at hne
        · exact h0
      have hp : a'.spot = none := plainT (v := .string (ss.getD 0 ByteArray.empty)) (by have := hc 0 (by omega); simpa [Addr.add] using this)
      obtain ⟨b, off, spot⟩ := a'
      simp only at hp
      subst hp
      refine ⟨b, off, rfl, fun j hj => ?_⟩
      rw [hlen] at hj
      have h9 := hc j (by omega)
      have ha : (⟨b, off, none⟩ : Addr).add j = ⟨b, off + j, none⟩ := by unfold Addr.add; split <;> simp_all
      rw [ha] at h9
      rw [h9, List.getElem_take]
      simp [List.getD, List.getElem?_eq_getElem (show j < ss.length by omega)]
    · have h1 := bulk_txs (H := H) (ss.take n)
      simp only [Rows.uptoBulk]
      omega
end Go.Proofs.YtiebmmpnmklpnaaDoor
