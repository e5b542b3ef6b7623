import Derived.Test.YtnkmjhcddegkhaaDoorGro
import Derived.Deep.QuietTactic
import Derived.BigQuiet
namespace Go.Proofs.YtnkmjhcddegkhaaDoor
open Go.ChangeShapes Go.WideShapes Go.ChangeAt Go.RowKit

/-- The stop words. -/
def stL : List (List UInt8) := [[97], [97, 110], [97, 110, 100], [97, 114, 101], [97, 115], [97, 116], [98, 101], [98, 117, 116], [98, 121], [102, 111, 114], [102, 114, 111, 109], [104, 97, 115], [104, 101], [105, 102], [105, 110], [105, 110, 116, 111], [105, 115], [105, 116], [105, 116, 115], [110, 111], [110, 111, 116], [111, 102], [111, 110], [111, 114], [115, 104, 101], [115, 111], [115, 117, 99, 104], [116, 104, 97, 116], [116, 104, 101], [116, 104, 101, 105, 114], [116, 104, 101, 110], [116, 104, 101, 114, 101], [116, 104, 101, 115, 101], [116, 104, 101, 121], [116, 104, 105, 115], [116, 111], [119, 97, 115], [119, 101], [119, 101, 114, 101], [119, 105, 108, 108], [119, 105, 116, 104], [121, 111, 117]]
def stB (j : Nat) : ByteArray := ⟨(stL.getD j []).toArray⟩
/-- The program's own list. -/
def StopsAt (w : World) : Prop := ∀ j, j < 42 → w.cell? ⟨0, j, none⟩ = some (.string (stB j))
theorem StopsAt.kept {F : Nat → Prop} {w w' : World} (h : StopsAt w) (k : Kept F w w') (hF : ¬ F 0) : StopsAt w' := fun j hj => k.cell (h j hj) hF
def stLess (j : Nat) (x : ByteArray) : Bool := Op.bytesLess (stB j).toList x.toList
/-- Is it a stop word? -/
def isSt (x : ByteArray) : Bool := stL.any (fun s => s == x.data.toList)
theorem stp_pairs : ∀ r : Fin 43, ∀ j : Fin 42, (r.val = 0 ∨ stLess (r.val - 1) (stB j.val) = true) → (r.val = 42 ∨ stLess r.val (stB j.val) = false) → r.val = j.val := by decide +kernel
theorem stB_list (j : Nat) : (stB j).toList = stL.getD j [] := by unfold stB; rw [ByteArray.toList_mk]
theorem isSt_in (x : ByteArray) (r : Nat) (h3 : r < 42) (h : (stB r).toList = x.toList) : isSt x = true := by
  unfold isSt
  rw [List.any_eq_true]
  refine ⟨stL.getD r [], ?_, ?_⟩
  · rw [List.getD_eq_getElem?_getD, List.getElem?_eq_getElem (show r < stL.length from h3), Option.getD_some]
    exact List.getElem_mem _
  · rw [← stB_list, h, ByteArray.toList_eq, beq_self_eq_true]
theorem isSt_at (x : ByteArray) (h : isSt x = true) : ∃ j, j < 42 ∧ x = stB j := by
  unfold isSt at h
  rw [List.any_eq_true] at h
  obtain ⟨s, hs, he⟩ := h
  obtain ⟨j, hj, e⟩ := List.getElem_of_mem hs
  refine ⟨j, hj, ?_⟩
  have e2 : s = x.data.toList := eq_of_beq he
  have e3 : stL.getD j [] = x.data.toList := by rw [List.getD_eq_getElem?_getD, List.getElem?_eq_getElem hj, Option.getD_some, e, e2]
  unfold stB
  rw [e3]
theorem isSt_found (x : ByteArray) (r : Nat) (h1 : r = 0 ∨ stLess (r - 1) x = true) (h2 : r = 42 ∨ stLess r x = false) (h3 : r < 42) : ((stB r).toList == x.toList) = isSt x := by
  cases hq : isSt x with
  | true =>
    obtain ⟨j, hj, e⟩ := isSt_at x hq
    rw [e] at h1 h2
    obtain rfl : r = j := stp_pairs ⟨r, by omega⟩ ⟨j, hj⟩ h1 h2
    rw [e, beq_self_eq_true]
  | false =>
    cases hb : ((stB r).toList == x.toList) with
    | false => rfl
    | true => rw [isSt_in x r h3 (eq_of_beq hb)] at hq; cases hq
theorem isSt_end (x : ByteArray) (h1 : stLess 41 x = true) : isSt x = false := by
  cases hq : isSt x with
  | false => rfl
  | true =>
    obtain ⟨j, hj, e⟩ := isSt_at x hq
    rw [e] at h1
    have := stp_pairs ⟨42, by decide⟩ ⟨j, hj⟩ (Or.inr h1) (Or.inl rfl)
    simp only at this
    omega
theorem geq_str (t : TypeId) (a b : ByteArray) : binOp .geq t (.string a) (.string b) = pure (.bool !(Op.bytesLess a.toList b.toList)) := by simp [binOp, Op.stringOp]
theorem hideS {p : Prop} (h : p) : Hid p := h
set_option maxRecDepth 20000 in
set_option maxHeartbeats 2000000 in
theorem stop_cl (x : ByteArray) (bx i : Nat) (W : World) (hi : i < 42) (hx : W.cell? ⟨bx, 0, none⟩ = some (.string x)) (hS : StopsAt W) :
    Calls Tryd.prog 19 #[.int .i64 i, .pointer (some ⟨bx, 0, none⟩)] W fun e w' => e = .returned (.bool (!stLess i x)) ∧ ∃ q, w' = W.drewN q := by
  have hc := hS i hi
  have hl : Op.bytesLess (stB i).toList x.toList = stLess i x := rfl
  generalize stB i = s at hc hl
  generalize stLess i x = b at hl ⊢
  have g1 := geq_str 9 s x
  rw [hl] at g1
  have hiz : (i : Int) < 42 := by omega
  clear hS
  go_enter Tryd.func19, Tryd.ntmps19
  go_wp2
  go_region
  all_goals go_wp2
  all_goals go_ret
  all_goals exact ⟨rfl, 1, rfl⟩
end Go.Proofs.YtnkmjhcddegkhaaDoor
