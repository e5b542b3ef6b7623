import Derived.Test.YtcbhgpdookappaaDoorDtk
import Derived.Test.YtcbhgpdookappaaDoorDtr
namespace Go.Proofs.YtcbhgpdookappaaDoor.Ds
open Go.ChangeShapes Go.WideShapes Go.ChangeAt Go.RowKit

/-- An encoded block at e: its bytes so far. -/
def EcAt (W : World) (e : Nat) (L : List Nat) : Prop := ∃ C : Array Value, W.heap[e]? = some (.cells C 81 (0, 0)) ∧ C.size = 34 ∧ C[33]? = some (Value.int .i64 (L.length : Int)) ∧ (∀ k x : Nat, L[k]? = some x → C[k]? = some (Value.int .u8 (x : Int))) ∧ (∀ k : Nat, k < 33 → ∃ x : Int, C[k]? = some (Value.int .u8 x)) ∧ L.length ≤ 33
theorem EcAt.kept {F : Nat → Prop} {W W' : World} {e : Nat} {L : List Nat} (h : EcAt W e L) (k : Kept F W W') (hF : ¬ F e) : EcAt W' e L := by
  obtain ⟨C, h1, h2⟩ := h
  exact ⟨C, k.heap h1 hF, h2⟩
theorem EcAt.lt {W : World} {e : Nat} {L : List Nat} (h : EcAt W e L) : e < W.heap.size := by
  obtain ⟨C, h1, h2⟩ := h
  exact lt_of_block h1
/-- What 'put' meets and leaves. -/
theorem EcAt.put {W : World} {e : Nat} {L : List Nat} (h : EcAt W e L) (hl : L.length < 33) (b : Nat) :
    W.cell? ⟨e, 33, none⟩ = some (.int .i64 (L.length : Nat)) ∧ (∃ x : Int, W.cell? ⟨e, L.length, none⟩ = some (.int .u8 x)) ∧ W.frozen? ⟨e, L.length, none⟩ = false ∧
    (W.setCell ⟨e, L.length, none⟩ (.int .u8 (b : Nat))).cell? ⟨e, 33, none⟩ = some (.int .i64 (L.length : Nat)) ∧ (W.setCell ⟨e, L.length, none⟩ (.int .u8 (b : Nat))).frozen? ⟨e, 33, none⟩ = false ∧
    Hid (∀ W', Kept (fun _ => False) (W.setCell ⟨e, L.length, none⟩ (.int .u8 (b : Nat))) W' → EcAt (W'.setCell ⟨e, 33, none⟩ (.int .i64 ((L.length : Int) + 1))) e (L ++ [b]) ∧ Kept (fun i => i = e) W (W'.setCell ⟨e, 33, none⟩ (.int .i64 ((L.length : Int) + 1)))) := by
  obtain ⟨C, h1, h2, h3, h4, h5, h6⟩ := h
  obtain ⟨x, hx⟩ := h5 L.length hl
  have g1 := set_blockD (k := L.length) (u := .int .u8 (b : Nat)) h1
  have n33 : (C.setIfInBounds L.length (.int .u8 (b : Nat)))[33]? = some (.int .i64 (L.length : Nat)) := by
    rw [Array.getElem?_setIfInBounds, if_neg (by omega)]; exact h3
  refine ⟨(cell_of_row _ _ _ _ _ _ h1).trans h3, ⟨x, (cell_of_row _ _ _ _ _ _ h1).trans hx⟩, by simp [World.frozen?, h1], (cell_of_row _ _ _ _ _ _ g1).trans n33, by simp [World.frozen?, g1], fun W' k => ?_⟩
  have g2 := k.heap g1 (fun f => f)
  have g3 := set_blockD (k := 33) (u := .int .i64 ((L.length : Int) + 1)) g2
  refine ⟨⟨_, g3, ?_, ?_, fun j y hj => ?_, fun j hj => ?_, ?_⟩, ?_⟩
  · simp [h2]
  · rw [Array.getElem?_setIfInBounds, if_pos rfl, if_pos (by simp [h2]), List.length_append]
    simp
  · rw [Array.getElem?_setIfInBounds]
    rw [List.getElem?_append] at hj
    by_cases hjl : j < L.length
    · rw [if_pos hjl] at hj
      rw [if_neg (by omega), Array.getElem?_setIfInBounds, if_neg (by omega)]
      exact h4 j y hj
    · rw [if_neg hjl] at hj
      have hj0 : j = L.length := by
        by_cases e0 : j - L.length = 0
        · omega
        · rw [List.getElem?_eq_none (by simp; omega)] at hj; cases hj
      subst hj0
      simp at hj
      rw [if_neg (by omega), Array.getElem?_setIfInBounds, if_pos rfl, if_pos (by omega), hj]
  · rw [Array.getElem?_setIfInBounds, if_neg (by omega), Array.getElem?_setIfInBounds]
    by_cases e0 : L.length = j
    · rw [if_pos e0, if_pos (by omega)]; exact ⟨_, rfl⟩
    · rw [if_neg e0]; exact h5 j hj
  · rw [List.length_append]; simp; omega
  · exact ((Kept.setCell W ⟨e, L.length, none⟩ _).trans k (fun _ f => f.elim)).trans (Kept.setCell _ ⟨e, 33, none⟩ _) (fun i hi => .inl hi)
set_option maxRecDepth 20000 in
set_option maxHeartbeats 1000000 in
theorem put_any (e b : Nat) (L : List Nat) (w : World) (h : EcAt w e L) (hl : L.length < 33) :
    Calls Tryd.prog 68 #[.pointer (some ⟨e, 0, none⟩), .int .u8 (b : Nat)] w fun r w' => (∃ v, r = .returned v) ∧ EcAt w' e (L ++ [b]) ∧ Kept (fun i => i = e) w w' := by
  obtain ⟨c1, ⟨x, c2⟩, c3, c4, c5, C6⟩ := h.put hl b
  obtain ⟨d, hd⟩ : ∃ d, d = L.length := ⟨_, rfl⟩
  have hdl : (d : Int) < 33 := by omega
  rw [← hd] at c1 c2 c3 c4 c5 C6 hl
  clear h hd
  go_enter Tryd.func68, Tryd.ntmps68
  go_wp2
  go_region
  go_wp2
  go_end0
  obtain ⟨h1, h2⟩ := C6.out _ (Kept.refl _ _)
  exact ⟨⟨_, rfl⟩, h1.kept (Kept.drew _) (fun f => f), h2.trans (Kept.drew _) (fun _ f => f.elim)⟩
def wdt (n j : Nat) : Nat := min 256 (n - j * 256)
set_option maxRecDepth 20000 in
set_option maxHeartbeats 1000000 in
theorem widthS_any (p rb n cap j : Nat) (ws : Nat → Nat) (w : World) (h : SetAt w p rb n cap ws) (hj : j < nbOf n) :
    Calls Tryd.prog 39 #[.pointer (some ⟨p, 0, none⟩), .int .i64 j] w fun e w' => e = .returned (.int .i64 (wdt n j : Nat)) ∧ w' = w := by
  have c0 : w.cell? ⟨p, 0, none⟩ = some (.int .i64 n) := (cell_of_row _ _ _ _ _ _ h.box).trans rfl
  have hn := h.small
  have hjn : j * 256 < n := by unfold nbOf at hj; omega
  obtain ⟨d, hd⟩ : ∃ d, d = wdt n j := ⟨_, rfl⟩
  have hdv : (if (n : Int) - (j : Int) * 256 < 256 then (n : Int) - (j : Int) * 256 else 256) = (d : Int) := by rw [hd]; unfold wdt; split <;> omega
  rw [← hd]
  clear h hd hj
  go_enter Tryd.func39, Tryd.ntmps39
  go_wp2
  go_ret
  exact ⟨rfl, rfl⟩
def tagN (c wd : Nat) : Nat :=
  if c = 0 then 0 else if c = wd then 1 else if 2 + c ≤ 2 + wd - c ∧ 2 + c ≤ 1 + (wd + 7) / 8 then 2 else if 2 + wd - c ≤ 1 + (wd + 7) / 8 then 3 else 4
set_option maxRecDepth 20000 in
set_option maxHeartbeats 1000000 in
theorem tagOf_any (c wd : Nat) (hc : c ≤ wd) (hw : wd ≤ 256) (w : World) :
    Calls Tryd.prog 67 #[.int .i64 (c : Nat), .int .i64 (wd : Nat)] w fun e w' => e = .returned (.int .i64 (tagN c wd : Nat)) ∧ w' = w := by
  by_cases h0 : c = 0
  · subst h0
    go_enter Tryd.func67, Tryd.ntmps67
    go_wp2
    go_ret
    exact ⟨rfl, rfl⟩
  by_cases h1 : c = wd
  · subst h1
    have e : tagN c c = 1 := by unfold tagN; rw [if_neg h0, if_pos rfl]
    rw [e]
    have e2 : ((c : Int) == 0) = false := by simp; omega
    clear e
    go_enter Tryd.func67, Tryd.ntmps67
    go_wp2
    go_ret
    exact ⟨rfl, rfl⟩
  have e1 : ((c : Int) == 0) = false := by simp; omega
  have e2 : ((c : Int) == (wd : Int)) = false := by simp; omega
  obtain ⟨m, hm⟩ : ∃ m : Int, (if 1 + ((wd : Int) + 7) / 8 < (if 2 + (wd : Int) - (c : Int) < 2 + (c : Int) then 2 + (wd : Int) - (c : Int) else 2 + (c : Int)) then 1 + ((wd : Int) + 7) / 8 else (if 2 + (wd : Int) - (c : Int) < 2 + (c : Int) then 2 + (wd : Int) - (c : Int) else 2 + (c : Int))) = m := ⟨_, rfl⟩
  by_cases h2 : 2 + c ≤ 2 + wd - c ∧ 2 + c ≤ 1 + (wd + 7) / 8
  · have e : tagN c wd = 2 := by unfold tagN; rw [if_neg h0, if_neg h1, if_pos h2]
    have e3 : (m == 2 + (c : Int)) = true := by rw [← hm]; simp; split <;> split <;> omega
    rw [e]
    clear e h2 h0 h1
    go_enter Tryd.func67, Tryd.ntmps67
    go_wp2
    go_ret
    exact ⟨rfl, rfl⟩
  by_cases h3 : 2 + wd - c ≤ 1 + (wd + 7) / 8
  · have e : tagN c wd = 3 := by unfold tagN; rw [if_neg h0, if_neg h1, if_neg h2, if_pos h3]
    have e3 : (m == 2 + (c : Int)) = false := by rw [← hm]; simp; split <;> split <;> omega
    have e4 : (m == 2 + (wd : Int) - (c : Int)) = true := by rw [← hm]; simp; split <;> split <;> omega
    rw [e]
    clear e h2 h0 h1 h3
    go_enter Tryd.func67, Tryd.ntmps67
    go_wp2
    go_ret
    exact ⟨rfl, rfl⟩
  · have e : tagN c wd = 4 := by unfold tagN; rw [if_neg h0, if_neg h1, if_neg h2, if_neg h3]
    have e3 : (m == 2 + (c : Int)) = false := by rw [← hm]; simp; split <;> split <;> omega
    have e4 : (m == 2 + (wd : Int) - (c : Int)) = false := by rw [← hm]; simp; split <;> split <;> omega
    rw [e]
    clear e h2 h0 h1 h3
    go_enter Tryd.func67, Tryd.ntmps67
    go_wp2
    go_ret
    exact ⟨rfl, rfl⟩
end Go.Proofs.YtcbhgpdookappaaDoor.Ds
