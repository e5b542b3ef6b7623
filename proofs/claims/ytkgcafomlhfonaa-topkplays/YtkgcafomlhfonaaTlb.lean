import Derived.Test.YtkgcafomlhfonaaTkq
namespace Go.Proofs.Ytkgcafomlhfonaa.Tk
open Go.ChangeShapes Go.WideShapes Go.ChangeAt Go.RowKit

set_option maxHeartbeats 4000000 in
theorem rbetter_any (x y : Ht) (W : World) : Calls Try.prog 20 #[.agg #[.int .i64 x.1, .int .u64 x.2], .agg #[.int .i64 y.1, .int .u64 y.2]] W fun e w' => e = .returned (.bool (decide (Bt x y))) ∧ Gw W w' := by
  have G1 := hideT (((Gw.refl W).alloc (.cells #[.int .i64 x.1, .int .u64 x.2] 29)).alloc (.cells #[.int .i64 y.1, .int .u64 y.2] 29))
  by_cases h2 : x.2 = y.2
  · rw [h2] at G1 ⊢
    go_enter Try.func20, Try.ntmps20
    go_wp2
    go_ret
    exact ⟨by simp [Bt, h2], G1.out⟩
  · go_enter Try.func20, Try.ntmps20
    go_wp2
    go_ret
    refine ⟨?_, G1.out⟩
    simp [Bt, h2]
theorem ins_cons (h y : Ht) (l : List Ht) : ins h (y :: l) = if Bt h y then h :: y :: l else y :: ins h l := rfl
/-- What stands behind j rounds: h put in already, or not. -/
def insP (h : Ht) (K : List Ht) (j : Nat) : List Ht × Bool := match j with
  | 0 => ([], false)
  | j + 1 => let r := insP h K j
    match K[j]? with
    | none => r
    | some y => if r.2 then (r.1 ++ [y], true) else if Bt h y then (r.1 ++ [h, y], true) else (r.1 ++ [y], false)
theorem insP_put (h : Ht) (K : List Ht) : ∀ j, j ≤ K.length → (if (insP h K j).2 then (insP h K j).1 ++ K.drop j = ins h K else (insP h K j).1 = K.take j ∧ ∀ y ∈ K.take j, ¬ Bt h y)
  | 0, _ => by simp [insP]
  | j + 1, hj => by
    have ih := insP_put h K j (by omega)
    have hjl : j < K.length := by omega
    have hd : K.drop j = K[j] :: K.drop (j + 1) := List.drop_eq_getElem_cons hjl
    have ht : K.take (j + 1) = K.take j ++ [K[j]] := List.take_succ_eq_append_getElem hjl
    unfold insP
    rw [List.getElem?_eq_getElem hjl]
    simp only
    by_cases h2 : (insP h K j).2 = true
    · rw [if_pos h2] at ih ⊢
      simp only [if_true]
      rw [← ih, hd]
      simp
    · rw [if_neg h2] at ih ⊢
      obtain ⟨i1, i2⟩ := ih
      by_cases hb : Bt h K[j]
      · rw [if_pos hb]
        simp only [if_true]
        have e : ∀ (P R : List Ht), (∀ y ∈ P, ¬ Bt h y) → ins h (P ++ R) = P ++ ins h R := fun P R hP => by
          induction P with
          | nil => rfl
          | cons y P ih =>
            rw [List.cons_append, ins_cons, if_neg (hP y (List.mem_cons_self ..)), ih (fun z hz => hP z (List.mem_cons_of_mem _ hz))]
            rfl
        conv => rhs; rw [← List.take_append_drop j K, e _ _ i2, hd, ins_cons, if_pos hb]
        rw [i1]
        simp
      · rw [if_neg hb]
        simp only [Bool.false_eq_true, if_false]
        rw [i1, ht]
        refine ⟨rfl, fun y hy => ?_⟩
        rcases List.mem_append.1 hy with q | q
        · exact i2 y q
        · rw [List.mem_singleton] at q; subst q; exact hb
theorem insP_len (h : Ht) (K : List Ht) : ∀ j, (insP h K j).1.length ≤ j + 1 ∧ ((insP h K j).2 = false → (insP h K j).1.length ≤ j)
  | 0 => by simp [insP]
  | j + 1 => by
    obtain ⟨i1, i2⟩ := insP_len h K j
    unfold insP
    simp only
    cases hk : K[j]? with
    | none => simp only; exact ⟨by omega, fun e => by have := i2 e; omega⟩
    | some y =>
      simp only
      by_cases h2 : (insP h K j).2 = true
      · rw [if_pos h2]; simp only [List.length_append, List.length_cons, List.length_nil]; exact ⟨by omega, fun e => by cases e⟩
      · rw [if_neg h2]
        have := i2 (by simpa using h2)
        split
        · simp only [List.length_append, List.length_cons, List.length_nil]; exact ⟨by omega, fun e => by cases e⟩
        · simp only [List.length_append, List.length_cons, List.length_nil]; exact ⟨by omega, fun _ => by omega⟩
theorem insP_end (h : Ht) (K : List Ht) : (if (insP h K K.length).2 then (insP h K K.length).1 else (insP h K K.length).1 ++ [h]) = ins h K := by
  have := insP_put h K K.length (Nat.le_refl _)
  by_cases h2 : (insP h K K.length).2 = true
  · rw [if_pos h2] at this ⊢
    rwa [List.drop_length, List.append_nil] at this
  · rw [if_neg h2] at this ⊢
    rw [List.take_length] at this
    rw [this.1, ins_end h K this.2]
theorem insP_step {h : Ht} {K : List Ht} {j : Nat} {y : Ht} (hy : K[j]? = some y) : insP h K (j + 1) = if (insP h K j).2 then ((insP h K j).1 ++ [y], true) else if Bt h y then ((insP h K j).1 ++ [h, y], true) else ((insP h K j).1 ++ [y], false) := by
  conv => lhs; unfold insP
  rw [hy]
end Go.Proofs.Ytkgcafomlhfonaa.Tk
