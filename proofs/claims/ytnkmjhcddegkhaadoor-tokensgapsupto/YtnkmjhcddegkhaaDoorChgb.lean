import Derived.Test.YtnkmjhcddegkhaaDoorChga
namespace Go.Proofs.YtnkmjhcddegkhaaDoor
open Go.ChangeShapes Go.WideShapes Go.ChangeAt Go.RowKit

theorem decV_bounds (l : List UInt8) : -9223372036854775808 ≤ decV l ∧ decV l ≤ 9223372036854775807 := by
  unfold decV
  cases h : dec l with
  | none => simp
  | some v => exact dec_bounds h
/-- The tokens of one text of a field; how many words it counts for. -/
def ofL (TT : Nat → ByteArray) (kd : Int) (fo st se : Bool) (l : List UInt8) : List Tk := if kd = 1 then chd TT (kk fo st se) (tkL l) else if kd = 2 then kwL l else if kd = 3 then nuL l else []
def ofN (kd : Int) (l : List UInt8) : Nat := if kd = 1 then (words l).length else 1
set_option maxRecDepth 20000 in
set_option maxHeartbeats 4000000 in
theorem tokensOf_any (TT : Nat → ByteArray) (nm : ByteArray) (kd : Int) (fo st se : Bool) (l : List UInt8) (w : World) (hl : l.length ≤ 1099511627776) (hS : StopsT TT w) (hE : Es2 w) :
    Calls Tryd.prog 12 #[.agg #[.string nm, .int .i64 kd, .bool fo, .bool st, .bool se], .string (bq l)] w fun e w' => ∃ a c, e = .returned (.tuple #[.slice a (ofL TT kd fo st se l).length c, .int .i64 (ofN kd l)]) ∧ Gro w w' 29 5 (.slice a (ofL TT kd fo st se l).length c) (ofL TT kd fo st se l).length (tkvs (ofL TT kd fo st se l)) := by
  by_cases h1 : kd = 1
  · subst h1
    exact tokensOf_text TT nm fo st se l w hl hS
  have KB := hideV (Kept.alloc w (fdO nm kd fo st se))
  have eN : ofN kd l = 1 := by unfold ofN; rw [if_neg h1]
  rw [eN]
  by_cases h2 : kd = 2
  · subst h2
    have e : ofL TT 2 fo st se l = kwL l := rfl
    rw [e]
    have CK := hideV (keyword_any l (w.alloc (fdO nm 2 fo st se)) (by omega))
    clear e eN hS hE h1
    generalize bq l = s at *
    generalize tkvs (kwL l) = Y at *
    generalize (kwL l).length = ny at *
    go_enter Tryd.func12, Tryd.ntmps12
    go_wp2_with (go_at_call 25; refine CK.out.mono ?_; clear CK; rintro e W1 ⟨a1, c1, rfl, G1⟩; have G1 := hideV G1)
    go_ret2
    exact ⟨a1, c1, rfl, G1.out.base KB.out⟩
  by_cases h3 : kd = 3
  · subst h3
    have e : ofL TT 3 fo st se l = nuL l := rfl
    rw [e]
    have CK := hideV (number_any l (w.alloc (fdO nm 3 fo st se)) (by omega) (hE.kept KB.out) (decV_bounds l))
    clear e eN hS hE h1 h2
    generalize bq l = s at *
    generalize tkvs (nuL l) = Y at *
    generalize (nuL l).length = ny at *
    go_enter Tryd.func12, Tryd.ntmps12
    go_wp2_with (go_at_call 26; refine CK.out.mono ?_; clear CK; rintro e W1 ⟨a1, c1, rfl, G1⟩; have G1 := hideV G1)
    go_ret2
    exact ⟨a1, c1, rfl, G1.out.base KB.out⟩
  have e : ofL TT kd fo st se l = [] := by unfold ofL; rw [if_neg h1, if_neg h2, if_neg h3]
  rw [e]
  clear e eN hS hE
  generalize bq l = s at *
  go_enter Tryd.func12, Tryd.ntmps12
  go_wp2
  go_ret2
  exact ⟨_, _, rfl, (gro_nil w _ _).later KB.out⟩
set_option maxRecDepth 20000 in
set_option maxHeartbeats 4000000 in
theorem of_any (TT : Nat → ByteArray) (nm : ByteArray) (kd : Int) (fo st se : Bool) (l : List UInt8) (w : World) (hl : l.length ≤ 1099511627776) (hS : StopsT TT w) (hE : Es2 w) :
    Calls Tryd.prog 6 #[.agg #[.string nm, .int .i64 kd, .bool fo, .bool st, .bool se], .string (bq l)] w fun e w' => ∃ a c, e = .returned (.slice a (ofL TT kd fo st se l).length c) ∧ Gro w w' 29 5 (.slice a (ofL TT kd fo st se l).length c) (ofL TT kd fo st se l).length (tkvs (ofL TT kd fo st se l)) := by
  have KB := hideV (Kept.alloc w (fdO nm kd fo st se))
  have CT := hideV (tokensOf_any TT nm kd fo st se l (w.alloc (fdO nm kd fo st se)) hl (hS.kept KB.out (fun f => f)) (hE.kept KB.out))
  clear hS hE
  generalize bq l = s at *
  generalize ofN kd l = n at *
  generalize tkvs (ofL TT kd fo st se l) = Y at *
  generalize (ofL TT kd fo st se l).length = ny at *
  go_enter Tryd.func6, Tryd.ntmps6
  go_wp2_with (go_at_call 12; refine CT.out.mono ?_; clear CT; rintro e W1 ⟨a1, c1, rfl, G1⟩; have G1 := hideV G1)
  go_ret
  exact ⟨a1, c1, rfl, G1.out.base KB.out⟩
/-- Positions rise, below n. -/
def Ris (L : List Tk) (n : Nat) : Prop := L.Pairwise (fun a b => a.p < b.p) ∧ ∀ x ∈ L, 0 ≤ x.p ∧ x.p < n
theorem wtk_ris (l : List UInt8) (ws : List (Nat × Nat)) (i : Nat) : (wtk l i ws).Pairwise (fun a b => a.p < b.p) ∧ ∀ x ∈ wtk l i ws, (i : Int) ≤ x.p ∧ x.p < ((i + ws.length : Nat) : Int) := by
  induction ws generalizing i with
  | nil => exact ⟨List.Pairwise.nil, fun x hx => by cases hx⟩
  | cons p r ih =>
    obtain ⟨h1, h2⟩ := ih (i + 1)
    refine ⟨List.Pairwise.cons (fun x hx => ?_) h1, fun x hx => ?_⟩
    · have := (h2 x hx).1
      show (i : Int) < x.p
      omega
    · rcases List.mem_cons.1 hx with rfl | hx
      · rw [List.length_cons]
        exact ⟨Int.le_refl _, by show (i : Int) < _; omega⟩
      · have := h2 x hx
        rw [List.length_cons]
        omega
theorem ch1_p (TT : Nat → ByteArray) (K : List Nat) (x y : Tk) (h : ch1 TT K x = some y) : y.p = x.p := by
  unfold ch1 at h
  split at h
  · split at h
    · cases h; rfl
    · cases h
  · cases h
theorem of_ris (TT : Nat → ByteArray) (kd : Int) (fo st se : Bool) (l : List UInt8) : Ris (ofL TT kd fo st se l) (ofN kd l) := by
  unfold ofL ofN
  by_cases h1 : kd = 1
  · rw [if_pos h1, if_pos h1]
    obtain ⟨q1, q2⟩ := wtk_ris l (words l) 0
    refine ⟨List.Pairwise.filterMap _ (fun a b hab y hy z hz => ?_) q1, fun x hx => ?_⟩
    · rw [ch1_p TT _ _ _ hy, ch1_p TT _ _ _ hz]; exact hab
    · obtain ⟨u, hu, he⟩ := List.mem_filterMap.1 hx
      rw [ch1_p TT _ _ _ he]
      have := q2 u hu
      omega
  · rw [if_neg h1, if_neg h1]
    have one : ∀ x : Tk, x.p = 0 → Ris [x] 1 := fun x h => ⟨List.pairwise_singleton _ _, fun y hy => by rw [List.mem_singleton] at hy; subst hy; omega⟩
    have non : Ris [] 1 := ⟨List.Pairwise.nil, fun x hx => by cases hx⟩
    by_cases h2 : kd = 2
    · rw [if_pos h2]; unfold kwL; split
      · exact one _ rfl
      · exact non
    · rw [if_neg h2]
      by_cases h3 : kd = 3
      · rw [if_pos h3]; unfold nuL; split
        · exact one _ rfl
        · exact non
      · rw [if_neg h3]; exact non
theorem of_len (TT : Nat → ByteArray) (kd : Int) (fo st se : Bool) (l : List UInt8) : (ofL TT kd fo st se l).length ≤ ofN kd l := by
  unfold ofL ofN
  by_cases h1 : kd = 1
  · rw [if_pos h1, if_pos h1]
    have := chd_len TT (kk fo st se) (tkL l)
    rw [tkL_len] at this
    exact this
  · rw [if_neg h1, if_neg h1]
    by_cases h2 : kd = 2
    · rw [if_pos h2]; unfold kwL; split <;> simp
    · rw [if_neg h2]
      by_cases h3 : kd = 3
      · rw [if_pos h3]; unfold nuL; split <;> simp
      · rw [if_neg h3]; simp
theorem ofN_le (kd : Int) (l : List UInt8) : ofN kd l ≤ l.length + 1 := by
  unfold ofN
  split
  · have : (words l).length ≤ l.length := by rw [words_F]; exact wF_len l _ 0 (Nat.le_refl _)
    omega
  · omega
end Go.Proofs.YtnkmjhcddegkhaaDoor
