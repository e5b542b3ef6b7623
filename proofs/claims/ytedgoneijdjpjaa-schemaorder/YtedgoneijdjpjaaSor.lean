import Derived.Test.YtedgoneijdjpjaaTrw
import Derived.SizedLaws
import Derived.ChangeMaps5
namespace Go.Proofs.Ytedgoneijdjpjaa
open Go.ChangeShapes Go.WideShapes Go.ChangeAt Go.RowKit Go.ChangeMaps

theorem own : ownKnob Try.prog.godebug = none := by kernel_rfl

set_option maxRecDepth 20000 in
set_option maxHeartbeats 1000000 in
theorem order_no (v u : Int) (s A B : ByteArray) (w : World) (hs : s.size ≠ 8)
    (z1 : A.size = 8) (z2 : B.size = 8) (l1 : Op.bytesLess A.toList B.toList = decide (v < u)) (l2 : (A.toList == B.toList) = decide (v = u))
    (c1 : ∀ w, Calls Try.prog 4 #[.int .i64 v] w fun e w' => e = .returned (.string A) ∧ Below w.heap.size w w')
    (c2 : ∀ w, Calls Try.prog 4 #[.int .i64 u] w fun e w' => e = .returned (.string B) ∧ Below w.heap.size w w')
    (c3 : ∀ w, Calls Try.prog 5 #[.string A] w fun e w' => e = .returned (.tuple #[.int .i64 v, .bool true]) ∧ w' = w)
    (c4 : ∀ w, Calls Try.prog 5 #[.string s] w fun e w' => e = .returned (.tuple #[.int .i64 0, .bool false]) ∧ w' = w) :
    Calls Try.prog 3 #[.int .i64 v, .int .i64 u, .string s] w fun e w' => e = .returned (.bool true) ∧ Below w.heap.size w w' := by
  have hs' : ¬ (s.size : Int) = 8 := by omega
  rcases Int.lt_trichotomy v u with hvu | rfl | hvu
  · have k1 : ¬ v = u := by omega
    simp only [hvu, k1, decide_true, decide_false] at l1 l2
    go_enter Try.func3, Try.ntmps3
    go_wp2_with (first
      | (go_at_call 4; first | (refine (c1 _).mono ?_; clear c1; rintro e w1 ⟨rfl, hb1⟩) | (refine (c2 _).mono ?_; clear c2; rintro e w2 ⟨rfl, hb2⟩))
      | (go_at_call 5; first | (refine (c3 _).mono ?_; clear c3; rintro e w' ⟨rfl, rfl⟩) | (refine (c4 _).mono ?_; clear c4; rintro e w' ⟨rfl, rfl⟩)))
    go_ret
    exact ⟨rfl, hb1.trans (hb2.mono hb1.size)⟩
  · simp only [Int.lt_irrefl, decide_true, decide_false] at l1 l2
    go_enter Try.func3, Try.ntmps3
    go_wp2_with (first
      | (go_at_call 4; first | (refine (c1 _).mono ?_; clear c1; rintro e w1 ⟨rfl, hb1⟩) | (refine (c2 _).mono ?_; clear c2; rintro e w2 ⟨rfl, hb2⟩))
      | (go_at_call 5; first | (refine (c3 _).mono ?_; clear c3; rintro e w' ⟨rfl, rfl⟩) | (refine (c4 _).mono ?_; clear c4; rintro e w' ⟨rfl, rfl⟩)))
    go_ret
    exact ⟨rfl, hb1.trans (hb2.mono hb1.size)⟩
  · have k1 : ¬ v = u := by omega
    have k2 : ¬ v < u := by omega
    simp only [k1, k2, decide_false] at l1 l2
    have k3 : (v == u) = false := by simp [k1]
    have k4 : decide (v < u) = false := by simp [k2]
    go_enter Try.func3, Try.ntmps3
    go_wp2_with (first
      | (go_at_call 4; first | (refine (c1 _).mono ?_; clear c1; rintro e w1 ⟨rfl, hb1⟩) | (refine (c2 _).mono ?_; clear c2; rintro e w2 ⟨rfl, hb2⟩))
      | (go_at_call 5; first | (refine (c3 _).mono ?_; clear c3; rintro e w' ⟨rfl, rfl⟩) | (refine (c4 _).mono ?_; clear c4; rintro e w' ⟨rfl, rfl⟩)))
    go_ret
    exact ⟨rfl, hb1.trans (hb2.mono hb1.size)⟩
set_option maxRecDepth 20000 in
set_option maxHeartbeats 1000000 in
theorem order_yes (v u y : Int) (s A B : ByteArray) (w : World) (hs : s.size = 8)
    (z1 : A.size = 8) (z2 : B.size = 8) (l1 : Op.bytesLess A.toList B.toList = decide (v < u)) (l2 : (A.toList == B.toList) = decide (v = u))
    (c1 : ∀ w, Calls Try.prog 4 #[.int .i64 v] w fun e w' => e = .returned (.string A) ∧ Below w.heap.size w w')
    (c2 : ∀ w, Calls Try.prog 4 #[.int .i64 u] w fun e w' => e = .returned (.string B) ∧ Below w.heap.size w w')
    (c3 : ∀ w, Calls Try.prog 5 #[.string A] w fun e w' => e = .returned (.tuple #[.int .i64 v, .bool true]) ∧ w' = w)
    (c4 : ∀ w, Calls Try.prog 5 #[.string s] w fun e w' => e = .returned (.tuple #[.int .i64 y, .bool true]) ∧ w' = w)
    (c5 : ∀ w, Calls Try.prog 4 #[.int .i64 y] w fun e w' => e = .returned (.string s) ∧ Below w.heap.size w w') :
    Calls Try.prog 3 #[.int .i64 v, .int .i64 u, .string s] w fun e w' => e = .returned (.bool true) ∧ Below w.heap.size w w' := by
  rcases Int.lt_trichotomy v u with hvu | rfl | hvu
  · have k1 : ¬ v = u := by omega
    simp only [hvu, k1, decide_true, decide_false] at l1 l2
    go_enter Try.func3, Try.ntmps3
    go_wp2_with (first
      | (go_at_call 4; first | (refine (c1 _).mono ?_; clear c1; rintro e w1 ⟨rfl, hb1⟩) | (refine (c2 _).mono ?_; clear c2; rintro e w2 ⟨rfl, hb2⟩) | (refine (c5 _).mono ?_; clear c5; rintro e w3 ⟨rfl, hb3⟩))
      | (go_at_call 5; first | (refine (c3 _).mono ?_; clear c3; rintro e w' ⟨rfl, rfl⟩) | (refine (c4 _).mono ?_; clear c4; rintro e w' ⟨rfl, rfl⟩)))
    go_ret
    exact ⟨rfl, hb1.trans ((hb2.mono hb1.size).trans (hb3.mono (Nat.le_trans hb1.size hb2.size)))⟩
  · simp only [Int.lt_irrefl, decide_true, decide_false] at l1 l2
    go_enter Try.func3, Try.ntmps3
    go_wp2_with (first
      | (go_at_call 4; first | (refine (c1 _).mono ?_; clear c1; rintro e w1 ⟨rfl, hb1⟩) | (refine (c2 _).mono ?_; clear c2; rintro e w2 ⟨rfl, hb2⟩) | (refine (c5 _).mono ?_; clear c5; rintro e w3 ⟨rfl, hb3⟩))
      | (go_at_call 5; first | (refine (c3 _).mono ?_; clear c3; rintro e w' ⟨rfl, rfl⟩) | (refine (c4 _).mono ?_; clear c4; rintro e w' ⟨rfl, rfl⟩)))
    go_ret
    exact ⟨rfl, hb1.trans ((hb2.mono hb1.size).trans (hb3.mono (Nat.le_trans hb1.size hb2.size)))⟩
  · have k1 : ¬ v = u := by omega
    have k2 : ¬ v < u := by omega
    simp only [k1, k2, decide_false] at l1 l2
    have k3 : (v == u) = false := by simp [k1]
    have k4 : decide (v < u) = false := by simp [k2]
    go_enter Try.func3, Try.ntmps3
    go_wp2_with (first
      | (go_at_call 4; first | (refine (c1 _).mono ?_; clear c1; rintro e w1 ⟨rfl, hb1⟩) | (refine (c2 _).mono ?_; clear c2; rintro e w2 ⟨rfl, hb2⟩) | (refine (c5 _).mono ?_; clear c5; rintro e w3 ⟨rfl, hb3⟩))
      | (go_at_call 5; first | (refine (c3 _).mono ?_; clear c3; rintro e w' ⟨rfl, rfl⟩) | (refine (c4 _).mono ?_; clear c4; rintro e w' ⟨rfl, rfl⟩)))
    go_ret
    exact ⟨rfl, hb1.trans ((hb2.mono hb1.size).trans (hb3.mono (Nat.le_trans hb1.size hb2.size)))⟩

theorem order_any (v u : Int) (s : ByteArray) (w : World) (h0 : -9223372036854775808 ≤ v) (h1 : v ≤ 9223372036854775807) (g0 : -9223372036854775808 ≤ u) (g1 : u ≤ 9223372036854775807) :
    Calls Try.prog 3 #[.int .i64 v, .int .i64 u, .string s] w fun e w' => e = .returned (.bool true) ∧ Below w.heap.size w w' := by
  by_cases hs : s.size = 8
  · obtain ⟨y, y0, y1, e, hy⟩ := num_s s hs
    refine order_yes v u y s (tm (wd v)) (tm (wd u)) w hs (tm_size _) (tm_size _) (term_less v u h0 h1 g0 g1) (term_beq v u h0 h1 g0 g1)
      (fun w => term_any v w h0 h1) (fun w => term_any u w g0 g1) (fun w => num_tm v w h0 h1) hy (fun w => ?_)
    have := term_any y w y0 y1
    rwa [e] at this
  · exact order_no v u s (tm (wd v)) (tm (wd u)) w hs (tm_size _) (tm_size _) (term_less v u h0 h1 g0 g1) (term_beq v u h0 h1 g0 g1)
      (fun w => term_any v w h0 h1) (fun w => term_any u w g0 g1) (fun w => num_tm v w h0 h1) (fun w => num_no s w hs)

set_option maxRecDepth 100000 in
theorem lifted (os : Os) (started : os.Started) (H : Type) (enc : TypeId × Value → H) :
    ReturnsInHanded {} Try.checked os 3 .any (Rows.schemaOrderSpec.pre6 enc Try.prog Try.f3 Rows.schemaOrderRow.domain false) (Rows.schemaOrderSpec.post enc Try.prog Try.f3 false true false false) := by
  refine returnsInHanded_of_change (C := Try.checked) own started (by kernel_rfl) Try.func3
    (ChangeSpec.witness6 (enc := enc) (C := Try.checked) false ⟨#[], #[.int .i64 0, .int .i64 0, .string ⟨#[]⟩], []⟩ 8 (by kernel_rfl) (by kernel_rfl) (by kernel_rfl) (by kernel_rfl)) ?_
  intro W base args ds gs before hval0 hW hcnd _
  have hval : ∀ (j : Nat) t v, Try.f3.params[j]? = some t → args[j]? = some v → Value.okWide Try.prog W .any base t v := hval0
  have hW' := hW
  obtain ⟨p, q, hA0, hV, rfl, hfz, hnd⟩ := hW
  have hA : DataW.TrodAll enc Try.prog W 0 (fun _ => true) true Try.f3.params.toList args.toList ds p := hA0
  rw [Try.params3] at hA hval
  obtain ⟨v0, vs0, d0, ds0, p0, q0, hargs, rfl, rfl, h0, r0⟩ := trodAll_cons hA
  obtain ⟨v1, vs1, d1, ds1, p1, q1, rfl, rfl, rfl, h1, r1⟩ := trodAll_cons r0
  obtain ⟨v2, vs2, d2, ds2, p2, q2, rfl, rfl, rfl, h2, r2⟩ := trodAll_cons r1
  obtain ⟨rfl, rfl, rfl⟩ := trodAll_nil r2
  obtain rfl : args = #[v0, v1, v2] := by cases args; simp_all
  obtain ⟨rfl, rfl⟩ := trodVars_none hV
  obtain ⟨a0, rfl, rfl, rfl, w0⟩ := open_int Try.underlying2 (hval 0 2 v0 rfl rfl) h0
  obtain ⟨a1, rfl, rfl, rfl, w1⟩ := open_int Try.underlying2 (hval 1 2 v1 rfl rfl) h1
  obtain ⟨s, rfl, rfl, rfl, w2⟩ := open_string Try.underlying9 (hval 2 9 v2 rfl rfl) h2
  clear hA0 hval0
  simp only [List.append_nil] at hW'
  have b0 := bounds_i64 w0
  have b1 := bounds_i64 w1
  refine (order_any a0 a1 s W b0.1 b0.2 b1.1 b1.2).mono fun e W' ⟨he, bel⟩ => ?_
  subst he
  exact ⟨_, rfl, _, _, _, [], [], [], hW', trodAll_cons_mk (shut_bool Try.underlying4 _) trodAll_mk0, (trodAll_cons_mk (shut_int Try.underlying2 w0) (trodAll_cons_mk (shut_int Try.underlying2 w1) (trodAll_cons_mk (shut_string Try.underlying9 w2) trodAll_mk0))), rfl, bel.frame _, fun h => by cases h⟩

theorem over : Rows.schemaOrderRow.holds Try.pinned (OpenSpec.ofChange Rows.schemaOrderSpec) :=
  OpenClaim.holds_of_wide 3 Try.f3 rfl rfl rfl rfl rfl rfl rfl ⟨rfl, rfl, rfl, rfl, rfl⟩ rfl rfl rfl rfl rfl (by kernel_rfl) Try.func3 (by kernel_rfl)
    (of_decide_eq_true (by kernel_rfl)) (by unfold Func.isWrapper; first | (rw [if_pos (by decide +kernel)]; kernel_rfl) | (rw [if_neg (by decide +kernel)]; exact ⟨rfl, rfl⟩))
    (fun os started H enc _ => lifted os started H enc)

theorem schemaOrder_holds : Rows.SchemaOrderSaid :=
  over
#print axioms schemaOrder_holds
end Go.Proofs.Ytedgoneijdjpjaa
