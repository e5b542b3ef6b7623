import Derived.Test.YtikdokfkfioeeaaWalks1
import Derived.SizedLaws
namespace Go.Proofs.Ytikdokfkfioeeaa
open Go.ChangeShapes Go.WideShapes Go.ChangeAt Go.RowKit


theorem own : ownKnob Try.prog.godebug = none := by kernel_rfl

theorem slice_of_owns {w : World} {b e z n : Nat} {u : Value} {xs : List Value} (h : w.ownsRow b e z u n xs) : ∃ a c, u = .slice a n c := by
  obtain ⟨_, ⟨rfl, rfl⟩ | ⟨g, cap, cur, rfl, _⟩⟩ := h
  · exact ⟨_, _, rfl⟩
  · exact ⟨_, _, rfl⟩
theorem uv_len (x : Int) (w : World) (h0 : 0 ≤ x) (h1 : x ≤ 18446744073709551615) :
    Calls Try.prog 10 #[.int .u64 x] w fun e w' => ∃ a c, e = .returned (.slice a (ulen x.toNat) c) ∧ Below w.heap.size w w' := by
  obtain ⟨n, rfl⟩ : ∃ n : Nat, x = n := ⟨x.toNat, by omega⟩
  refine (uv_any n w (by omega)).mono ?_
  rintro e w' ⟨u, rfl, hown, hb⟩
  obtain ⟨a, c, rfl⟩ := slice_of_owns hown
  exact ⟨a, c, rfl, hb⟩
theorem rvar_len (v : Int) (w : World) (h0 : -9223372036854775808 ≤ v) (h1 : v ≤ 9223372036854775807) :
    Calls Try.prog 11 #[.int .i64 v] w fun e w' => ∃ a c, e = .returned (.slice a (ulen (zig v).toNat) c) ∧ Below w.heap.size w w' := by
  have hz := zig_bd v h0 h1
  go_enter Try.func11, Try.ntmps11
  go_wp2_with (first
    | (go_at_call 8; refine (rzig_any _ _ h0 h1).mono ?_; rintro e w' ⟨rfl, rfl⟩)
    | (go_at_call 10; refine (uv_len _ _ hz.1 hz.2).mono ?_; rintro e w' ⟨a, c, rfl, hb⟩))
  go_ret
  exact ⟨_, _, rfl, by assumption⟩

set_option maxRecDepth 20000 in
set_option maxHeartbeats 1000000 in
theorem walk (a0 : Int) (a1 : Int) (w0 : -9223372036854775808 ≤ a0) (w0' : a0 ≤ 9223372036854775807) (w1 : 0 ≤ a1) (w1' : a1 ≤ 18446744073709551615) (w : World) :
    Calls Try.prog 3 #[.int .i64 a0, .int .u64 a1] w fun e w' => e = .returned (.bool true) ∧ Below w.heap.size w w' := by
  have hz := zig_bd a0 w0 w0'
  have hx := zag_bd a1 w1 w1'
  have e1 := zag_zig a0
  have e2 := zig_zag a1 w1
  have e3 : zig (-2) = 3 := by decide
  have e4 : ulen 128 = 2 := by rw [ulen_big (by decide), ulen_small (by decide)]
  go_enter Try.func3, Try.ntmps3
  go_wp2_with (first
    | (go_at_call 5; refine (zig_any _ _ ?_ ?_).mono ?_; rotate_right; rintro e w' ⟨rfl, rfl⟩)
    | (go_at_call 6; refine (ulen_any _ _ ?_ ?_).mono ?_; rotate_right; rintro e w' ⟨rfl, rfl⟩)
    | (go_at_call 7; refine (zag_any _ _ ?_ ?_).mono ?_; rotate_right; rintro e w' ⟨rfl, rfl⟩)
    | (go_at_call 8; refine (rzig_any _ _ ?_ ?_).mono ?_; rotate_right; rintro e w' ⟨rfl, rfl⟩)
    | (go_at_call 9; refine (rzag_any _ _ ?_ ?_).mono ?_; rotate_right; rintro e w' ⟨rfl, rfl⟩)
    | (go_at_call 10; refine (uv_len _ _ ?_ ?_).mono ?_; rotate_right; rintro e w1 ⟨a, c, rfl, hb1⟩)
    | (go_at_call 11; refine (rvar_len _ _ ?_ ?_).mono ?_; rotate_right; rintro e w2 ⟨a2, c2, rfl, hb2⟩))
  all_goals first
    | omega
    | (go_ret; exact ⟨rfl, hb1.trans (hb2.mono hb1.size)⟩)

set_option maxRecDepth 100000 in
theorem lifted (os : Os) (started : os.Started) (H : Type) (enc : TypeId × Value → H) :
    ReturnsInHanded {} Try.checked os 3 .any (Rows.codecZigsSpec.pre6 enc Try.prog Try.f3 Rows.codecZigsRow.domain false) (Rows.codecZigsSpec.post enc Try.prog Try.f3 false true false false) := by
  refine returnsInHanded_of_change (C := Try.checked) own started (by kernel_rfl) Try.func3
    (ChangeSpec.witness6 (enc := enc) (C := Try.checked) false ⟨#[], #[.int .i64 0, .int .u64 0], []⟩ 8 (by kernel_rfl) (by kernel_rfl) (by kernel_rfl) (by kernel_rfl)) ?_
  intro W base args ds gs before hval0 hW hcnd _
  have hval : ∀ (j : Nat) t v, Try.f3.params[j]? = some t → args[j]? = some v → Value.okWide Try.prog W .any base t v := hval0
  have hW' := hW
  obtain ⟨p, q, hA0, hV, rfl, hfz, hnd⟩ := hW
  have hA : DataW.TrodAll enc Try.prog W 0 (fun _ => true) true Try.f3.params.toList args.toList ds p := hA0
  rw [Try.params3] at hA hval
  obtain ⟨v0, vs0, d0, ds0, p0, q0, hargs, rfl, rfl, h0, r0⟩ := trodAll_cons hA
  obtain ⟨v1, vs1, d1, ds1, p1, q1, rfl, rfl, rfl, h1, r1⟩ := trodAll_cons r0
  obtain ⟨rfl, rfl, rfl⟩ := trodAll_nil r1
  obtain rfl : args = #[v0, v1] := by cases args; simp_all
  obtain ⟨rfl, rfl⟩ := trodVars_none hV
  obtain ⟨a0, rfl, rfl, rfl, w0⟩ := open_int Try.underlying2 (hval 0 2 v0 rfl rfl) h0
  obtain ⟨a1, rfl, rfl, rfl, w1⟩ := open_int Try.underlying22 (hval 1 22 v1 rfl rfl) h1
  clear hA0 hval0
  simp only [List.append_nil] at hW'
  have b0 := bounds_i64 w0
  have b1 := bounds_u64 w1
  refine (walk a0 a1 b0.1 b0.2 b1.1 b1.2 W).mono fun e W' ⟨he, bel⟩ => ?_
  subst he
  exact ⟨_, rfl, _, _, _, [], [], [], hW', trodAll_cons_mk (shut_bool Try.underlying4 _) trodAll_mk0, (trodAll_cons_mk (shut_int Try.underlying2 w0) (trodAll_cons_mk (shut_int Try.underlying22 w1) trodAll_mk0)), rfl, bel.frame _, fun h => by cases h⟩

theorem over : Rows.codecZigsRow.holds Try.pinned (OpenSpec.ofChange Rows.codecZigsSpec) :=
  OpenClaim.holds_of_wide 3 Try.f3 rfl rfl rfl rfl rfl rfl rfl ⟨rfl, rfl, rfl, rfl, rfl⟩ rfl rfl rfl rfl rfl (by kernel_rfl) Try.func3 (by kernel_rfl)
    (of_decide_eq_true (by kernel_rfl)) (by unfold Func.isWrapper; first | (rw [if_pos (by decide +kernel)]; kernel_rfl) | (rw [if_neg (by decide +kernel)]; exact ⟨rfl, rfl⟩))
    (fun os started H enc _ => lifted os started H enc)

theorem codecZigs_holds : Rows.CodecZigsSaid :=
  over
#print axioms codecZigs_holds
end Go.Proofs.Ytikdokfkfioeeaa
