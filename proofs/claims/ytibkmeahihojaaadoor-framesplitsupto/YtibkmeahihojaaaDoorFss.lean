import Derived.Test.YtibkmeahihojaaaDoorTab
import Derived.Deep.QuietTactic
import Derived.BigQuiet
namespace Go.Proofs.YtibkmeahihojaaaDoor
open Go.ChangeShapes Go.WideShapes Go.ChangeAt Go.RowKit

theorem neg32_neg32 {s : Nat} (h : s < 4294967296) : neg32 (neg32 s) = s := by unfold neg32; omega
theorem ext_nil {s : Nat} (h : s < 4294967296) : ext s [] = s := by unfold ext; rw [crun_nil]; exact neg32_neg32 h
set_option maxHeartbeats 2000000 in
theorem sums_walk (l : List Int) (a : Option Addr) (c s : Nat) (w : World) (hs : s < 4294967296) (hB : BytesAt w a l) (hb : IsBytes l) (hl : l.length ≤ 281474976710656) (hT : TabAt w) :
    Calls Tryd.prog 3 #[.slice a l.length c, .int .u32 s] w fun e w' => e = .returned (.bool true) ∧ Kept (fun _ => False) w w' := by
  have LV : Hid (Calls Tryd.prog 6 #[] w fun e W => e = .returned (.bool true) ∧ Hid (Kept (fun _ => False) w W)) := (lives2_any w hT).mono fun e W q => ⟨q.1, q.2⟩
  have SL : Hid (∀ W, Hid (Kept (fun _ => False) w W) → Calls Tryd.prog 7 #[.slice (some ⟨W.heap.size, 0, none⟩) 9 9] (W.alloc (.cells #[.int .u8 49, .int .u8 50, .int .u8 51, .int .u8 52, .int .u8 53, .int .u8 54, .int .u8 55, .int .u8 56, .int .u8 57] 5 (9, 10))) fun e W' => e = .returned (.int .u32 3808858755) ∧ Hid (Kept (fun _ => False) w W')) := by
    intro W q
    have k2 := Kept.alloc W (.cells (bs nine).toArray 5 (9, 10))
    have s := sealed_any nine (some ⟨W.heap.size, 0, none⟩) 9 (W.alloc (.cells (bs nine).toArray 5 (9, 10))) (built_bytes W nine (9, 10)) nine_bytes (by rw [nine_len]; decide) ((hT.kept q.out).kept k2)
    rw [nine_seal] at s
    refine Calls.mono s ?_
    rintro e W' ⟨rfl, rfl⟩
    exact ⟨rfl, q.out.trans k2 (fun _ f => f.elim)⟩
  obtain ⟨x1, hx1⟩ : ∃ x, x = ext 0 l := ⟨_, rfl⟩
  obtain ⟨x2, hx2⟩ : ∃ x, x = sealed l := ⟨_, rfl⟩
  obtain ⟨x3, hx3⟩ : ∃ x, x = ext s l := ⟨_, rfl⟩
  have C1 : Hid (∀ W, Hid (Kept (fun _ => False) w W) → Calls Tryd.prog 8 #[.slice a l.length c] W fun e W' => e = .returned (.int .u32 x1) ∧ W' = W) := fun W q => by rw [hx1]; exact sum_any l a c W (bytes_keptF hB q.out) hb hl (hT.kept q.out)
  have C2 : Hid (∀ W, Hid (Kept (fun _ => False) w W) → Calls Tryd.prog 9 #[.slice a l.length c] W fun e W' => e = .returned (.int .u32 x1) ∧ W' = W) := fun W q => by rw [hx1]; exact rsum_any l a c W (bytes_keptF hB q.out) hb hl
  have C3 : Hid (∀ W, Hid (Kept (fun _ => False) w W) → Calls Tryd.prog 7 #[.slice a l.length c] W fun e W' => e = .returned (.int .u32 x2) ∧ W' = W) := fun W q => by rw [hx2]; exact sealed_any l a c W (bytes_keptF hB q.out) hb hl (hT.kept q.out)
  have C4 : Hid (∀ W, Hid (Kept (fun _ => False) w W) → Calls Tryd.prog 10 #[.slice a l.length c] W fun e W' => e = .returned (.int .u32 x2) ∧ W' = W) := fun W q => by rw [hx2]; exact rsealed_any l a c W (bytes_keptF hB q.out) hb hl
  have C5 : Hid (∀ W, Hid (Kept (fun _ => False) w W) → Calls Tryd.prog 11 #[.int .u32 s, .slice a l.length c] W fun e W' => e = .returned (.int .u32 x3) ∧ W' = W) := fun W q => by rw [hx3]; exact extend_any s l a c W hs (bytes_keptF hB q.out) hb hl (hT.kept q.out)
  have C6 : Hid (∀ W, Hid (Kept (fun _ => False) w W) → Calls Tryd.prog 12 #[.int .u32 s, .slice a l.length c] W fun e W' => e = .returned (.int .u32 x3) ∧ W' = W) := fun W q => by rw [hx3]; exact rextend_any s l a c W hs (bytes_keptF hB q.out) hb hl
  have C7 : Hid (∀ W, Hid (Kept (fun _ => False) w W) → Calls Tryd.prog 11 #[.int .u32 s, .slice none 0 0] W fun e W' => e = .returned (.int .u32 s) ∧ W' = W) := fun W q => by
    have h := extend_any s [] none 0 W hs (fun e => (e rfl).elim) (fun y hy => by cases hy) (by decide) (hT.kept q.out)
    rw [ext_nil hs] at h
    exact h
  have kc := fun (w : World) (C : Array Value) (n c : Nat) => Lib.run_convert_bytes_const (P := Tryd.prog) w 22 5 C n c Tryd.underlying22 Tryd.underlying5
  clear hB hb hT hx1 hx2 hx3
  go_enter Tryd.func3, Tryd.ntmps3
  go_wp2_with (first | (go_at_call 6; refine LV.out.mono ?_; rintro e W2 ⟨rfl, K2⟩) | (go_at_call 7; refine (SL.out W2 K2).mono ?_; clear SL; rintro e W3 ⟨rfl, K3⟩) | (go_at_call 8; refine (C1.out W3 K3).mono ?_; rintro e W' ⟨rfl, rfl⟩) | (go_at_call 9; refine (C2.out _ K3).mono ?_; rintro e W' ⟨rfl, rfl⟩) | (go_at_call 7; refine (C3.out _ K3).mono ?_; rintro e W' ⟨rfl, rfl⟩) | (go_at_call 10; refine (C4.out _ K3).mono ?_; rintro e W' ⟨rfl, rfl⟩) | (go_at_call 11; refine (C5.out _ K3).mono ?_; clear C5; rintro e W' ⟨rfl, rfl⟩) | (go_at_call 12; refine (C6.out _ K3).mono ?_; rintro e W' ⟨rfl, rfl⟩) | (go_at_call 11; refine (C7.out _ K3).mono ?_; rintro e W' ⟨rfl, rfl⟩))
  go_ret
  exact ⟨rfl, K3.out⟩
theorem joined_two (a b : Nat) {n m : Int} (hn : 0 ≤ n) (hm : 0 ≤ m) : joined (joined a 0 n) b m = joined a b (n + m) := by
  unfold joined
  rw [Nat.xor_zero, zeros_add, show (n + m).toNat = n.toNat + m.toNat by omega]
theorem joined_inj {a b : Nat} {n : Int} (ha : a < 4294967296) (hb : b < 4294967296) (h : joined a 0 n = joined b 0 n) : a = b := by
  unfold joined at h
  rw [Nat.xor_zero, Nat.xor_zero] at h
  exact cxn_inj pS_lt (by decide) _ ha hb h
set_option maxHeartbeats 2000000 in
theorem steps_walk (a b : Nat) (n m : Int) (w : World) (ha : a < 4294967296) (hb : b < 4294967296) (n0 : -9223372036854775808 ≤ n) (n1 : n ≤ 9223372036854775807) (m0 : -9223372036854775808 ≤ m) (m1 : m ≤ 9223372036854775807) (hT : TabAt w) :
    Calls Tryd.prog 5 #[.agg #[.int .u32 a, .int .u32 b, .int .i64 n, .int .i64 m]] w fun e w' => e = .returned (.bool true) ∧ Kept (fun _ => False) w w' := by
  have J0 : Hid (∀ W, Calls Tryd.prog 13 #[.int .u32 7, .int .u32 9, .int .i64 0] W fun e W' => e = .returned (.int .u32 14) ∧ W' = W) := fun W => join_any 7 9 0 (by decide) (by decide) (by decide) W
  have k0 := Kept.alloc w (.cells #[.int .u32 a, .int .u32 b, .int .i64 n, .int .i64 m] 31)
  have K0 := hideC k0
  have LV : Hid (∀ W, Hid (Kept (fun _ => False) w W) → Calls Tryd.prog 6 #[] W fun e W' => e = .returned (.bool true) ∧ Hid (Kept (fun _ => False) w W')) := fun W q => (lives2_any _ (hT.kept q.out)).mono fun e W' r => ⟨r.1, q.out.trans r.2 (fun _ f => f.elim)⟩
  have J1 : Hid (∀ W, Calls Tryd.prog 13 #[.int .u32 a, .int .u32 0, .int .i64 n] W fun e W' => e = .returned (.int .u32 (joined a 0 n : Nat)) ∧ W' = W) := fun W => join_any a 0 n ha (by decide) n1 W
  have J2 : Hid (∀ W, Calls Tryd.prog 13 #[.int .u32 (joined a 0 n : Nat), .int .u32 b, .int .i64 m] W fun e W' => e = .returned (.int .u32 (joined (joined a 0 n) b m : Nat)) ∧ W' = W) := fun W => join_any _ b m (joined_lt ha (by decide)) hb m1 W
  have J4 : Hid (∀ W, Calls Tryd.prog 13 #[.int .u32 b, .int .u32 0, .int .i64 n] W fun e W' => e = .returned (.int .u32 (joined b 0 n : Nat)) ∧ W' = W) := fun W => join_any b 0 n hb (by decide) n1 W
  have J1' := J1
  by_cases hr : 0 ≤ n ∧ 0 ≤ m ∧ n ≤ 4611686018427387903 ∧ m ≤ 4611686018427387903
  · obtain ⟨r1, r2, r3, r4⟩ := hr
    have J3 : Hid (∀ W, Calls Tryd.prog 13 #[.int .u32 a, .int .u32 b, .int .i64 (n + m)] W fun e W' => e = .returned (.int .u32 (joined a b (n + m) : Nat)) ∧ W' = W) := fun W => join_any a b (n + m) ha hb (by omega) W
    rw [joined_two a b r1 r2] at J2
    have hinj : a ≠ b → joined a 0 n ≠ joined b 0 n := fun h e => h (joined_inj ha hb e)
    obtain ⟨x1, hx1⟩ : ∃ x, x = joined a 0 n := ⟨_, rfl⟩
    obtain ⟨x2, hx2⟩ : ∃ x, x = joined a b (n + m) := ⟨_, rfl⟩
    obtain ⟨x3, hx3⟩ : ∃ x, x = joined b 0 n := ⟨_, rfl⟩
    rw [← hx1] at J1 J1' J2 hinj
    rw [← hx2] at J2 J3
    rw [← hx3] at J4 hinj
    clear hx1 hx2 hx3 hT k0
    by_cases hab : a = b
    · subst hab
      clear hinj J4
      go_enter Tryd.func5, Tryd.ntmps5
      go_wp2
      go_quiet (fail)
      go_wp2_with (first | (go_at_call 13; refine (J0.out _).mono ?_; clear J0; rintro e W' ⟨rfl, rfl⟩) | (go_at_call 6; refine (LV.out _ (hideC (K0.out.trans (Kept.drewN _ _) (fun _ f => f.elim)))).mono ?_; rintro e W2 ⟨rfl, K2⟩) | (go_at_call 13; refine (J1.out _).mono ?_; clear J1; rintro e W' ⟨rfl, rfl⟩) | (go_at_call 13; refine (J2.out _).mono ?_; clear J2; rintro e W' ⟨rfl, rfl⟩) | (go_at_call 13; refine (J3.out _).mono ?_; clear J3; rintro e W' ⟨rfl, rfl⟩))
      go_ret
      exact ⟨rfl, K2.out⟩
    · have hx := hinj hab
      have habI : (a : Int) ≠ b := by omega
      have hxI : (x1 : Int) ≠ x3 := by omega
      clear hinj
      go_enter Tryd.func5, Tryd.ntmps5
      go_wp2
      go_quiet (fail)
      go_wp2_with (first | (go_at_call 13; refine (J0.out _).mono ?_; clear J0; rintro e W' ⟨rfl, rfl⟩) | (go_at_call 6; refine (LV.out _ (hideC (K0.out.trans (Kept.drewN _ _) (fun _ f => f.elim)))).mono ?_; rintro e W2 ⟨rfl, K2⟩) | (go_at_call 13; refine (J1.out _).mono ?_; clear J1; rintro e W' ⟨rfl, rfl⟩) | (go_at_call 13; refine (J2.out _).mono ?_; clear J2; rintro e W' ⟨rfl, rfl⟩) | (go_at_call 13; refine (J3.out _).mono ?_; clear J3; rintro e W' ⟨rfl, rfl⟩) | (go_at_call 13; refine (J1'.out _).mono ?_; clear J1'; rintro e W' ⟨rfl, rfl⟩) | (go_at_call 13; refine (J4.out _).mono ?_; clear J4; rintro e W' ⟨rfl, rfl⟩))
      go_ret
      refine ⟨?_, K2.out⟩
      simp [hxI]
  · clear J1 J1' J2 J4 hT k0
    by_cases q1 : n < 0
    · go_enter Tryd.func5, Tryd.ntmps5
      go_wp2
      go_quiet (fail)
      go_wp2_with (first | (go_at_call 13; refine (J0.out _).mono ?_; clear J0; rintro e W' ⟨rfl, rfl⟩) | (go_at_call 6; refine (LV.out _ (hideC (K0.out.trans (Kept.drewN _ _) (fun _ f => f.elim)))).mono ?_; rintro e W2 ⟨rfl, K2⟩))
      go_ret
      exact ⟨rfl, K2.out⟩
    by_cases q2 : m < 0
    · go_enter Tryd.func5, Tryd.ntmps5
      go_wp2
      go_quiet (fail)
      go_wp2_with (first | (go_at_call 13; refine (J0.out _).mono ?_; clear J0; rintro e W' ⟨rfl, rfl⟩) | (go_at_call 6; refine (LV.out _ (hideC (K0.out.trans (Kept.drewN _ _) (fun _ f => f.elim)))).mono ?_; rintro e W2 ⟨rfl, K2⟩))
      go_ret
      exact ⟨rfl, K2.out⟩
    by_cases q3 : n > 4611686018427387903
    · go_enter Tryd.func5, Tryd.ntmps5
      go_wp2
      go_quiet (fail)
      go_wp2_with (first | (go_at_call 13; refine (J0.out _).mono ?_; clear J0; rintro e W' ⟨rfl, rfl⟩) | (go_at_call 6; refine (LV.out _ (hideC (K0.out.trans (Kept.drewN _ _) (fun _ f => f.elim)))).mono ?_; rintro e W2 ⟨rfl, K2⟩))
      go_ret
      exact ⟨rfl, K2.out⟩
    have q4 : m > 4611686018427387903 := by omega
    clear hr
    go_enter Tryd.func5, Tryd.ntmps5
    go_wp2
    go_quiet (fail)
    go_wp2_with (first | (go_at_call 13; refine (J0.out _).mono ?_; clear J0; rintro e W' ⟨rfl, rfl⟩) | (go_at_call 6; refine (LV.out _ (hideC (K0.out.trans (Kept.drewN _ _) (fun _ f => f.elim)))).mono ?_; rintro e W2 ⟨rfl, K2⟩))
    go_ret
    exact ⟨rfl, K2.out⟩
end Go.Proofs.YtibkmeahihojaaaDoor
