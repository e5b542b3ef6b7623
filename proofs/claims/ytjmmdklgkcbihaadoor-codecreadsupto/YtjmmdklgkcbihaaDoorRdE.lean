import Derived.Test.YtjmmdklgkcbihaaDoorRdD
namespace Go.Proofs.YtjmmdklgkcbihaaDoor
open Go.ChangeShapes Go.WideShapes Go.ChangeAt Go.RowKit

theorem errOf_form (a0 a1 : Addr) (er : Nat) : ∃ ad, errOf a0 a1 er = .iface 139 (.pointer (some ad)) := by
  unfold errOf errV
  split
  · exact ⟨_, rfl⟩
  · exact ⟨_, rfl⟩

set_option maxRecDepth 20000 in
theorem upat_ok (l : List Int) (a : Option Addr) (cp p x k : Nat) (most : Int) (a0 a1 : Addr) (w : World) (h : BytesAt w a l) (hB : IsBytes l) (hp : p ≤ l.length) (hl : l.length ≤ 4611686018427387904)
    (g0 : w.cell? ⟨1, 0, none⟩ = some (errV a0)) (g1 : w.cell? ⟨3, 0, none⟩ = some (errV a1)) (hr : rdu 0 0 (l.drop p) = .ok (x, k)) (hm : (x : Int) ≤ most) (hm2 : most ≤ 9223372036854775807) :
    Calls Tryd.prog 80 #[.slice a l.length cp, .int .i64 p, .int .i64 most] w fun e w' => e = .returned (.tuple #[.int .i64 x, .int .i64 ((p : Int) + k), .nilIface]) ∧ ∃ n, w' = w.drewN n := by
  have c1 : Calls Tryd.prog 64 #[.slice a l.length cp, .int .i64 p] w fun e w' => e = .returned (.tuple #[.int .u64 x, .int .i64 ((p : Int) + k), .nilIface]) ∧ ∃ m, w' = w.drewN m := by
    refine (uvat_any l a cp p (errV a0) (errV a1) w h hB hp hl g0 g1).mono ?_
    rintro e w' ⟨rfl, m, rfl⟩
    refine ⟨?_, m, rfl⟩
    rw [hr]
    simp [uvRes]
  have C1 := hide c1
  clear h hB g0 g1 hr c1
  go_enter Tryd.func80, Tryd.ntmps80
  go_wp2_with (go_at_call 64; refine C1.out.mono ?_; rintro e w1 ⟨rfl, n, rfl⟩)
  go_ret3
  exact ⟨rfl, n, rfl⟩
set_option maxRecDepth 20000 in
theorem upat_lim (l : List Int) (a : Option Addr) (cp p x k : Nat) (most : Int) (a0 a1 a2 : Addr) (w : World) (h : BytesAt w a l) (hB : IsBytes l) (hp : p ≤ l.length) (hl : l.length ≤ 4611686018427387904)
    (g0 : w.cell? ⟨1, 0, none⟩ = some (errV a0)) (g1 : w.cell? ⟨3, 0, none⟩ = some (errV a1)) (g2 : w.cell? ⟨4, 0, none⟩ = some (errV a2)) (hr : rdu 0 0 (l.drop p) = .ok (x, k)) (hm : most < (x : Int)) (hm2 : most ≤ 9223372036854775807) :
    Calls Tryd.prog 80 #[.slice a l.length cp, .int .i64 p, .int .i64 most] w fun e w' => e = .returned (.tuple #[.int .i64 0, .int .i64 0, errV a2]) ∧ ∃ n, w' = w.drewN n := by
  have hx := rdu_lt (l.drop p) 0 0 x k (by omega) (by decide) (fun y hy => hB y (List.mem_of_mem_drop hy)) hr
  have c1 : Calls Tryd.prog 64 #[.slice a l.length cp, .int .i64 p] w fun e w' => e = .returned (.tuple #[.int .u64 x, .int .i64 ((p : Int) + k), .nilIface]) ∧ ∃ m, w' = w.drewN m := by
    refine (uvat_any l a cp p (errV a0) (errV a1) w h hB hp hl g0 g1).mono ?_
    rintro e w' ⟨rfl, m, rfl⟩
    refine ⟨?_, m, rfl⟩
    rw [hr]
    simp [uvRes]
  have C1 := hide c1
  clear h hB g0 g1 hr c1
  by_cases hneg : most < 0
  · go_enter Tryd.func80, Tryd.ntmps80
    go_wp2_with (go_at_call 64; refine C1.out.mono ?_; rintro e w1 ⟨rfl, n, rfl⟩)
    go_quiet (fail)
    go_wp2
    go_ret3
    exact ⟨rfl, n + nq, by first | rfl | rw [World.drewN_drewN]⟩
  · obtain ⟨mo, rfl⟩ : ∃ mo : Nat, most = mo := ⟨most.toNat, by omega⟩
    go_enter Tryd.func80, Tryd.ntmps80
    go_wp2_with (go_at_call 64; refine C1.out.mono ?_; rintro e w1 ⟨rfl, n, rfl⟩)
    go_quiet (fail)
    go_wp2
    go_ret3
    exact ⟨rfl, n + nq, by first | rfl | rw [World.drewN_drewN]⟩
set_option maxRecDepth 20000 in
theorem upat_err (l : List Int) (a : Option Addr) (cp p er : Nat) (most : Int) (a0 a1 : Addr) (w : World) (h : BytesAt w a l) (hB : IsBytes l) (hp : p ≤ l.length) (hl : l.length ≤ 4611686018427387904)
    (g0 : w.cell? ⟨1, 0, none⟩ = some (errV a0)) (g1 : w.cell? ⟨3, 0, none⟩ = some (errV a1)) (hr : rdu 0 0 (l.drop p) = .error er) :
    Calls Tryd.prog 80 #[.slice a l.length cp, .int .i64 p, .int .i64 most] w fun e w' => e = .returned (.tuple #[.int .i64 0, .int .i64 0, errOf a0 a1 er]) ∧ ∃ n, w' = w.drewN n := by
  obtain ⟨ad, had⟩ := errOf_form a0 a1 er
  have c1 : Calls Tryd.prog 64 #[.slice a l.length cp, .int .i64 p] w fun e w' => e = .returned (.tuple #[.int .u64 0, .int .i64 0, .iface 139 (.pointer (some ad))]) ∧ ∃ m, w' = w.drewN m := by
    refine (uvat_any l a cp p (errV a0) (errV a1) w h hB hp hl g0 g1).mono ?_
    rintro e w' ⟨rfl, m, rfl⟩
    refine ⟨?_, m, rfl⟩
    rw [hr, ← had]
    cases er with
    | zero => rfl
    | succ k => rfl
  have C1 := hide c1
  rw [had]
  clear h hB g0 g1 hr c1 had
  go_enter Tryd.func80, Tryd.ntmps80
  go_wp2_with (go_at_call 64; refine C1.out.mono ?_; rintro e w1 ⟨rfl, n, rfl⟩)
  go_ret3
  exact ⟨rfl, n, rfl⟩

/-- What the three ways of uptoAt come to, for its callers: a number and the place behind it, or an error. -/
inductive UpRes (l : List Int) (p : Nat) (most : Int) (a0 a1 a2 : Addr) : Nat → Nat → Value → Prop
  | ok {x k : Nat} (hr : rdu 0 0 (l.drop p) = .ok (x, k)) (hm : (x : Int) ≤ most) : UpRes l p most a0 a1 a2 x (p + k) .nilIface
  | lim {x k : Nat} (hr : rdu 0 0 (l.drop p) = .ok (x, k)) (hm : most < (x : Int)) : UpRes l p most a0 a1 a2 0 0 (errV a2)
  | err {er : Nat} (hr : rdu 0 0 (l.drop p) = .error er) : UpRes l p most a0 a1 a2 0 0 (errOf a0 a1 er)
theorem upat_any (l : List Int) (a : Option Addr) (cp p : Nat) (most : Int) (a0 a1 a2 : Addr) (hB : IsBytes l) (hp : p ≤ l.length) (hl : l.length ≤ 4611686018427387904) (hm2 : most ≤ 9223372036854775807) :
    ∃ x q E, UpRes l p most a0 a1 a2 x q E ∧ ∀ w, BytesAt w a l → w.cell? ⟨1, 0, none⟩ = some (errV a0) → w.cell? ⟨3, 0, none⟩ = some (errV a1) → w.cell? ⟨4, 0, none⟩ = some (errV a2) →
      Calls Tryd.prog 80 #[.slice a l.length cp, .int .i64 p, .int .i64 most] w fun e w' => e = .returned (.tuple #[.int .i64 x, .int .i64 q, E]) ∧ ∃ n, w' = w.drewN n := by
  cases hr : rdu 0 0 (l.drop p) with
  | error er => exact ⟨0, 0, _, .err hr, fun w h g0 g1 _ => upat_err l a cp p er most a0 a1 w h hB hp hl g0 g1 hr⟩
  | ok xk =>
    obtain ⟨x, k⟩ := xk
    by_cases hm : (x : Int) ≤ most
    · exact ⟨x, p + k, _, .ok hr hm, fun w h g0 g1 _ => by
        have q := upat_ok l a cp p x k most a0 a1 w h hB hp hl g0 g1 hr hm hm2
        have e : (p : Int) + k = ((p + k : Nat) : Int) := by omega
        rw [e] at q
        exact q⟩
    · exact ⟨0, 0, _, .lim hr (by omega), fun w h g0 g1 g2 => upat_lim l a cp p x k most a0 a1 a2 w h hB hp hl g0 g1 g2 hr (by omega) hm2⟩
end Go.Proofs.YtjmmdklgkcbihaaDoor
