import Derived.Test.YtbcohdioapmlgaaDoorLwJ
namespace Go.Proofs.YtbcohdioapmlgaaDoor
open Go.ChangeShapes Go.WideShapes Go.ChangeAt Go.RowKit

/-- What a call of the Reader answers beside its value. -/
def erV (ok : Bool) (ad : Addr) : Value := if ok = true then .nilIface else .iface 100 (.pointer (some ad))
set_option maxRecDepth 20000 in
set_option maxHeartbeats 1000000 in
theorem agw_1 (br bw : Nat) (sec : Bool) (nn uu ii : Int) (bv : Value) (s : ByteArray) (lv : Value) (x : Int) (ok : Bool) (ad : Addr) (w : World) (P : World → Prop) (Q : World → Prop)
    (CR : Hid (Calls Tryd.prog 27 #[.pointer (some ⟨br, 0, none⟩)] (w.alloc (opB 1 sec nn uu ii bv s lv)) fun e w1 => e = .returned (.tuple #[.int .u8 x, erV ok ad]) ∧ Hid (P w1)))
    (CW : Hid (∀ w1, Hid (P w1) → Calls Tryd.prog 28 #[.pointer (some ⟨bw, 0, none⟩), .int .u8 x] w1 fun e w2 => e = .returned (.tuple #[]) ∧ Hid (Q w2))) :
    Calls Tryd.prog 8 #[.pointer (some ⟨br, 0, none⟩), .pointer (some ⟨bw, 0, none⟩), .agg #[.int .i64 1, .bool sec, .int .i64 nn, .int .u64 uu, .int .i64 ii, bv, .string s, lv]] w fun e w' => e = .returned (.bool ok) ∧ Q w' := by
  cases ok
  · have e0 : erV false ad = .iface 100 (.pointer (some ad)) := rfl
    rw [e0] at CR
    clear e0
    go_enter Tryd.func8, Tryd.ntmps8
    go_wp2_with (first | (go_at_call 27; refine CR.out.mono ?_; rintro e w1 ⟨rfl, q1⟩) | (go_at_call 28; refine (CW.out w1 q1).mono ?_; rintro e w2 ⟨rfl, q2⟩))
    go_ret
    exact ⟨rfl, q2.out⟩
  · have e0 : erV true ad = .nilIface := rfl
    rw [e0] at CR
    clear e0
    go_enter Tryd.func8, Tryd.ntmps8
    go_wp2_with (first | (go_at_call 27; refine CR.out.mono ?_; rintro e w1 ⟨rfl, q1⟩) | (go_at_call 28; refine (CW.out w1 q1).mono ?_; rintro e w2 ⟨rfl, q2⟩))
    go_ret
    exact ⟨rfl, q2.out⟩
set_option maxRecDepth 20000 in
set_option maxHeartbeats 1000000 in
theorem agw_2 (br bw : Nat) (sec : Bool) (nn uu ii : Int) (bv : Value) (s : ByteArray) (lv : Value) (x : Nat) (hx : x < 18446744073709551616) (ok : Bool) (ad : Addr) (w : World) (P : World → Prop) (Q : World → Prop)
    (CR : Hid (Calls Tryd.prog 25 #[.pointer (some ⟨br, 0, none⟩)] (w.alloc (opB 2 sec nn uu ii bv s lv)) fun e w1 => e = .returned (.tuple #[.int .u64 x, erV ok ad]) ∧ Hid (P w1)))
    (CW : Hid (∀ w1, Hid (P w1) → Calls Tryd.prog 23 #[.pointer (some ⟨bw, 0, none⟩), .int .u64 x] w1 fun e w2 => e = .returned (.tuple #[]) ∧ Hid (Q w2))) :
    Calls Tryd.prog 8 #[.pointer (some ⟨br, 0, none⟩), .pointer (some ⟨bw, 0, none⟩), .agg #[.int .i64 2, .bool sec, .int .i64 nn, .int .u64 uu, .int .i64 ii, bv, .string s, lv]] w fun e w' => e = .returned (.bool ok) ∧ Q w' := by
  have _ := hx
  cases ok
  · have e0 : erV false ad = .iface 100 (.pointer (some ad)) := rfl
    rw [e0] at CR
    clear e0
    go_enter Tryd.func8, Tryd.ntmps8
    go_wp2_with (first | (go_at_call 25; refine CR.out.mono ?_; rintro e w1 ⟨rfl, q1⟩) | (go_at_call 23; refine (CW.out w1 q1).mono ?_; rintro e w2 ⟨rfl, q2⟩))
    go_ret
    exact ⟨rfl, q2.out⟩
  · have e0 : erV true ad = .nilIface := rfl
    rw [e0] at CR
    clear e0
    go_enter Tryd.func8, Tryd.ntmps8
    go_wp2_with (first | (go_at_call 25; refine CR.out.mono ?_; rintro e w1 ⟨rfl, q1⟩) | (go_at_call 23; refine (CW.out w1 q1).mono ?_; rintro e w2 ⟨rfl, q2⟩))
    go_ret
    exact ⟨rfl, q2.out⟩
set_option maxRecDepth 20000 in
set_option maxHeartbeats 1000000 in
theorem agw_3 (br bw : Nat) (sec : Bool) (nn uu ii : Int) (bv : Value) (s : ByteArray) (lv : Value) (x : Int) (ok : Bool) (ad : Addr) (w : World) (P : World → Prop) (Q : World → Prop)
    (CR : Hid (Calls Tryd.prog 29 #[.pointer (some ⟨br, 0, none⟩)] (w.alloc (opB 3 sec nn uu ii bv s lv)) fun e w1 => e = .returned (.tuple #[.int .i64 x, erV ok ad]) ∧ Hid (P w1)))
    (CW : Hid (∀ w1, Hid (P w1) → Calls Tryd.prog 30 #[.pointer (some ⟨bw, 0, none⟩), .int .i64 x] w1 fun e w2 => e = .returned (.tuple #[]) ∧ Hid (Q w2))) :
    Calls Tryd.prog 8 #[.pointer (some ⟨br, 0, none⟩), .pointer (some ⟨bw, 0, none⟩), .agg #[.int .i64 3, .bool sec, .int .i64 nn, .int .u64 uu, .int .i64 ii, bv, .string s, lv]] w fun e w' => e = .returned (.bool ok) ∧ Q w' := by
  cases ok
  · have e0 : erV false ad = .iface 100 (.pointer (some ad)) := rfl
    rw [e0] at CR
    clear e0
    go_enter Tryd.func8, Tryd.ntmps8
    go_wp2_with (first | (go_at_call 29; refine CR.out.mono ?_; rintro e w1 ⟨rfl, q1⟩) | (go_at_call 30; refine (CW.out w1 q1).mono ?_; rintro e w2 ⟨rfl, q2⟩))
    go_ret
    exact ⟨rfl, q2.out⟩
  · have e0 : erV true ad = .nilIface := rfl
    rw [e0] at CR
    clear e0
    go_enter Tryd.func8, Tryd.ntmps8
    go_wp2_with (first | (go_at_call 29; refine CR.out.mono ?_; rintro e w1 ⟨rfl, q1⟩) | (go_at_call 30; refine (CW.out w1 q1).mono ?_; rintro e w2 ⟨rfl, q2⟩))
    go_ret
    exact ⟨rfl, q2.out⟩
set_option maxRecDepth 20000 in
set_option maxHeartbeats 1000000 in
theorem agw_4 (br bw : Nat) (sec : Bool) (nn uu ii : Int) (bv : Value) (s : ByteArray) (lv : Value) (x : Nat) (ok : Bool) (ad : Addr) (w : World) (P : World → Prop) (Q : World → Prop)
    (CR : Hid (Calls Tryd.prog 32 #[.pointer (some ⟨br, 0, none⟩)] (w.alloc (opB 4 sec nn uu ii bv s lv)) fun e w1 => e = .returned (.tuple #[.int .u32 x, erV ok ad]) ∧ Hid (P w1)))
    (CW : Hid (∀ w1, Hid (P w1) → Calls Tryd.prog 33 #[.pointer (some ⟨bw, 0, none⟩), .int .u32 x] w1 fun e w2 => e = .returned (.tuple #[]) ∧ Hid (Q w2))) :
    Calls Tryd.prog 8 #[.pointer (some ⟨br, 0, none⟩), .pointer (some ⟨bw, 0, none⟩), .agg #[.int .i64 4, .bool sec, .int .i64 nn, .int .u64 uu, .int .i64 ii, bv, .string s, lv]] w fun e w' => e = .returned (.bool ok) ∧ Q w' := by
  cases ok
  · have e0 : erV false ad = .iface 100 (.pointer (some ad)) := rfl
    rw [e0] at CR
    clear e0
    go_enter Tryd.func8, Tryd.ntmps8
    go_wp2_with (first | (go_at_call 32; refine CR.out.mono ?_; rintro e w1 ⟨rfl, q1⟩) | (go_at_call 33; refine (CW.out w1 q1).mono ?_; rintro e w2 ⟨rfl, q2⟩))
    go_ret
    exact ⟨rfl, q2.out⟩
  · have e0 : erV true ad = .nilIface := rfl
    rw [e0] at CR
    clear e0
    go_enter Tryd.func8, Tryd.ntmps8
    go_wp2_with (first | (go_at_call 32; refine CR.out.mono ?_; rintro e w1 ⟨rfl, q1⟩) | (go_at_call 33; refine (CW.out w1 q1).mono ?_; rintro e w2 ⟨rfl, q2⟩))
    go_ret
    exact ⟨rfl, q2.out⟩
set_option maxRecDepth 20000 in
set_option maxHeartbeats 1000000 in
theorem agw_5 (br bw : Nat) (sec : Bool) (nn uu ii : Int) (bv : Value) (s : ByteArray) (lv : Value) (x : Nat) (ok : Bool) (ad : Addr) (w : World) (P : World → Prop) (Q : World → Prop)
    (CR : Hid (Calls Tryd.prog 34 #[.pointer (some ⟨br, 0, none⟩)] (w.alloc (opB 5 sec nn uu ii bv s lv)) fun e w1 => e = .returned (.tuple #[.int .u64 x, erV ok ad]) ∧ Hid (P w1)))
    (CW : Hid (∀ w1, Hid (P w1) → Calls Tryd.prog 35 #[.pointer (some ⟨bw, 0, none⟩), .int .u64 x] w1 fun e w2 => e = .returned (.tuple #[]) ∧ Hid (Q w2))) :
    Calls Tryd.prog 8 #[.pointer (some ⟨br, 0, none⟩), .pointer (some ⟨bw, 0, none⟩), .agg #[.int .i64 5, .bool sec, .int .i64 nn, .int .u64 uu, .int .i64 ii, bv, .string s, lv]] w fun e w' => e = .returned (.bool ok) ∧ Q w' := by
  cases ok
  · have e0 : erV false ad = .iface 100 (.pointer (some ad)) := rfl
    rw [e0] at CR
    clear e0
    go_enter Tryd.func8, Tryd.ntmps8
    go_wp2_with (first | (go_at_call 34; refine CR.out.mono ?_; rintro e w1 ⟨rfl, q1⟩) | (go_at_call 35; refine (CW.out w1 q1).mono ?_; rintro e w2 ⟨rfl, q2⟩))
    go_ret
    exact ⟨rfl, q2.out⟩
  · have e0 : erV true ad = .nilIface := rfl
    rw [e0] at CR
    clear e0
    go_enter Tryd.func8, Tryd.ntmps8
    go_wp2_with (first | (go_at_call 34; refine CR.out.mono ?_; rintro e w1 ⟨rfl, q1⟩) | (go_at_call 35; refine (CW.out w1 q1).mono ?_; rintro e w2 ⟨rfl, q2⟩))
    go_ret
    exact ⟨rfl, q2.out⟩
set_option maxRecDepth 20000 in
set_option maxHeartbeats 1000000 in
theorem agw_6 (br bw : Nat) (sec : Bool) (nn uu ii : Int) (bv : Value) (s : ByteArray) (lv : Value)  (ok : Bool) (ad : Addr) (w : World) (P : Option Addr → Nat → Nat → World → Prop) (Q : World → Prop)
    (CR : Hid (Calls Tryd.prog 18 #[.pointer (some ⟨br, 0, none⟩), .int .i64 nn] (w.alloc (opB 6 sec nn uu ii bv s lv)) fun e w1 => ∃ a n c, e = .returned (.tuple #[.slice a n c, erV ok ad]) ∧ Hid (P a n c w1)))
    (CW : Hid (∀ w1 a n c, Hid (P a n c w1) → Calls Tryd.prog 14 #[.pointer (some ⟨bw, 0, none⟩), .slice a n c] w1 fun e w2 => e = .returned (.tuple #[]) ∧ Hid (Q w2))) :
    Calls Tryd.prog 8 #[.pointer (some ⟨br, 0, none⟩), .pointer (some ⟨bw, 0, none⟩), .agg #[.int .i64 6, .bool sec, .int .i64 nn, .int .u64 uu, .int .i64 ii, bv, .string s, lv]] w fun e w' => e = .returned (.bool ok) ∧ Q w' := by
  cases ok
  · have e0 : erV false ad = .iface 100 (.pointer (some ad)) := rfl
    rw [e0] at CR
    clear e0
    go_enter Tryd.func8, Tryd.ntmps8
    go_wp2_with (first | (go_at_call 18; refine CR.out.mono ?_; rintro e w1 ⟨a, n, c, rfl, q1⟩) | (go_at_call 14; refine (CW.out w1 _ _ _ q1).mono ?_; rintro e w2 ⟨rfl, q2⟩))
    go_ret
    exact ⟨rfl, q2.out⟩
  · have e0 : erV true ad = .nilIface := rfl
    rw [e0] at CR
    clear e0
    go_enter Tryd.func8, Tryd.ntmps8
    go_wp2_with (first | (go_at_call 18; refine CR.out.mono ?_; rintro e w1 ⟨a, n, c, rfl, q1⟩) | (go_at_call 14; refine (CW.out w1 _ _ _ q1).mono ?_; rintro e w2 ⟨rfl, q2⟩))
    go_ret
    exact ⟨rfl, q2.out⟩
set_option maxRecDepth 20000 in
set_option maxHeartbeats 1000000 in
theorem agw_7 (br bw : Nat) (sec : Bool) (nn uu ii : Int) (bv : Value) (s : ByteArray) (lv : Value) (x : ByteArray) (ok : Bool) (ad : Addr) (w : World) (P : World → Prop) (Q : World → Prop)
    (CR : Hid (Calls Tryd.prog 36 #[.pointer (some ⟨br, 0, none⟩), .int .i64 nn] (w.alloc (opB 7 sec nn uu ii bv s lv)) fun e w1 => e = .returned (.tuple #[.string x, erV ok ad]) ∧ Hid (P w1)))
    (CW : Hid (∀ w1, Hid (P w1) → Calls Tryd.prog 37 #[.pointer (some ⟨bw, 0, none⟩), .string x] w1 fun e w2 => e = .returned (.tuple #[]) ∧ Hid (Q w2))) :
    Calls Tryd.prog 8 #[.pointer (some ⟨br, 0, none⟩), .pointer (some ⟨bw, 0, none⟩), .agg #[.int .i64 7, .bool sec, .int .i64 nn, .int .u64 uu, .int .i64 ii, bv, .string s, lv]] w fun e w' => e = .returned (.bool ok) ∧ Q w' := by
  cases ok
  · have e0 : erV false ad = .iface 100 (.pointer (some ad)) := rfl
    rw [e0] at CR
    clear e0
    go_enter Tryd.func8, Tryd.ntmps8
    go_wp2_with (first | (go_at_call 36; refine CR.out.mono ?_; rintro e w1 ⟨rfl, q1⟩) | (go_at_call 37; refine (CW.out w1 q1).mono ?_; rintro e w2 ⟨rfl, q2⟩))
    go_ret
    exact ⟨rfl, q2.out⟩
  · have e0 : erV true ad = .nilIface := rfl
    rw [e0] at CR
    clear e0
    go_enter Tryd.func8, Tryd.ntmps8
    go_wp2_with (first | (go_at_call 36; refine CR.out.mono ?_; rintro e w1 ⟨rfl, q1⟩) | (go_at_call 37; refine (CW.out w1 q1).mono ?_; rintro e w2 ⟨rfl, q2⟩))
    go_ret
    exact ⟨rfl, q2.out⟩
set_option maxRecDepth 20000 in
set_option maxHeartbeats 1000000 in
theorem agw_8 (br bw : Nat) (sec : Bool) (nn uu ii : Int) (bv : Value) (s : ByteArray) (lv : Value)  (ok : Bool) (ad : Addr) (w : World) (P : Option Addr → Nat → Nat → World → Prop) (Q : World → Prop)
    (CR : Hid (Calls Tryd.prog 16 #[.pointer (some ⟨br, 0, none⟩), .int .i64 nn] (w.alloc (opB 8 sec nn uu ii bv s lv)) fun e w1 => ∃ a n c, e = .returned (.tuple #[.slice a n c, erV ok ad]) ∧ Hid (P a n c w1)))
    (CW : Hid (∀ w1 a n c, Hid (P a n c w1) → Calls Tryd.prog 12 #[.pointer (some ⟨bw, 0, none⟩), .slice a n c] w1 fun e w2 => e = .returned (.nilIface) ∧ Hid (Q w2))) :
    Calls Tryd.prog 8 #[.pointer (some ⟨br, 0, none⟩), .pointer (some ⟨bw, 0, none⟩), .agg #[.int .i64 8, .bool sec, .int .i64 nn, .int .u64 uu, .int .i64 ii, bv, .string s, lv]] w fun e w' => e = .returned (.bool ok) ∧ Q w' := by
  cases ok
  · have e0 : erV false ad = .iface 100 (.pointer (some ad)) := rfl
    rw [e0] at CR
    clear e0
    go_enter Tryd.func8, Tryd.ntmps8
    go_wp2_with (first | (go_at_call 16; refine CR.out.mono ?_; rintro e w1 ⟨a, n, c, rfl, q1⟩) | (go_at_call 12; refine (CW.out w1 _ _ _ q1).mono ?_; rintro e w2 ⟨rfl, q2⟩))
    go_ret
    exact ⟨rfl, q2.out⟩
  · have e0 : erV true ad = .nilIface := rfl
    rw [e0] at CR
    clear e0
    go_enter Tryd.func8, Tryd.ntmps8
    go_wp2_with (first | (go_at_call 16; refine CR.out.mono ?_; rintro e w1 ⟨a, n, c, rfl, q1⟩) | (go_at_call 12; refine (CW.out w1 _ _ _ q1).mono ?_; rintro e w2 ⟨rfl, q2⟩))
    go_ret
    exact ⟨rfl, q2.out⟩
set_option maxRecDepth 20000 in
set_option maxHeartbeats 1000000 in
theorem agw_9 (br bw : Nat) (sec : Bool) (nn uu ii : Int) (bv : Value) (s : ByteArray) (lv : Value)  (ok : Bool) (ad : Addr) (w : World) (P : Option Addr → Nat → Nat → World → Prop) (Q : World → Prop)
    (CR : Hid (Calls Tryd.prog 17 #[.pointer (some ⟨br, 0, none⟩), .int .i64 nn] (w.alloc (opB 9 sec nn uu ii bv s lv)) fun e w1 => ∃ a n c, e = .returned (.tuple #[.slice a n c, erV ok ad]) ∧ Hid (P a n c w1)))
    (CW : Hid (∀ w1 a n c, Hid (P a n c w1) → Calls Tryd.prog 13 #[.pointer (some ⟨bw, 0, none⟩), .slice a n c] w1 fun e w2 => e = .returned (.nilIface) ∧ Hid (Q w2))) :
    Calls Tryd.prog 8 #[.pointer (some ⟨br, 0, none⟩), .pointer (some ⟨bw, 0, none⟩), .agg #[.int .i64 9, .bool sec, .int .i64 nn, .int .u64 uu, .int .i64 ii, bv, .string s, lv]] w fun e w' => e = .returned (.bool ok) ∧ Q w' := by
  cases ok
  · have e0 : erV false ad = .iface 100 (.pointer (some ad)) := rfl
    rw [e0] at CR
    clear e0
    go_enter Tryd.func8, Tryd.ntmps8
    go_wp2_with (first | (go_at_call 17; refine CR.out.mono ?_; rintro e w1 ⟨a, n, c, rfl, q1⟩) | (go_at_call 13; refine (CW.out w1 _ _ _ q1).mono ?_; rintro e w2 ⟨rfl, q2⟩))
    go_ret
    exact ⟨rfl, q2.out⟩
  · have e0 : erV true ad = .nilIface := rfl
    rw [e0] at CR
    clear e0
    go_enter Tryd.func8, Tryd.ntmps8
    go_wp2_with (first | (go_at_call 17; refine CR.out.mono ?_; rintro e w1 ⟨a, n, c, rfl, q1⟩) | (go_at_call 13; refine (CW.out w1 _ _ _ q1).mono ?_; rintro e w2 ⟨rfl, q2⟩))
    go_ret
    exact ⟨rfl, q2.out⟩
set_option maxRecDepth 20000 in
set_option maxHeartbeats 1000000 in
theorem agw_10 (br bw : Nat) (sec : Bool) (nn uu ii : Int) (bv : Value) (s : ByteArray) (lv : Value) (x : Nat) (hx : x < 9223372036854775808) (ok : Bool) (ad : Addr) (w : World) (P : World → Prop) (Q : World → Prop)
    (CR : Hid (Calls Tryd.prog 31 #[.pointer (some ⟨br, 0, none⟩), .int .i64 nn] (w.alloc (opB 10 sec nn uu ii bv s lv)) fun e w1 => e = .returned (.tuple #[.int .i64 x, erV ok ad]) ∧ Hid (P w1)))
    (CW : Hid (∀ w1, Hid (P w1) → Calls Tryd.prog 23 #[.pointer (some ⟨bw, 0, none⟩), .int .u64 x] w1 fun e w2 => e = .returned (.tuple #[]) ∧ Hid (Q w2))) :
    Calls Tryd.prog 8 #[.pointer (some ⟨br, 0, none⟩), .pointer (some ⟨bw, 0, none⟩), .agg #[.int .i64 10, .bool sec, .int .i64 nn, .int .u64 uu, .int .i64 ii, bv, .string s, lv]] w fun e w' => e = .returned (.bool ok) ∧ Q w' := by
  cases ok
  · have e0 : erV false ad = .iface 100 (.pointer (some ad)) := rfl
    rw [e0] at CR
    clear e0
    go_enter Tryd.func8, Tryd.ntmps8
    go_wp2_with (first | (go_at_call 31; refine CR.out.mono ?_; rintro e w1 ⟨rfl, q1⟩) | (go_at_call 23; refine (CW.out w1 q1).mono ?_; rintro e w2 ⟨rfl, q2⟩))
    go_ret
    exact ⟨rfl, q2.out⟩
  · have e0 : erV true ad = .nilIface := rfl
    rw [e0] at CR
    clear e0
    go_enter Tryd.func8, Tryd.ntmps8
    go_wp2_with (first | (go_at_call 31; refine CR.out.mono ?_; rintro e w1 ⟨rfl, q1⟩) | (go_at_call 23; refine (CW.out w1 q1).mono ?_; rintro e w2 ⟨rfl, q2⟩))
    go_ret
    exact ⟨rfl, q2.out⟩
set_option maxRecDepth 20000 in
set_option maxHeartbeats 1000000 in
theorem agw_0 (br bw : Nat) (kd : Int) (sec : Bool) (nn uu ii : Int) (bv : Value) (s : ByteArray) (lv : Value) (w : World) (hk : kd < 1 ∨ 10 < kd) :
    Calls Tryd.prog 8 #[.pointer (some ⟨br, 0, none⟩), .pointer (some ⟨bw, 0, none⟩), .agg #[.int .i64 kd, .bool sec, .int .i64 nn, .int .u64 uu, .int .i64 ii, bv, .string s, lv]] w fun e w' => e = .returned (.bool false) ∧ Kept (fun _ => False) w w' := by
  have n1 : kd ≠ 1 := by omega
  have n2 : kd ≠ 2 := by omega
  have n3 : kd ≠ 3 := by omega
  have n4 : kd ≠ 4 := by omega
  have n5 : kd ≠ 5 := by omega
  have n6 : kd ≠ 6 := by omega
  have n7 : kd ≠ 7 := by omega
  have n8 : kd ≠ 8 := by omega
  have n9 : kd ≠ 9 := by omega
  have n10 : kd ≠ 10 := by omega
  clear hk
  have hK := hide (Kept.alloc w (.cells #[.int .i64 kd, .bool sec, .int .i64 nn, .int .u64 uu, .int .i64 ii, bv, .string s, lv] 30))
  go_enter Tryd.func8, Tryd.ntmps8
  go_wp2
  go_ret
  exact ⟨rfl, hK.out⟩
end Go.Proofs.YtbcohdioapmlgaaDoor
