import Derived.Test.YtbcohdioapmlgaaDoorLwJ
namespace Go.Proofs.YtbcohdioapmlgaaDoor
open Go.ChangeShapes Go.WideShapes Go.ChangeAt Go.RowKit

/-- What a call of the Reader answers beside its value. -/
def erV (ok : Bool) (ad : Addr) : Value := if ok = true then .nilIface else .iface 100 (.pointer (some ad))
set_option maxRecDepth 20000 in
set_option maxHeartbeats 1000000 in
theorem agw_1 (br bw : Nat) (sec : Bool) (nn uu ii : Int) (bv : Value) (s : ByteArray) (lv : Value) (x : Int) (ok : Bool) (ad : Addr) (w : World) (P : World → Prop) (Q : World → Prop)
    (CR : Hid (Calls Tryd.prog 27 #[.pointer (some ⟨br, 0, none⟩)] (w.alloc (opB 1 sec nn uu ii bv s lv)) fun e w1 => e = .returned (.tuple #[.int .u8 x, erV ok ad]) ∧ Hid (P w1)))
    (CW : Hid (∀ w1, Hid (P w1) → Calls Tryd.prog 28 #[.pointer (some ⟨bw, 0, none⟩), .int .u8 x] w1 fun e w2 => e = .returned (.tuple #[]) ∧ Hid (Q w2))) :
    Calls Tryd.prog 8 #[.pointer (some ⟨br, 0, none⟩), .pointer (some ⟨bw, 0, none⟩), .agg #[.int .i64 1, .bool sec, .int .i64 nn, .int .u64 uu, .int .i64 ii, bv, .string s, lv]] w fun e w' => e = .returned (.bool ok) ∧ Q w' := by
  cases ok
  · have e0 : erV false ad = .iface 100 (.pointer (some ad)) := rfl
    rw [e0] at CR
    clear e0
    go_enter Tryd.func8, Tryd.ntmps8
    go_wp2_with (first | (go_at_call 27; refine CR.out.mono ?_; rintro e w1 ⟨rfl, q1⟩) | (go_at_call 28; refine (CW.out w1 q1).mono ?_; rintro e w2 ⟨rfl, q2⟩))
    go_ret
    exact ⟨rfl, q2.out⟩
  · have e0 : erV true ad = .nilIface := rfl
    rw [e0] at CR
    clear e0
    go_enter Tryd.func8, Tryd.ntmps8
    go_wp2_with (first | (go_at_call 27; refine CR.out.mono ?_; rintro e w1 ⟨rfl, q1⟩) | (go_at_call 28; refine (CW.out w1 q1).mono ?_; rintro e w2 ⟨rfl, q2⟩))
    go_ret
    exact ⟨rfl, q2.out⟩
set_option maxRecDepth 20000 in
set_option maxHeartbeats 1000000 in
theorem agw_2 (br bw : Nat) (sec : Bool) (nn uu ii : Int) (bv : Value) (s : ByteArray) (lv : Value) (x : Nat) (hx : x < 18446744073709551616) (ok : Bool) (ad : Addr) (w : World) (P : World → Prop) (Q : World → Prop)
    (CR : Hid (Calls Tryd.prog 25 #[.pointer (some ⟨br, 0, none⟩)] (w.alloc (opB 2 sec nn uu ii bv s lv)) fun e w1 => e = .returned (.tuple #[.int .u64 x, erV ok ad]) ∧ Hid (P w1)))
    (CW : Hid (∀ w1, Hid (P w1) → Calls Tryd.prog 23 #[.pointer (some ⟨bw, 0, none⟩), .int .u64 x] w1 fun e w2 => e = .returned (.tuple #[]) ∧ Hid (Q w2))) :
    Calls Tryd.prog 8 #[.pointer (some ⟨br, 0, none⟩), .pointer (some ⟨bw, 0, none⟩), .agg #[.int .i64 2, .bool sec, .int .i64 nn, .int .u64 uu, .int .i64 ii, bv, .string s, lv]] w fun e w' => e = .returned (.bool ok) ∧ Q w' := by
  have _ := hx
  cases ok
  · have e0 : erV false ad = .iface 100 (.pointer (some ad)) := rfl
    rw [e0] at CR
    clear e0
    go_enter Tryd.func8, Tryd.ntmps8
    go_wp2_with (first | (go_at_call 25; refine CR.out.mono ?_; rintro e w1 ⟨rfl, q1⟩) | (go_at_call 23; refine (CW.out w1 q1).mono ?_; rintro e w2 ⟨rfl, q2⟩))
    go_ret
    exact ⟨rfl, q2.out⟩
  · have e0 : erV true ad = .nilIface := rfl
    rw [e0] at CR
    clear e0
    go_enter Tryd.func8, Tryd.ntmps8
    go_wp2_with (first | (go_at_call 25; refine CR.out.mono ?_; rintro e w1 ⟨rfl, q1⟩) | (go_at_call 23; refine (CW.out w1 q1).mono ?_; rintro e w2 ⟨rfl, q2⟩))
    go_ret
    exact ⟨rfl, q2.out⟩
set_option maxRecDepth 20000 in
set_option maxHeartbeats 1000000 in
theorem agw_3 (br bw : Nat) (sec : Bool) (nn uu ii : Int) (bv : Value) (s : ByteArray) (lv : Value) (x : Int) (ok : Bool) (ad : Addr) (w : World) (P : World → Prop) (Q : World → Prop)
    (CR : Hid (Calls Tryd.prog 29 #[.pointer (some ⟨br, 0, none⟩)] (w.alloc (opB 3 sec nn uu ii bv s lv)) fun e w1 => e = .returned (.tuple #[.int .i64 x, erV ok ad]) ∧ Hid (P w1)))
    (CW : Hid (∀ w1, Hid (P w1) → Calls Tryd.prog 30 #[.pointer (some ⟨bw, 0, none⟩), .int .i64 x] w1 fun e w2 => e = .returned (.tuple #[]) ∧ Hid (Q w2))) :
    Calls Tryd.prog 8 #[.pointer (some ⟨br, 0, none⟩), .pointer (some ⟨bw, 0, none⟩), .agg #[.int .i64 3, .bool sec, .int .i64 nn, .int .u64 uu, .int .i64 ii, bv, .string s, lv]] w fun e w' => e = .returned (.bool ok) ∧ Q w' := by
  cases ok
  · have e0 : erV false ad = .iface 100 (.pointer (some ad)) := rfl
    rw [e0] at CR
    clear e0
    go_enter Tryd.func8, Tryd.ntmps8
    go_wp2_with (first | (go_at_call 29; refine CR.out.mono ?_; rintro e w1 ⟨rfl, q1⟩) | (go_at_call 30; refine (CW.out w1 q1).mono ?_; rintro e w2 ⟨rfl, q2⟩))
    go_ret
    exact ⟨rfl, q2.out⟩
  · have e0 : erV true ad = .nilIface := rfl
    rw [e0] at CR
    clear e0
    go_enter Tryd.func8, Tryd.ntmps8
    go_wp2_with (first | (go_at_call 29; refine CR.out.mono ?_; rintro e w1 ⟨rfl, q1⟩) | (go_at_call 30; refine (CW.out w1 q1).mono ?_; rintro e w2 ⟨rfl, q2⟩))
    go_ret
    exact ⟨rfl, q2.out⟩
set_option maxRecDepth 20000 in
set_option maxHeartbeats 1000000 in
theorem agw_4 (br bw : Nat) (sec : Bool) (nn uu ii : Int) (bv : Value) (s : ByteArray) (lv : Value) (x : Nat) (ok : Bool) (ad : Addr) (w : World) (P : World → Prop) (Q : World → Prop)
    (CR : Hid (Calls Tryd.prog 32 #[.pointer (some ⟨br, 0, none⟩)] (w.alloc (opB 4 sec nn uu ii bv s lv)) fun e w1 => e = .returned (.tuple #[.int .u32 x, erV ok ad]) ∧ Hid (P w1)))
    (CW : Hid (∀ w1, Hid (P w1) → Calls Tryd.prog 33 #[.pointer (some ⟨bw, 0, none⟩), .int .u32 x] w1 fun e w2 => e = .returned (.tuple #[]) ∧ Hid (Q w2))) :
    Calls Tryd.prog 8 #[.pointer (some ⟨br, 0, none⟩), .pointer (some ⟨bw, 0, none⟩), .agg #[.int .i64 4, .bool sec, .int .i64 nn, .int .u64 uu, .int .i64 ii, bv, .string s, lv]] w fun e w' => e = .returned (.bool ok) ∧ Q w' := by
  cases ok
  · have e0 : erV false ad = .iface 100 (.pointer (some ad)) := rfl
    rw [e0] at CR
    clear e0
    go_enter Tryd.func8, Tryd.ntmps8
    go_wp2_with (first | (go_at_call 32; refine CR.out.mono ?_; rintro e w1 ⟨rfl, q1⟩) | (go_at_call 33; refine (CW.out w1 q1).mono ?_; rintro e w2 ⟨rfl, q2⟩))
    go_ret
    exact ⟨rfl, q2.out⟩
  · have e0 : erV true ad = .nilIface := rfl
    rw [e0] at CR
    clear e0
    go_enter Tryd.func8, Tryd.ntmps8
    go_wp2_with (first | (go_at_call 32; refine CR.out.mono ?_; rintro e w1 ⟨rfl, q1⟩) | (go_at_call 33; refine (CW.out w1 q1).mono ?_; rintro e w2 ⟨rfl, q2⟩))
    go_ret
    exact ⟨rfl, q2.out⟩
set_option maxRecDepth 20000 in
set_option maxHeartbeats 1000000 in
theorem agw_5 (br bw : Nat) (sec : Bool) (nn uu ii : Int) (bv : Value) (s : ByteArray) (lv : Value) (x : Nat) (ok : Bool) (ad : Addr) (w : World) (P : World → Prop) (Q : World → Prop)
    (CR : Hid (Calls Tryd.prog 34 #[.pointer (some ⟨br, 0, none⟩)] (w.alloc (opB 5 sec nn uu ii bv s lv)) fun e w1 => e = .returned (.tuple #[.int .u64 x, erV ok ad]) ∧ Hid (P w1)))
    (CW : Hid (∀ w1, Hid (P w1) → Calls Tryd.prog 35 #[.pointer (some ⟨bw, 0, none⟩), .int .u64 x] w1 fun e w2 => e = .returned (.tuple #[]) ∧ Hid (Q w2))) :
    Calls Tryd.prog 8 #[.pointer (some ⟨br, 0, none⟩), .pointer (some ⟨bw, 0, none⟩), .agg #[.int .i64 5, .bool sec, .int .i64 nn, .int .u64 uu, .int .i64 ii, bv, .string s, lv]] w fun e w' => e = .returned (.bool ok) ∧ Q w' := by
  cases ok
  · have e0 : erV false ad = .iface 100 (.pointer (some ad)) := rfl
    rw [e0] at CR
    clear e0
    go_enter Tryd.func8, Tryd.ntmps8
    go_wp2_with (first | (go_at_call 34; refine CR.out.mono ?_; rintro e w1 ⟨rfl, q1⟩) | (go_at_call 35; refine (CW.out w1 q1).mono ?_; rintro e w2 ⟨rfl, q2⟩))
    go_ret
    exact ⟨rfl, q2.out⟩
  · have e0 : erV true ad = .nilIface := rfl
    rw [e0] at CR
    clear e0
    go_enter Tryd.func8, Tryd.ntmps8
    go_wp2_with (first | (go_at_call 34; refine CR.out.mono ?_; rintro e w1 ⟨rfl, q1⟩) | (go_at_call 35; refine (CW.out w1 q1).mono ?_; rintro e w2 ⟨rfl, q2⟩))
    go_ret
    exact ⟨rfl, q2.out⟩
set_option maxRecDepth 20000 in
set_option maxHeartbeats 1000000 in
theorem agw_6 (br bw : Nat) (sec : Bool) (nn uu ii : Int) (bv : Value) (s : ByteArray) (lv : Value)  (ok : Bool) (ad : Addr) (w : World) (P : Option Addr → Nat → Nat → World → Prop) (Q : World → Prop)
    (CR : Hid (Calls Tryd.prog 18 #[.pointer (some ⟨br, 0, none⟩), .int .i64 nn] (w.alloc (opB 6 sec nn uu ii bv s lv)) fun e w1 => ∃ a n c, e = .returned (.tuple #[.slice a n c, erV ok ad]) ∧ Hid (P a n c w1)))
    (CW : Hid (∀ w1 a n c, Hid (P a n c w1) → Calls Tryd.prog 14 #[.pointer (some ⟨bw, 0, none⟩), .slice a n c] w1 fun e w2 => e = .returned (.tuple #[]) ∧ Hid (Q w2))) :
    Calls Tryd.prog 8 #[.pointer (some ⟨br, 0, none⟩), .pointer (some ⟨bw, 0, none⟩), .agg #[.int .i64 6, .bool sec, .int .i64 nn, .int .u64 uu, .int .i64 ii, bv, .string s, lv]] w fun e w' => e = .returned (.bool ok) ∧ Q w' := by
  cases ok
  · have e0 : erV false ad = .iface 100 (.pointer (some ad)) := rfl
    rw [e0] at CR
    clear e0
    go_enter Tryd.func8, Tryd.ntmps8
    go_wp2_with (first | (go_at_call 18; refine CR.out.mono ?_; rintro e w1 ⟨a, n, c, rfl, q1⟩) | (go_at_call 14; refine (CW.out w1 _ _ _ q1).mono ?_; rintro e w2 ⟨rfl, q2⟩))
    go_ret
    exact ⟨rfl, q2.out⟩
  · have e0 : erV true ad = .nilIface := rfl
    rw [e0] at CR
    clear e0
    go_enter Tryd.func8, Tryd.ntmps8
    go_wp2_with (first | (go_at_call 18; refine CR.out.mono ?_; rintro e w1 ⟨a, n, c, rfl, q1⟩) | (go_at_call 14; refine (CW.out w1 _ _ _ q1).mono ?_; rintro e w2 ⟨rfl, q2⟩))
    go_ret
    exact ⟨rfl, q2.out⟩
set_option maxRecDepth 20000 in
set_option maxHeartbeats 1000000 in
theorem agw_7 (br bw : Nat) (sec : Bool) (nn uu ii : Int) (bv : Value) (s : ByteArray) (lv : Value) (x : ByteArray) (ok : Bool) (ad : Addr) (w : World) (P : World → Prop) (Q : World → Prop)
    (CR : Hid (Calls Tryd.prog 36 #[.pointer (some ⟨br, 0, none⟩), .int .i64 nn] (w.alloc (opB 7 sec nn uu ii bv s lv)) fun e w1 => e = .returned (.tuple #[.string x, erV ok ad]) ∧ Hid (P w1)))
    (CW : Hid (∀ w1, Hid (P w1) → Calls Tryd.prog 37 #[.pointer (some ⟨bw, 0, none⟩), .string x] w1 fun e w2 => e = .returned (.tuple #[]) ∧ Hid (Q w2))) :
    Calls Tryd.prog 8 #[.pointer (some ⟨br, 0, none⟩), .pointer (some ⟨bw, 0, none⟩), .agg #[.int .i64 7, .bool sec, .int .i64 nn, .int .u64 uu, .int .i64 ii, bv, .string s, lv]] w fun e w' => e = .returned (.bool ok) ∧ Q w' := by
  cases ok
  · have e0 : erV false ad = .iface 100 (.pointer (some ad)) := rfl
    rw [e0] at CR
    clear e0
    go_enter Tryd.func8, Tryd.ntmps8
    go_wp2_with (first | (go_at_call 36; refine CR.out.mono ?_; rintro e w1 ⟨rfl, q1⟩) | (go_at_call 37; refine (CW.out w1 q1).mono ?_; rintro e w2 ⟨rfl, q2⟩))
    go_ret
    exact ⟨rfl, q2.out⟩
  · have e0 : erV true ad = .nilIface := rfl
    rw [e0] at CR
    clear e0
    go_enter Tryd.func8, Tryd.ntmps8
    go_wp2_with (first | (go_at_call 36; refine CR.out.mono ?_; rintro e w1 ⟨rfl, q1⟩) | (go_at_call 37; refine (CW.out w1 q1).mono ?_; rintro e w2 ⟨rfl, q2⟩))
    go_ret
    exact ⟨rfl, q2.out⟩
set_option maxRecDepth 20000 in
set_option maxHeartbeats 1000000 in
theorem agw_8 (br bw : Nat) (sec : Bool) (nn uu ii : Int) (bv : Value) (s : ByteArray) (lv : Value)  (ok : Bool) (ad : Addr) (w : World) (P : Option Addr → Nat → Nat → World → Prop) (Q : World → Prop)
    (CR : Hid (Calls Tryd.prog 16 #[.pointer (some ⟨br, 0, none⟩), .int .i64 nn] (w.alloc (opB 8 sec nn uu ii bv s lv)) fun e w1 => ∃ a n c, e = .returned (.tuple #[.slice a n c, erV ok ad]) ∧ Hid (P a n c w1)))
    (CW : Hid (∀ w1 a n c, Hid (P a n c w1) → Calls Tryd.prog 12 #[.pointer (some ⟨bw, 0, none⟩), .slice a n c] w1 fun e w2 => e = .returned (.nilIface) ∧ Hid (Q w2))) :
    Calls Tryd.prog 8 #[.pointer (some ⟨br, 0, none⟩), .pointer (some ⟨bw, 0, none⟩), .agg #[.int .i64 8, .bool sec, .int .i64 nn, .int .u64 uu, .int .i64 ii, bv, .string s, lv]] w fun e w' => e = .returned (.bool ok) ∧ Q w' := by
  cases ok
  · have e0 : erV false ad = .iface 100 (.pointer (some ad)) := rfl
    rw [e0] at CR
    clear e0
    go_enter Tryd.func8, Tryd.ntmps8
    go_wp2_with (first | (go_at_call 16; refine CR.out.mono ?_; rintro e w1 ⟨a, n, c, rfl, q1⟩) | (go_at_call 12; refine (CW.out w1 _ _ _ q1).mono ?_; rintro e w2 ⟨rfl, q2⟩))
    go_ret
    exact ⟨rfl, q2.out⟩
  · have e0 : erV true ad = .nilIface := rfl
    rw [e0] at CR
    clear e0
    go_enter Tryd.func8, Tryd.ntmps8
    go_wp2_with (first | (go_at_call 16; refine CR.out.mono ?_; rintro e w1 ⟨a, n, c, rfl, q1⟩) | (go_at_call 12; refine (CW.out w1 _ _ _ q1).mono ?_; rintro e w2 ⟨rfl, q2⟩))
    go_ret
    exact ⟨rfl, q2.out⟩
set_option maxRecDepth 20000 in
set_option maxHeartbeats 1000000 in
theorem agw_9 (br bw : Nat) (sec : Bool) (nn uu ii : Int) (bv : Value) (s : ByteArray) (lv : Value)  (ok : Bool) (ad : Addr) (w : World) (P : Option Addr → Nat → Nat → World → Prop) (Q : World → Prop)
    (CR : Hid (Calls Tryd.prog 17 #[.pointer (some ⟨br, 0, none⟩), .int .i64 nn] (w.alloc (opB 9 sec nn uu ii bv s lv)) fun e w1 => ∃ a n c, e = .returned (.tuple #[.slice a n c, erV ok ad]) ∧ Hid (P a n c w1)))
    (CW : Hid (∀ w1 a n c, Hid (P a n c w1) → Calls Tryd.prog 13 #[.pointer (some ⟨bw, 0, none⟩), .slice a n c] w1 fun e w2 => e = .returned (.nilIface) ∧ Hid (Q w2))) :
    Calls Tryd.prog 8 #[.pointer (some ⟨br, 0, none⟩), .pointer (some ⟨bw, 0, none⟩), .agg #[.int .i64 9, .bool sec, .int .i64 nn, .int .u64 uu, .int .i64 ii, bv, .string s, lv]] w fun e w' => e = .returned (.bool ok) ∧ Q w' := by
  cases ok
  · have e0 : erV false ad = .iface 100 (.pointer (some ad)) := rfl
    rw [e0] at CR
    clear e0
    go_enter Tryd.func8, Tryd.ntmps8
    go_wp2_with (first | (go_at_call 17; refine CR.out.mono ?_; rintro e w1 ⟨a, n, c, rfl, q1⟩) | (go_at_call 13; refine (CW.out w1 _ _ _ q1).mono ?_; rintro e w2 ⟨rfl, q2⟩))
    go_ret
    exact ⟨rfl, q2.out⟩
  · have e0 : erV true ad = .nilIface := rfl
    rw [e0] at CR
    clear e0
    go_enter Tryd.func8, Tryd.ntmps8
    go_wp2_with (first | (go_at_call 17; refine CR.out.mono ?_; rintro e w1 ⟨a, n, c, rfl, q1⟩) | (go_at_call 13; refine (CW.out w1 _ _ _ q1).mono ?_; rintro e w2 ⟨rfl, q2⟩))
    go_ret
    exact ⟨rfl, q2.out⟩
set_option maxRecDepth 20000 in
set_option maxHeartbeats 1000000 in
theorem agw_10 (br bw : Nat) (sec : Bool) (nn uu ii : Int) (bv : Value) (s : ByteArray) (lv : Value) (x : Nat) (hx : x < 9223372036854775808) (ok : Bool) (ad : Addr) (w : World) (P : World → Prop) (Q : World → Prop)
    (CR : Hid (Calls Tryd.prog 31 #[.pointer (some ⟨br, 0, none⟩), .int .i64 nn] (w.alloc (opB 10 sec nn uu ii bv s lv)) fun e w1 => e = .returned (.tuple #[.int .i64 x, erV ok ad]) ∧ Hid (P w1)))
    (CW : Hid (∀ w1, Hid (P w1) → Calls Tryd.prog 23 #[.pointer (some ⟨bw, 0, none⟩), .int .u64 x] w1 fun e w2 => e = .returned (.tuple #[]) ∧ Hid (Q w2))) :
    Calls Tryd.prog 8 #[.pointer (some ⟨br, 0, none⟩), .pointer (some ⟨bw, 0, none⟩), .agg #[.int .i64 10, .bool sec, .int .i64 nn, .int .u64 uu, .int .i64 ii, bv, .string s, lv]] w fun e w' => e = .returned (.bool ok) ∧ Q w' := by
  cases ok
  · have e0 : erV false ad = .iface 100 (.pointer (some ad)) := rfl
    rw [e0] at CR
    clear e0
    go_enter Tryd.func8, Tryd.ntmps8
    go_wp2_with (first | (go_at_call 31; refine CR.out.mono ?_; rintro e w1 ⟨rfl, q1⟩) | (go_at_call 23; refine (CW.out w1 q1).mono ?_; rintro e w2 ⟨rfl, q2⟩))
    go_ret
    exact ⟨rfl, q2.out⟩
  · have e0 : erV true ad = .nilIface := rfl
    rw [e0] at CR
    clear e0
    go_enter Tryd.func8, Tryd.ntmps8
    go_wp2_with (first | (go_at_call 31; refine CR.out.mono ?_; rintro e w1 ⟨rfl, q1⟩) | (go_at_call 23; refine (CW.out w1 q1).mono ?_; rintro e w2 ⟨rfl, q2⟩))
    go_ret
    exact ⟨rfl, q2.out⟩
set_option maxRecDepth 20000 in
set_option maxHeartbeats 1000000 in
theorem agw_0 (br bw : Nat) (kd : Int) (sec : Bool) (nn uu ii : Int) (bv : Value) (s : ByteArray) (lv : Value) (w : World) (hk : kd < 1 ∨ 10 < kd) :
    Calls Tryd.prog 8 #[.pointer (some ⟨br, 0, none⟩), .pointer (some ⟨bw, 0, none⟩), .agg #[.int .i64 kd, .bool sec, .int .i64 nn, .int .u64 uu, .int .i64 ii, bv, .string s, lv]] w fun e w' => e = .returned (.bool false) ∧ Kept (fun _ => False) w w' := by
  have n1 : kd ≠ 1 := by omega
  have n2 : kd ≠ 2 := by omega
  have n3 : kd ≠ 3 := by omega
  have n4 : kd ≠ 4 := by omega
  have n5 : kd ≠ 5 := by omega
  have n6 : kd ≠ 6 := by omega
  have n7 : kd ≠ 7 := by omega
  have n8 : kd ≠ 8 := by omega
  have n9 : kd ≠ 9 := by omega
  have n10 : kd ≠ 10 := by omega
  clear hk
  have hK := hide (Kept.alloc w (.cells #[.int .i64 kd, .bool sec, .int .i64 nn, .int .u64 uu, .int .i64 ii, bv, .string s, lv] 30))
  go_enter Tryd.func8, Tryd.ntmps8
  go_wp2
  go_ret
  exact ⟨rfl, hK.out⟩
theorem sb_str {l : List Int} (h : IsBytes l) : sb (strOfNums l) = l := by
  rw [sb, strOfNums_data, List.map_map]
  conv => rhs; rw [← List.map_id l]
  apply List.map_congr_left
  intro x hx
  have := h x hx
  show (((UInt8.ofNat x.toNat).toNat : Nat) : Int) = x
  rw [UInt8.toNat_ofNat']
  omega
/-- A Reader and an empty Writer, apart. -/
structure AgIn (w : World) (br bw : Nat) (rv : Value) (l : List Int) (p : Nat) (a0 a1 a2 a3 a7 : Addr) : Prop where
  rd : Rd w br rv l p
  wr : Wr w bw (.slice none 0 0) []
  ne : bw ≠ br
  far : rv.ownBlock ≠ some bw
  sm : l.length ≤ 1099511627776
  g0 : w.cell? ⟨3, 0, none⟩ = some (errV a0)
  g1 : w.cell? ⟨4, 0, none⟩ = some (errV a1)
  g2 : w.cell? ⟨2, 0, none⟩ = some (errV a2)
  g3 : w.cell? ⟨1, 0, none⟩ = some (errV a3)
  g7 : w.cell? ⟨0, 0, none⟩ = some (errV a7)
def AgOut (w : World) (br bw : Nat) (rv : Value) (l : List Int) (p' : Nat) (xs : List Int) (w2 : World) : Prop := ∃ v', Rd w2 br rv l p' ∧ Wr w2 bw v' xs ∧ Kept (fun i => i = br ∨ i = bw) w w2
def AgPost (w : World) (br bw : Nat) (rv : Value) (l : List Int) (p : Nat) (e : Ending) (w' : World) : Prop :=
  ∃ ok p' xs, e = .returned (.bool ok) ∧ AgOut w br bw rv l p' xs w' ∧ xs.length ≤ 17592186044416 ∧ p ≤ p' ∧ (ok = true → xs = (l.drop p).take (p' - p)) ∧ (ok = false → p' = p)
section
variable {w : World} {br bw : Nat} {rv : Value} {l : List Int} {p : Nat} {a0 a1 a2 a3 a7 : Addr}
theorem AgIn.alloc (h : AgIn w br bw rv l p a0 a1 a2 a3 a7) (o : Obj) : AgIn (w.alloc o) br bw rv l p a0 a1 a2 a3 a7 :=
  have k := Kept.alloc w o
  ⟨h.rd.alloc o, h.wr.alloc o, h.ne, h.far, h.sm, k.cell h.g0 (fun f => f), k.cell h.g1 (fun f => f), k.cell h.g2 (fun f => f), k.cell h.g3 (fun f => f), k.cell h.g7 (fun f => f)⟩
theorem AgIn.wr1 (h : AgIn w br bw rv l p a0 a1 a2 a3 a7) {o : Obj} {w1 : World} (k : Kept (fun i => i = br) (w.alloc o) w1) : Wr w1 bw (.slice none 0 0) [] := by
  refine (h.wr.alloc o).kept k ?_
  rintro i (e | e)
  · rw [e]; exact h.ne
  · simp [Value.ownBlock] at e
theorem AgIn.fin (h : AgIn w br bw rv l p a0 a1 a2 a3 a7) {o : Obj} {w1 w2 : World} {p' : Nat} {v' : Value} {xs : List Int} (hr : Rd w1 br rv l p') (k : Kept (fun i => i = br) (w.alloc o) w1) (hw2 : Wr w2 bw v' ([] ++ xs)) (hs : WStep w1 w2 bw (.slice none 0 0) v') : AgOut w br bw rv l p' xs w2 := by
  have hF : ∀ i, WF bw (.slice none 0 0) i → i = bw := by
    rintro i (e | e)
    · exact e
    · simp [Value.ownBlock] at e
  refine ⟨v', hr.kept hs.kept (fun f => h.ne (hF _ f).symm) (fun i hi f => ?_), by simpa using hw2, ?_⟩
  · rw [hF _ f] at hi
    exact h.far hi
  · have k1 : Kept (fun i => i = br ∨ i = bw) w w1 := ((Kept.alloc w o).mono (fun _ f => f.elim)).trans k (fun _ e => .inl (.inl e))
    exact k1.trans hs.kept (fun i f => .inl (.inr (hF i f)))
theorem quietly {e : Ending} {w0 w' : World} {z : Value} {ad : Addr} (h : Rd w0 br rv l p) (hq : e = .returned (.tuple #[z, errV ad]) ∧ ∃ n, w' = w0.drewN n) : e = .returned (.tuple #[z, erV false ad]) ∧ Hid (Rd w' br rv l p ∧ Kept (fun i => i = br) w0 w') := by
  obtain ⟨rfl, n, rfl⟩ := hq
  exact ⟨rfl, h.drewN n, (Kept.drewN _ _).mono (fun _ f => f.elim)⟩
theorem AgPost.yes {e : Ending} {w' : World} {p' : Nat} {xs : List Int} (hq : e = .returned (.bool true) ∧ AgOut w br bw rv l p' xs w') (hl : xs.length ≤ 17592186044416) (hp : p ≤ p') (hx : xs = (l.drop p).take (p' - p)) : AgPost w br bw rv l p e w' :=
  ⟨true, p', xs, hq.1, hq.2, hl, hp, fun _ => hx, (fun e => nomatch e)⟩
theorem AgPost.no {e : Ending} {w' : World} {xs : List Int} (hq : e = .returned (.bool false) ∧ AgOut w br bw rv l p xs w') (hl : xs.length ≤ 17592186044416) : AgPost w br bw rv l p e w' :=
  ⟨false, p, xs, hq.1, hq.2, hl, Nat.le_refl _, (fun e => nomatch e), fun _ => rfl⟩
theorem up_bad (h : AgIn w br bw rv l p a0 a1 a2 a3 a7) (nn : Int) (hm2 : nn ≤ 9223372036854775807) (hno : ∀ x k, rdu 0 0 (l.drop p) = .ok (x, k) → nn < (x : Int)) : ∃ ad, ∀ a c, BytesAt w a l → ∀ n, Calls Tryd.prog 42 #[.slice a l.length c, .int .i64 p, .int .i64 nn] (w.drewN n) fun e w' => e = .returned (.tuple #[.int .i64 0, .int .i64 0, errV ad]) ∧ ∃ m, w' = (w.drewN n).drewN m := by
  have hsm := h.sm
  cases hr : rdu 0 0 (l.drop p) with
  | error er =>
    obtain ⟨ad, had⟩ := errOf_form a0 a1 er
    refine ⟨ad, fun a c hb n => ?_⟩
    have q := upat_err l a c p er nn a0 a1 (w.drewN n) hb h.rd.isb h.rd.le (by omega) h.g0 h.g1 hr
    rw [had] at q
    exact q
  | ok xk =>
    obtain ⟨x, k⟩ := xk
    exact ⟨a2, fun a c hb n => upat_lim l a c p x k nn a0 a1 a2 (w.drewN n) hb h.rd.isb h.rd.le (by omega) h.g0 h.g1 h.g2 hr (hno x k hr) hm2⟩
theorem take_split {l : List Int} {p k n : Nat} : (l.drop p).take (k + n) = (l.drop p).take k ++ (l.drop (p + k)).take n := by
  rw [← List.drop_drop, ← List.take_append_drop k ((l.drop p).take (k + n)), List.take_take, Nat.min_eq_left (by omega), List.drop_take, Nat.add_sub_cancel_left]
variable (sec : Bool) (nn uu ii : Int) (bv : Value) (s : ByteArray) (lv : Value)
theorem again_1 (h : AgIn w br bw rv l p a0 a1 a2 a3 a7) : Calls Tryd.prog 8 #[.pointer (some ⟨br, 0, none⟩), .pointer (some ⟨bw, 0, none⟩), .agg #[.int .i64 1, .bool sec, .int .i64 nn, .int .u64 uu, .int .i64 ii, bv, .string s, lv]] w fun e w' => AgPost w br bw rv l p e w' := by
  have hA := h.alloc (opB 1 sec nn uu ii bv s lv)
  by_cases hp : p < l.length
  · refine (agw_1 br bw sec nn uu ii bv s lv (l[p]?.getD 0) true a0 w (fun w1 => Rd w1 br rv l (p + 1) ∧ Kept (fun i => i = br) (w.alloc (opB 1 sec nn uu ii bv s lv)) w1) (AgOut w br bw rv l (p + 1) [l[p]?.getD 0]) ?_ ?_).mono ?_
    · exact (rbyte_ok br rv l p _ hA.rd hp).mono fun e w1 q => ⟨q.1, q.2.1, q.2.2⟩
    · exact fun w1 q => (byte_any bw _ [] _ w1 (h.wr1 q.out.2) (by simp)).mono fun e w2 ⟨e1, v', r1, r2⟩ => ⟨e1, h.fin q.out.1 q.out.2 r1 r2⟩
    · intro e w' q
      refine AgPost.yes q (by simp) (by omega) ?_
      rw [Nat.add_sub_cancel_left, List.drop_eq_getElem_cons hp, List.getElem?_eq_getElem hp]
      rfl
  · have hpe : p = l.length := by have := h.rd.le; omega
    have hA1 := hA.rd
    refine (agw_1 br bw sec nn uu ii bv s lv 0 false a0 w (fun w1 => Rd w1 br rv l p ∧ Kept (fun i => i = br) (w.alloc (opB 1 sec nn uu ii bv s lv)) w1) (AgOut w br bw rv l p [0]) ?_ ?_).mono ?_
    · refine (rbyte_short br rv l a0 _ (by rw [← hpe]; exact hA1) hA.g0).mono fun e w1 q => quietly hA1 q
    · exact fun w1 q => (byte_any bw _ [] _ w1 (h.wr1 q.out.2) (by simp)).mono fun e w2 ⟨e1, v', r1, r2⟩ => ⟨e1, h.fin q.out.1 q.out.2 r1 r2⟩
    · exact fun e w' q => AgPost.no q (by simp)
theorem again_2 (h : AgIn w br bw rv l p a0 a1 a2 a3 a7) : Calls Tryd.prog 8 #[.pointer (some ⟨br, 0, none⟩), .pointer (some ⟨bw, 0, none⟩), .agg #[.int .i64 2, .bool sec, .int .i64 nn, .int .u64 uu, .int .i64 ii, bv, .string s, lv]] w fun e w' => AgPost w br bw rv l p e w' := by
  have hA := h.alloc (opB 2 sec nn uu ii bv s lv)
  cases hr : rdu 0 0 (l.drop p) with
  | ok xk =>
    obtain ⟨x, k⟩ := xk
    have hx := rdu_lt (l.drop p) 0 0 x k (by omega) (by decide) (fun y hy => h.rd.isb y (List.mem_of_mem_drop hy)) hr
    have hf := rdu_form (fun y hy => h.rd.isb y (List.mem_of_mem_drop hy)) hr
    refine (agw_2 br bw sec nn uu ii bv s lv x hx true a0 w (fun w1 => Rd w1 br rv l (p + k) ∧ Kept (fun i => i = br) (w.alloc (opB 2 sec nn uu ii bv s lv)) w1) (AgOut w br bw rv l (p + k) (uvb x)) ?_ ?_).mono ?_
    · exact (ruv_ok br rv l p x k a0 a1 _ hA.rd hr hA.g0 hA.g1).mono fun e w1 q => ⟨q.1, q.2.1, q.2.2⟩
    · exact fun w1 q => (wuv_any bw _ [] x w1 (h.wr1 q.out.2) hx (by simp)).mono fun e w2 ⟨e1, v', r1, r2⟩ => ⟨e1, h.fin q.out.1 q.out.2 r1 r2⟩
    · intro e w' q
      refine AgPost.yes q (by have := uvb_len x hx; omega) (by omega) ?_
      rw [Nat.add_sub_cancel_left, hf]
  | error er =>
    obtain ⟨ad, had⟩ := errOf_form a0 a1 er
    refine (agw_2 br bw sec nn uu ii bv s lv 0 (by decide) false ad w (fun w1 => Rd w1 br rv l p ∧ Kept (fun i => i = br) (w.alloc (opB 2 sec nn uu ii bv s lv)) w1) (AgOut w br bw rv l p (uvb 0)) ?_ ?_).mono ?_
    · refine (ruv_err br rv l p er a0 a1 _ hA.rd hr hA.g0 hA.g1).mono fun e w1 q => ?_
      rw [had] at q
      exact quietly hA.rd q
    · exact fun w1 q => (wuv_any bw _ [] 0 w1 (h.wr1 q.out.2) (by decide) (by simp)).mono fun e w2 ⟨e1, v', r1, r2⟩ => ⟨e1, h.fin q.out.1 q.out.2 r1 r2⟩
    · exact fun e w' q => AgPost.no q (by have := uvb_len 0 (by decide); omega)
theorem again_3 (h : AgIn w br bw rv l p a0 a1 a2 a3 a7) : Calls Tryd.prog 8 #[.pointer (some ⟨br, 0, none⟩), .pointer (some ⟨bw, 0, none⟩), .agg #[.int .i64 3, .bool sec, .int .i64 nn, .int .u64 uu, .int .i64 ii, bv, .string s, lv]] w fun e w' => AgPost w br bw rv l p e w' := by
  have hA := h.alloc (opB 3 sec nn uu ii bv s lv)
  cases hr : rdu 0 0 (l.drop p) with
  | ok xk =>
    obtain ⟨x, k⟩ := xk
    have hx := rdu_lt (l.drop p) 0 0 x k (by omega) (by decide) (fun y hy => h.rd.isb y (List.mem_of_mem_drop hy)) hr
    have hf := rdu_form (fun y hy => h.rd.isb y (List.mem_of_mem_drop hy)) hr
    have hz : (zig (zag x)).toNat = x := by rw [zig_zag _ (by omega)]; omega
    have hb1 : -9223372036854775808 ≤ zag x ∧ zag x ≤ 9223372036854775807 := by unfold zag; split <;> omega
    refine (agw_3 br bw sec nn uu ii bv s lv (zag x) true a0 w (fun w1 => Rd w1 br rv l (p + k) ∧ Kept (fun i => i = br) (w.alloc (opB 3 sec nn uu ii bv s lv)) w1) (AgOut w br bw rv l (p + k) (uvb x)) ?_ ?_).mono ?_
    · exact (rvar_ok br rv l p x k a0 a1 _ hA.rd hr hA.g0 hA.g1).mono fun e w1 q => ⟨q.1, q.2.1, q.2.2⟩
    · exact fun w1 q => (wvar_any bw _ [] (zag x) w1 (h.wr1 q.out.2) hb1.1 hb1.2 (by simp)).mono fun e w2 ⟨e1, v', r1, r2⟩ => ⟨e1, h.fin q.out.1 q.out.2 (by rw [hz] at r1; exact r1) r2⟩
    · intro e w' q
      refine AgPost.yes q (by have := uvb_len x hx; omega) (by omega) ?_
      rw [Nat.add_sub_cancel_left, hf]
  | error er =>
    obtain ⟨ad, had⟩ := errOf_form a0 a1 er
    refine (agw_3 br bw sec nn uu ii bv s lv 0 false ad w (fun w1 => Rd w1 br rv l p ∧ Kept (fun i => i = br) (w.alloc (opB 3 sec nn uu ii bv s lv)) w1) (AgOut w br bw rv l p (uvb (zig 0).toNat)) ?_ ?_).mono ?_
    · refine (rvar_err br rv l p er a0 a1 _ hA.rd hr hA.g0 hA.g1).mono fun e w1 q => ?_
      rw [had] at q
      exact quietly hA.rd q
    · exact fun w1 q => (wvar_any bw _ [] 0 w1 (h.wr1 q.out.2) (by decide) (by decide) (by simp)).mono fun e w2 ⟨e1, v', r1, r2⟩ => ⟨e1, h.fin q.out.1 q.out.2 r1 r2⟩
    · exact fun e w' q => AgPost.no q (by have := uvb_len (zig 0).toNat (by decide); omega)
theorem again_4 (h : AgIn w br bw rv l p a0 a1 a2 a3 a7) : Calls Tryd.prog 8 #[.pointer (some ⟨br, 0, none⟩), .pointer (some ⟨bw, 0, none⟩), .agg #[.int .i64 4, .bool sec, .int .i64 nn, .int .u64 uu, .int .i64 ii, bv, .string s, lv]] w fun e w' => AgPost w br bw rv l p e w' := by
  have hA := h.alloc (opB 4 sec nn uu ii bv s lv)
  by_cases hp : p + 4 ≤ l.length
  · have hB : IsBytes ((l.drop p).take 4) := fun y hy => h.rd.isb y (List.mem_of_mem_drop (List.mem_of_mem_take hy))
    have hlen : ((l.drop p).take 4).length = 4 := by rw [List.length_take, List.length_drop]; omega
    have hv := le_vle _ hB
    rw [hlen] at hv
    have hlt : vle ((l.drop p).take 4) < 4294967296 := by
      have := vle_lt _ hB
      rw [hlen] at this
      omega
    refine (agw_4 br bw sec nn uu ii bv s lv (vle ((l.drop p).take 4)) true a0 w (fun w1 => Rd w1 br rv l (p + 4) ∧ Kept (fun i => i = br) (w.alloc (opB 4 sec nn uu ii bv s lv)) w1) (AgOut w br bw rv l (p + 4) (le 4 (vle ((l.drop p).take 4)))) ?_ ?_).mono ?_
    · exact (rw32_ok br rv l p _ hA.rd hp).mono fun e w1 q => ⟨q.1, q.2.1, q.2.2⟩
    · exact fun w1 q => (w32_any bw _ [] _ w1 (h.wr1 q.out.2) hlt (by simp)).mono fun e w2 ⟨e1, v', r1, r2⟩ => ⟨e1, h.fin q.out.1 q.out.2 r1 r2⟩
    · intro e w' q
      refine AgPost.yes q (by rw [le_length]; omega) (by omega) ?_
      rw [Nat.add_sub_cancel_left, hv]
  · refine (agw_4 br bw sec nn uu ii bv s lv 0 false a0 w (fun w1 => Rd w1 br rv l p ∧ Kept (fun i => i = br) (w.alloc (opB 4 sec nn uu ii bv s lv)) w1) (AgOut w br bw rv l p (le 4 0)) ?_ ?_).mono ?_
    · exact (rw32_short br rv l p a0 _ hA.rd (by omega) hA.g0).mono fun e w1 q => quietly hA.rd q
    · exact fun w1 q => (w32_any bw _ [] 0 w1 (h.wr1 q.out.2) (by decide) (by simp)).mono fun e w2 ⟨e1, v', r1, r2⟩ => ⟨e1, h.fin q.out.1 q.out.2 r1 r2⟩
    · exact fun e w' q => AgPost.no q (by rw [le_length]; omega)
theorem again_5 (h : AgIn w br bw rv l p a0 a1 a2 a3 a7) : Calls Tryd.prog 8 #[.pointer (some ⟨br, 0, none⟩), .pointer (some ⟨bw, 0, none⟩), .agg #[.int .i64 5, .bool sec, .int .i64 nn, .int .u64 uu, .int .i64 ii, bv, .string s, lv]] w fun e w' => AgPost w br bw rv l p e w' := by
  have hA := h.alloc (opB 5 sec nn uu ii bv s lv)
  by_cases hp : p + 8 ≤ l.length
  · have hB : IsBytes ((l.drop p).take 8) := fun y hy => h.rd.isb y (List.mem_of_mem_drop (List.mem_of_mem_take hy))
    have hlen : ((l.drop p).take 8).length = 8 := by rw [List.length_take, List.length_drop]; omega
    have hv := le_vle _ hB
    rw [hlen] at hv
    have hlt : vle ((l.drop p).take 8) < 18446744073709551616 := by
      have := vle_lt _ hB
      rw [hlen] at this
      omega
    refine (agw_5 br bw sec nn uu ii bv s lv (vle ((l.drop p).take 8)) true a0 w (fun w1 => Rd w1 br rv l (p + 8) ∧ Kept (fun i => i = br) (w.alloc (opB 5 sec nn uu ii bv s lv)) w1) (AgOut w br bw rv l (p + 8) (le 8 (vle ((l.drop p).take 8)))) ?_ ?_).mono ?_
    · exact (rw64_ok br rv l p _ hA.rd hp).mono fun e w1 q => ⟨q.1, q.2.1, q.2.2⟩
    · exact fun w1 q => (w64_any bw _ [] _ w1 (h.wr1 q.out.2) hlt (by simp)).mono fun e w2 ⟨e1, v', r1, r2⟩ => ⟨e1, h.fin q.out.1 q.out.2 r1 r2⟩
    · intro e w' q
      refine AgPost.yes q (by rw [le_length]; omega) (by omega) ?_
      rw [Nat.add_sub_cancel_left, hv]
  · refine (agw_5 br bw sec nn uu ii bv s lv 0 false a0 w (fun w1 => Rd w1 br rv l p ∧ Kept (fun i => i = br) (w.alloc (opB 5 sec nn uu ii bv s lv)) w1) (AgOut w br bw rv l p (le 8 0)) ?_ ?_).mono ?_
    · exact (rw64_short br rv l p a0 _ hA.rd (by omega) hA.g0).mono fun e w1 q => quietly hA.rd q
    · exact fun w1 q => (w64_any bw _ [] 0 w1 (h.wr1 q.out.2) (by decide) (by simp)).mono fun e w2 ⟨e1, v', r1, r2⟩ => ⟨e1, h.fin q.out.1 q.out.2 r1 r2⟩
    · exact fun e w' q => AgPost.no q (by rw [le_length]; omega)
theorem again_10 (h : AgIn w br bw rv l p a0 a1 a2 a3 a7) (hm2 : nn ≤ 9223372036854775807) : Calls Tryd.prog 8 #[.pointer (some ⟨br, 0, none⟩), .pointer (some ⟨bw, 0, none⟩), .agg #[.int .i64 10, .bool sec, .int .i64 nn, .int .u64 uu, .int .i64 ii, bv, .string s, lv]] w fun e w' => AgPost w br bw rv l p e w' := by
  have hA := h.alloc (opB 10 sec nn uu ii bv s lv)
  by_cases hok : ∃ x k, rdu 0 0 (l.drop p) = .ok (x, k) ∧ (x : Int) ≤ nn
  · obtain ⟨x, k, hr, hm⟩ := hok
    have hx : x < 18446744073709551616 := by omega
    have hf := rdu_form (fun y hy => h.rd.isb y (List.mem_of_mem_drop hy)) hr
    refine (agw_10 br bw sec nn uu ii bv s lv x (by omega) true a0 w (fun w1 => Rd w1 br rv l (p + k) ∧ Kept (fun i => i = br) (w.alloc (opB 10 sec nn uu ii bv s lv)) w1) (AgOut w br bw rv l (p + k) (uvb x)) ?_ ?_).mono ?_
    · exact (rupto_ok br rv l p x k nn a0 a1 _ hA.rd hr hm hm2 hA.g0 hA.g1).mono fun e w1 q => ⟨q.1, q.2.1, q.2.2⟩
    · exact fun w1 q => (wuv_any bw _ [] x w1 (h.wr1 q.out.2) hx (by simp)).mono fun e w2 ⟨e1, v', r1, r2⟩ => ⟨e1, h.fin q.out.1 q.out.2 r1 r2⟩
    · intro e w' q
      refine AgPost.yes q (by have := uvb_len x hx; omega) (by omega) ?_
      rw [Nat.add_sub_cancel_left, hf]
  · obtain ⟨ad, had⟩ := up_bad hA nn hm2 (fun x k hr => by
      by_cases h1 : (x : Int) ≤ nn
      · exact absurd ⟨x, k, hr, h1⟩ hok
      · omega)
    refine (agw_10 br bw sec nn uu ii bv s lv 0 (by decide) false ad w (fun w1 => Rd w1 br rv l p ∧ Kept (fun i => i = br) (w.alloc (opB 10 sec nn uu ii bv s lv)) w1) (AgOut w br bw rv l p (uvb 0)) ?_ ?_).mono ?_
    · exact (rupto_bad br rv l p nn ad _ hA.rd had).mono fun e w1 q => quietly hA.rd q
    · exact fun w1 q => (wuv_any bw _ [] 0 w1 (h.wr1 q.out.2) (by decide) (by simp)).mono fun e w2 ⟨e1, v', r1, r2⟩ => ⟨e1, h.fin q.out.1 q.out.2 r1 r2⟩
    · exact fun e w' q => AgPost.no q (by have := uvb_len 0 (by decide); omega)
end
theorem risb_ge : ∀ (l : List Int) (s : Nat), l.length ≤ (risb l s).length
  | [], _ => Nat.zero_le _
  | x :: r, s => by
    have h := risb_ge r (x.toNat + 1)
    have h2 : 1 ≤ (uvb (x.toNat - s)).length := by rw [uvb_length]; rw [ulen]; split <;> omega
    have e : risb (x :: r) s = uvb (x.toNat - s) ++ risb r (x.toNat + 1) := rfl
    rw [e, List.length_append, List.length_cons]
    omega
theorem errOf2_form (a0 a1 a2 : Addr) (er : Nat) : ∃ ad, errOf2 a0 a1 a2 er = errV ad := by
  unfold errOf2 errOf
  split
  · exact ⟨_, rfl⟩
  · split <;> exact ⟨_, rfl⟩
theorem errOf3_form (a0 a2 a3 : Addr) (er : Nat) : ∃ ad, errOf3 a0 a2 a3 er = errV ad := by
  unfold errOf3
  split
  · exact ⟨_, rfl⟩
  · split <;> exact ⟨_, rfl⟩
section
variable {w : World} {br bw : Nat} {rv : Value} {l : List Int} {p : Nat} {a0 a1 a2 a3 a7 : Addr}
theorem take_le {l : List Int} {p k : Nat} : ((l.drop p).take k).length ≤ l.length := by
  rw [List.length_take, List.length_drop]; omega
/-- A refused list: none, and nothing moves. -/
def NoneP (w0 : World) (br : Nat) (rv : Value) (l : List Int) (p : Nat) : Option Addr → Nat → Nat → World → Prop := fun a n c w1 => (a = none ∧ n = 0 ∧ c = 0) ∧ Rd w1 br rv l p ∧ Kept (fun i => i = br) w0 w1
theorem quietly0 {e : Ending} {w0 w' : World} {ad : Addr} (h : Rd w0 br rv l p) (hq : e = .returned (.tuple #[.slice none 0 0, errV ad]) ∧ ∃ n, w' = w0.drewN n) : ∃ a n c, e = .returned (.tuple #[.slice a n c, erV false ad]) ∧ Hid (NoneP w0 br rv l p a n c w') := by
  obtain ⟨rfl, n, rfl⟩ := hq
  exact ⟨none, 0, 0, rfl, ⟨rfl, rfl, rfl⟩, h.drewN n, (Kept.drewN _ _).mono (fun _ f => f.elim)⟩
variable (sec : Bool) (nn uu ii : Int) (bv : Value) (s : ByteArray) (lv : Value)
theorem again_6 (h : AgIn w br bw rv l p a0 a1 a2 a3 a7) : Calls Tryd.prog 8 #[.pointer (some ⟨br, 0, none⟩), .pointer (some ⟨bw, 0, none⟩), .agg #[.int .i64 6, .bool sec, .int .i64 nn, .int .u64 uu, .int .i64 ii, bv, .string s, lv]] w fun e w' => AgPost w br bw rv l p e w' := by
  have hA := h.alloc (opB 6 sec nn uu ii bv s lv)
  have hsm := h.sm
  have bad : ∀ ad, (Calls Tryd.prog 18 #[.pointer (some ⟨br, 0, none⟩), .int .i64 nn] (w.alloc (opB 6 sec nn uu ii bv s lv)) fun e w1 => e = .returned (.tuple #[.slice none 0 0, errV ad]) ∧ ∃ m, w1 = (w.alloc (opB 6 sec nn uu ii bv s lv)).drewN m) → Calls Tryd.prog 8 #[.pointer (some ⟨br, 0, none⟩), .pointer (some ⟨bw, 0, none⟩), .agg #[.int .i64 6, .bool sec, .int .i64 nn, .int .u64 uu, .int .i64 ii, bv, .string s, lv]] w fun e w' => AgPost w br bw rv l p e w' := by
    intro ad hc
    refine (agw_6 br bw sec nn uu ii bv s lv false ad w (NoneP (w.alloc (opB 6 sec nn uu ii bv s lv)) br rv l p) (AgOut w br bw rv l p []) ?_ ?_).mono ?_
    · exact hc.mono fun e w1 q => quietly0 hA.rd q
    · intro w1 a n c q
      obtain ⟨⟨rfl, rfl, rfl⟩, q1, q2⟩ := q.out
      exact (raw_any bw _ [] [] none 0 w1 (h.wr1 q2) (fun e => (e rfl).elim) (fun _ => rfl) (by simp)).mono fun e w2 ⟨e1, v', r1, r2⟩ => ⟨e1, h.fin q1 q2 r1 r2⟩
    · exact fun e w' q => AgPost.no q (by simp)
  by_cases hn : nn < 0
  · exact bad a7 (rraw_neg br nn a7 _ hn hA.g7)
  · obtain ⟨n, rfl⟩ : ∃ n : Nat, nn = n := ⟨nn.toNat, by omega⟩
    by_cases hp : p + n ≤ l.length
    · have hlen : ((l.drop p).take n).length = n := by rw [List.length_take, List.length_drop]; omega
      refine (agw_6 br bw sec n uu ii bv s lv true a0 w (fun a m c w1 => (m = n ∧ BytesAt w1 a ((l.drop p).take n) ∧ (a = none → c = 0)) ∧ Rd w1 br rv l (p + n) ∧ Kept (fun i => i = br) (w.alloc (opB 6 sec n uu ii bv s lv)) w1) (AgOut w br bw rv l (p + n) ((l.drop p).take n)) ?_ ?_).mono ?_
      · refine (rraw_ok br rv l p n _ hA.rd hp).mono ?_
        rintro e w1 ⟨g, e1, _, ho, r1, r2⟩
        obtain ⟨a, c, e2, hb, _⟩ := bytes_of_own ho
        simp only [Value.slice.injEq] at e2
        obtain ⟨rfl, _, rfl⟩ := e2
        exact ⟨_, n, n, e1, ⟨rfl, hb, (fun e => nomatch e)⟩, r1, r2⟩
      · intro w1 a m c q
        obtain ⟨⟨rfl, q3, q4⟩, q1, q2⟩ := q.out
        have r := raw_any bw _ [] ((l.drop p).take m) a c w1 (h.wr1 q2) q3 q4 (by rw [hlen]; simp; omega)
        rw [hlen] at r
        exact r.mono fun e w2 ⟨e1, v', r1, r2⟩ => ⟨e1, h.fin q1 q2 r1 r2⟩
      · intro e w' q
        exact AgPost.yes q (by omega) (by omega) (by rw [Nat.add_sub_cancel_left])
    · exact bad a0 (rraw_short br rv l p n a0 _ hA.rd (by omega) hA.g0)
theorem again_7 (h : AgIn w br bw rv l p a0 a1 a2 a3 a7) (hm2 : nn ≤ 9223372036854775807) : Calls Tryd.prog 8 #[.pointer (some ⟨br, 0, none⟩), .pointer (some ⟨bw, 0, none⟩), .agg #[.int .i64 7, .bool sec, .int .i64 nn, .int .u64 uu, .int .i64 ii, bv, .string s, lv]] w fun e w' => AgPost w br bw rv l p e w' := by
  have hA := h.alloc (opB 7 sec nn uu ii bv s lv)
  have hsm := h.sm
  have bad : ∀ ad, (Calls Tryd.prog 36 #[.pointer (some ⟨br, 0, none⟩), .int .i64 nn] (w.alloc (opB 7 sec nn uu ii bv s lv)) fun e w1 => e = .returned (.tuple #[.string ByteArray.empty, errV ad]) ∧ ∃ m, w1 = (w.alloc (opB 7 sec nn uu ii bv s lv)).drewN m) → Calls Tryd.prog 8 #[.pointer (some ⟨br, 0, none⟩), .pointer (some ⟨bw, 0, none⟩), .agg #[.int .i64 7, .bool sec, .int .i64 nn, .int .u64 uu, .int .i64 ii, bv, .string s, lv]] w fun e w' => AgPost w br bw rv l p e w' := by
    intro ad hc
    refine (agw_7 br bw sec nn uu ii bv s lv ByteArray.empty false ad w (fun w1 => Rd w1 br rv l p ∧ Kept (fun i => i = br) (w.alloc (opB 7 sec nn uu ii bv s lv)) w1) (AgOut w br bw rv l p (uvb ByteArray.empty.size ++ sb ByteArray.empty)) ?_ ?_).mono ?_
    · exact hc.mono fun e w1 q => quietly hA.rd q
    · exact fun w1 q => (text_any bw _ [] ByteArray.empty w1 (h.wr1 q.out.2) (by simp)).mono fun e w2 ⟨e1, v', r1, r2⟩ => ⟨e1, h.fin q.out.1 q.out.2 r1 r2⟩
    · refine fun e w' q => AgPost.no q ?_
      rw [List.length_append, sb_length]
      have := uvb_len ByteArray.empty.size (by decide)
      have : ByteArray.empty.size = 0 := rfl
      omega
  by_cases hok : ∃ x k, rdu 0 0 (l.drop p) = .ok (x, k) ∧ (x : Int) ≤ nn
  · obtain ⟨n, k, hr, hm⟩ := hok
    by_cases hp : p + k + n ≤ l.length
    · have hf := rdu_form (fun y hy => h.rd.isb y (List.mem_of_mem_drop hy)) hr
      have hB : IsBytes ((l.drop (p + k)).take n) := fun y hy => h.rd.isb y (List.mem_of_mem_drop (List.mem_of_mem_take hy))
      have hlen : ((l.drop (p + k)).take n).length = n := by rw [List.length_take, List.length_drop]; omega
      have hsz : (strOfNums ((l.drop (p + k)).take n)).size = n := by rw [strOfNums_size, hlen]
      refine (agw_7 br bw sec nn uu ii bv s lv (strOfNums ((l.drop (p + k)).take n)) true a0 w (fun w1 => Rd w1 br rv l (p + k + n) ∧ Kept (fun i => i = br) (w.alloc (opB 7 sec nn uu ii bv s lv)) w1) (AgOut w br bw rv l (p + k + n) (uvb n ++ (l.drop (p + k)).take n)) ?_ ?_).mono ?_
      · exact (rtext_ok br rv l p n k nn a0 a1 _ hA.rd hr hm hm2 hp hA.g0 hA.g1).mono fun e w1 q => ⟨q.1, q.2.1, q.2.2⟩
      · intro w1 q
        refine (text_any bw _ [] (strOfNums ((l.drop (p + k)).take n)) w1 (h.wr1 q.out.2) (by rw [hsz]; simp; omega)).mono ?_
        rintro e w2 ⟨e1, v', r1, r2⟩
        rw [hsz, sb_str hB] at r1
        exact ⟨e1, h.fin q.out.1 q.out.2 r1 r2⟩
      · intro e w' q
        have ex : uvb n ++ (l.drop (p + k)).take n = (l.drop p).take (p + k + n - p) := by
          rw [show p + k + n - p = k + n by omega, take_split, hf]
        exact AgPost.yes q (by rw [ex]; have := take_le (l := l) (p := p) (k := p + k + n - p); omega) (by omega) ex
    · exact bad a0 (rtext_short br rv l p n k nn a0 a1 _ hA.rd hr hm hm2 (by omega) hA.g0 hA.g1)
  · obtain ⟨ad, had⟩ := up_bad hA nn hm2 (fun x k hr => by
      by_cases h1 : (x : Int) ≤ nn
      · exact absurd ⟨x, k, hr, h1⟩ hok
      · omega)
    exact bad ad (rtext_bad br rv l p nn ad _ hA.rd had)
theorem intsFar_new {w0 w1 : World} {a : Option Addr} {c : Nat} {u : Value} {xs : List Int} (ho : w1.ownsRow w0.heap.size 3 1 u xs.length (is xs)) (hb : bw < w0.heap.size) (hu : u = .slice a xs.length c) : IntsFar w1 a xs bw (.slice none 0 0) := by
  obtain ⟨a', c', e, _, hcl⟩ := ints_of_own ho
  rw [hu] at e
  simp only [Value.slice.injEq] at e
  obtain ⟨rfl, _, _⟩ := e
  intro hne
  obtain ⟨b, off, e, hbb, _, hc⟩ := hcl hne
  refine ⟨b, off, e, ?_, hc⟩
  rintro (e1 | e1)
  · omega
  · simp [Value.ownBlock] at e1
theorem again_8 (h : AgIn w br bw rv l p a0 a1 a2 a3 a7) (hm2 : nn ≤ 9223372036854775807) : Calls Tryd.prog 8 #[.pointer (some ⟨br, 0, none⟩), .pointer (some ⟨bw, 0, none⟩), .agg #[.int .i64 8, .bool sec, .int .i64 nn, .int .u64 uu, .int .i64 ii, bv, .string s, lv]] w fun e w' => AgPost w br bw rv l p e w' := by
  have hA := h.alloc (opB 8 sec nn uu ii bv s lv)
  have hsm := h.sm
  have hbw : bw < (w.alloc (opB 8 sec nn uu ii bv s lv)).heap.size := Nat.lt_of_lt_of_le h.wr.lt (Kept.alloc w _).size
  have bad : ∀ ad, (Calls Tryd.prog 16 #[.pointer (some ⟨br, 0, none⟩), .int .i64 nn] (w.alloc (opB 8 sec nn uu ii bv s lv)) fun e w1 => ∃ a n c, e = .returned (.tuple #[.slice a n c, erV false ad]) ∧ Hid (NoneP (w.alloc (opB 8 sec nn uu ii bv s lv)) br rv l p a n c w1)) → Calls Tryd.prog 8 #[.pointer (some ⟨br, 0, none⟩), .pointer (some ⟨bw, 0, none⟩), .agg #[.int .i64 8, .bool sec, .int .i64 nn, .int .u64 uu, .int .i64 ii, bv, .string s, lv]] w fun e w' => AgPost w br bw rv l p e w' := by
    intro ad hc
    refine (agw_8 br bw sec nn uu ii bv s lv false ad w (NoneP (w.alloc (opB 8 sec nn uu ii bv s lv)) br rv l p) (AgOut w br bw rv l p (rising [])) hc ?_).mono ?_
    · intro w1 a n c q
      obtain ⟨⟨rfl, rfl, rfl⟩, q1, q2⟩ := q.out
      exact (rising_any bw _ [] [] none 0 w1 (h.wr1 q2) (fun e => (e rfl).elim) (fun x hx => by cases hx) (fun x hx => by cases hx) rfl (by simp) (by simp)).mono fun e w2 ⟨e1, v', r1, r2⟩ => ⟨e1, h.fin q1 q2 r1 r2⟩
    · refine fun e w' q => AgPost.no q ?_
      have e0 : rising [] = uvb 0 := by simp [rising, risb]
      rw [e0]
      have := uvb_len 0 (by decide)
      omega
  by_cases hok : ∃ x k, rdu 0 0 (l.drop p) = .ok (x, k) ∧ (x : Int) ≤ nn
  · obtain ⟨n, k, hr, hm⟩ := hok
    have c1 := rris_any br rv l p n k nn a0 a1 a2 _ hA.rd hr hm hm2 hsm hA.g0 hA.g1 hA.g2
    cases hd : rdr n 0 (l.drop (p + k)) with
    | error er =>
      rw [hd] at c1
      obtain ⟨ad, had⟩ := errOf2_form a0 a1 a2 er
      refine bad ad (c1.mono ?_)
      rintro e w1 ⟨e1, r1, r2⟩
      rw [had] at e1
      exact ⟨none, 0, 0, e1, ⟨rfl, rfl, rfl⟩, r1, r2.mono (fun _ f => f.elim)⟩
    | ok xm =>
      obtain ⟨xs, m⟩ := xm
      rw [hd] at c1
      have hf := rdu_form (fun y hy => h.rd.isb y (List.mem_of_mem_drop hy)) hr
      obtain ⟨f1, f2, f3, f4⟩ := rdr_form n 0 (l.drop (p + k)) xs m (fun y hy => h.rd.isb y (List.mem_of_mem_drop hy)) hd
      have hge := risb_ge xs 0
      rw [← f3] at hge
      have htl := take_le (l := l) (p := p + k) (k := m)
      have hmem := f2.mem
      refine (agw_8 br bw sec nn uu ii bv s lv true a0 w (fun a n' c w1 => (n' = xs.length ∧ w1.ownsRow (w.alloc (opB 8 sec nn uu ii bv s lv)).heap.size 3 1 (.slice a xs.length c) xs.length (is xs)) ∧ Rd w1 br rv l (p + k + m) ∧ Kept (fun i => i = br) (w.alloc (opB 8 sec nn uu ii bv s lv)) w1) (AgOut w br bw rv l (p + k + m) (rising xs)) ?_ ?_).mono ?_
      · refine Calls.mono c1 ?_
        rintro e w1 ⟨u, e1, ho, r1, r2⟩
        obtain ⟨a, c, rfl, _, _⟩ := ints_of_own ho
        exact ⟨a, xs.length, c, e1, ⟨rfl, ho⟩, r1, r2⟩
      · intro w1 a n' c q
        obtain ⟨⟨rfl, ho⟩, q1, q2⟩ := q.out
        exact (rising_any bw _ [] xs a c w1 (h.wr1 q2) (intsFar_new ho hbw rfl) (fun x hx => by have := hmem x hx; omega) (fun x hx => by have := hmem x hx; omega) f2.rise (by omega) (by simp; omega)).mono fun e w2 ⟨e1, v', r1, r2⟩ => ⟨e1, h.fin q1 q2 r1 r2⟩
      · intro e w' q
        have ex : rising xs = (l.drop p).take (p + k + m - p) := by
          rw [show p + k + m - p = k + m by omega, take_split, hf, f3, rising, f1]
        exact AgPost.yes q (by rw [ex]; have := take_le (l := l) (p := p) (k := p + k + m - p); omega) (by omega) ex
  · obtain ⟨ad, had⟩ := up_bad hA nn hm2 (fun x k hr => by
      by_cases h1 : (x : Int) ≤ nn
      · exact absurd ⟨x, k, hr, h1⟩ hok
      · omega)
    exact bad ad ((rris_bad br rv l p nn ad _ hA.rd had).mono fun e w1 q => quietly0 hA.rd q)
theorem again_9 (h : AgIn w br bw rv l p a0 a1 a2 a3 a7) (hm2 : nn ≤ 9223372036854775807) : Calls Tryd.prog 8 #[.pointer (some ⟨br, 0, none⟩), .pointer (some ⟨bw, 0, none⟩), .agg #[.int .i64 9, .bool sec, .int .i64 nn, .int .u64 uu, .int .i64 ii, bv, .string s, lv]] w fun e w' => AgPost w br bw rv l p e w' := by
  have hA := h.alloc (opB 9 sec nn uu ii bv s lv)
  have hsm := h.sm
  have hbw : bw < (w.alloc (opB 9 sec nn uu ii bv s lv)).heap.size := Nat.lt_of_lt_of_le h.wr.lt (Kept.alloc w _).size
  have bad : ∀ ad, (Calls Tryd.prog 17 #[.pointer (some ⟨br, 0, none⟩), .int .i64 nn] (w.alloc (opB 9 sec nn uu ii bv s lv)) fun e w1 => ∃ a n c, e = .returned (.tuple #[.slice a n c, erV false ad]) ∧ Hid (NoneP (w.alloc (opB 9 sec nn uu ii bv s lv)) br rv l p a n c w1)) → Calls Tryd.prog 8 #[.pointer (some ⟨br, 0, none⟩), .pointer (some ⟨bw, 0, none⟩), .agg #[.int .i64 9, .bool sec, .int .i64 nn, .int .u64 uu, .int .i64 ii, bv, .string s, lv]] w fun e w' => AgPost w br bw rv l p e w' := by
    intro ad hc
    refine (agw_9 br bw sec nn uu ii bv s lv false ad w (NoneP (w.alloc (opB 9 sec nn uu ii bv s lv)) br rv l p) (AgOut w br bw rv l p (packed [])) hc ?_).mono ?_
    · intro w1 a n c q
      obtain ⟨⟨rfl, rfl, rfl⟩, q1, q2⟩ := q.out
      exact (packed_any bw _ [] [] none 0 w1 (h.wr1 q2) (fun e => (e rfl).elim) (fun x hx => by cases hx) (fun x hx => by cases hx) (.inr (by simp)) (by simp) (by simp)).mono fun e w2 ⟨e1, v', r1, r2⟩ => ⟨e1, h.fin q1 q2 r1 r2⟩
    · refine fun e w' q => AgPost.no q ?_
      have e0 : packed [] = uvb 0 := by simp [packed]
      rw [e0]
      have := uvb_len 0 (by decide)
      omega
  by_cases hok : ∃ x k, rdu 0 0 (l.drop p) = .ok (x, k) ∧ (x : Int) ≤ nn
  · obtain ⟨n, k, hr, hm⟩ := hok
    have c1 := rpak_any br rv l p n k nn a0 a1 a2 a3 _ hA.rd hr hm hm2 hsm hA.g0 hA.g1 hA.g2 hA.g3
    cases hd : rdp n (l.drop (p + k)) with
    | error er =>
      rw [hd] at c1
      obtain ⟨ad, had⟩ := errOf3_form a0 a2 a3 er
      refine bad ad (c1.mono ?_)
      rintro e w1 ⟨e1, r1, r2⟩
      rw [had] at e1
      exact ⟨none, 0, 0, e1, ⟨rfl, rfl, rfl⟩, r1, r2.mono (fun _ f => f.elim)⟩
    | ok xm =>
      obtain ⟨xs, m⟩ := xm
      rw [hd] at c1
      have hf := rdu_form (fun y hy => h.rd.isb y (List.mem_of_mem_drop hy)) hr
      obtain ⟨f1, f2, f3, f4, f5, f6⟩ := rdp_form (fun y hy => h.rd.isb y (List.mem_of_mem_drop hy)) hd
      have htl := take_le (l := l) (p := p + k) (k := m)
      have hpl := pbody_length xs
      rw [← f5] at hpl
      have hz0 : bitLen (orl xs) = 0 → orl xs = 0 := by
        intro e
        have := (bitLen_le_iff (orl xs) 0).1 (by omega)
        simpa using this
      have hxl : xs.length ≤ 8796093022208 := by
        by_cases hb : bitLen (orl xs) = 0
        · have : ¬ 65536 < xs.length := fun hh => f4 ⟨hz0 hb, hh⟩
          omega
        · have h1 : xs.length * 1 ≤ xs.length * bitLen (orl xs) := Nat.mul_le_mul_left _ (by omega)
          split at hpl
          · rename_i he
            rw [he]; simp
          · omega
      refine (agw_9 br bw sec nn uu ii bv s lv true a0 w (fun a n' c w1 => (n' = xs.length ∧ w1.ownsRow (w.alloc (opB 9 sec nn uu ii bv s lv)).heap.size 3 1 (.slice a xs.length c) xs.length (is xs)) ∧ Rd w1 br rv l (p + k + m) ∧ Kept (fun i => i = br) (w.alloc (opB 9 sec nn uu ii bv s lv)) w1) (AgOut w br bw rv l (p + k + m) (packed xs)) ?_ ?_).mono ?_
      · refine Calls.mono c1 ?_
        rintro e w1 ⟨u, e1, ho, r1, r2⟩
        obtain ⟨a, c, rfl, _, _⟩ := ints_of_own ho
        exact ⟨a, xs.length, c, e1, ⟨rfl, ho⟩, r1, r2⟩
      · intro w1 a n' c q
        obtain ⟨⟨rfl, ho⟩, q1, q2⟩ := q.out
        refine (packed_any bw _ [] xs a c w1 (h.wr1 q2) (intsFar_new ho hbw rfl) f3 f2 ?_ (by omega) (by simp; omega)).mono fun e w2 ⟨e1, v', r1, r2⟩ => ⟨e1, h.fin q1 q2 r1 r2⟩
        by_cases hb : bitLen (orl xs) = 0
        · exact .inr (by have : ¬ 65536 < xs.length := fun hh => f4 ⟨hz0 hb, hh⟩; omega)
        · exact .inl hb
      · intro e w' q
        have ex : packed xs = (l.drop p).take (p + k + m - p) := by
          rw [show p + k + m - p = k + m by omega, take_split, hf, f5, packed_eq, f1]
        exact AgPost.yes q (by rw [ex]; have := take_le (l := l) (p := p) (k := p + k + m - p); omega) (by omega) ex
  · obtain ⟨ad, had⟩ := up_bad hA nn hm2 (fun x k hr => by
      by_cases h1 : (x : Int) ≤ nn
      · exact absurd ⟨x, k, hr, h1⟩ hok
      · omega)
    exact bad ad ((rpak_bad br rv l p nn ad _ hA.rd had).mono fun e w1 q => quietly0 hA.rd q)
/-- Every kind. -/
theorem again_all (kd : Int) (h : AgIn w br bw rv l p a0 a1 a2 a3 a7) (hm2 : nn ≤ 9223372036854775807) : Calls Tryd.prog 8 #[.pointer (some ⟨br, 0, none⟩), .pointer (some ⟨bw, 0, none⟩), .agg #[.int .i64 kd, .bool sec, .int .i64 nn, .int .u64 uu, .int .i64 ii, bv, .string s, lv]] w fun e w' => AgPost w br bw rv l p e w' := by
  by_cases k1 : kd = 1
  · subst k1; exact again_1 sec nn uu ii bv s lv h
  by_cases k2 : kd = 2
  · subst k2; exact again_2 sec nn uu ii bv s lv h
  by_cases k3 : kd = 3
  · subst k3; exact again_3 sec nn uu ii bv s lv h
  by_cases k4 : kd = 4
  · subst k4; exact again_4 sec nn uu ii bv s lv h
  by_cases k5 : kd = 5
  · subst k5; exact again_5 sec nn uu ii bv s lv h
  by_cases k6 : kd = 6
  · subst k6; exact again_6 sec nn uu ii bv s lv h
  by_cases k7 : kd = 7
  · subst k7; exact again_7 sec nn uu ii bv s lv h hm2
  by_cases k8 : kd = 8
  · subst k8; exact again_8 sec nn uu ii bv s lv h hm2
  by_cases k9 : kd = 9
  · subst k9; exact again_9 sec nn uu ii bv s lv h hm2
  by_cases k10 : kd = 10
  · subst k10; exact again_10 sec nn uu ii bv s lv h hm2
  refine (agw_0 br bw kd sec nn uu ii bv s lv w (by omega)).mono ?_
  rintro e w' ⟨e1, k⟩
  exact AgPost.no ⟨e1, _, h.rd.kept k (fun f => f) (fun _ _ f => f), h.wr.kept k (fun _ _ f => f), k.mono (fun _ f => f.elim)⟩ (by simp)
end
end Go.Proofs.YtbcohdioapmlgaaDoor
