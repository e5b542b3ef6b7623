import Derived.Test.YtopmdpfnigceeaaDoorMay
namespace Go.Proofs.YtopmdpfnigceeaaDoor
open Go.ChangeShapes Go.WideShapes Go.ChangeAt Go.RowKit

/-- A call of a script, boxed. -/
def opB (kd : Int) (sec : Bool) (nn uu ii : Int) (bv : Value) (s : ByteArray) (lv : Value) : Obj := .cells #[.int .i64 kd, .bool sec, .int .i64 nn, .int .u64 uu, .int .i64 ii, bv, .string s, lv] 30
theorem WStep.alloc (w : World) (o : Obj) (bw : Nat) (v : Value) : WStep w (w.alloc o) bw v v := ⟨(Kept.alloc w o).mono (fun _ f => f.elim), fun _ h => .inl h⟩
theorem Wr.alloc {w : World} {bw : Nat} {v : Value} {xs : List Int} (h : Wr w bw v xs) (o : Obj) : Wr (w.alloc o) bw v xs := h.kept (Kept.alloc w o) (fun _ _ f => f)
theorem BytesAt.alloc {w : World} {a : Option Addr} {l : List Int} (h : BytesAt w a l) (o : Obj) : BytesAt (w.alloc o) a l := by
  intro hne
  obtain ⟨b, off, rfl, hc⟩ := h hne
  exact ⟨b, off, rfl, fun k hk => (Kept.alloc w o).cell (hc k hk) (fun f => f)⟩
def WPut (bw : Nat) (v : Value) (xs : List Int) (w : World) (took : Bool) (b : List Int) (e : Ending) (w' : World) : Prop :=
  e = .returned (.tuple #[.bool took, .bool true]) ∧ ∃ v', Wr w' bw v' (xs ++ b) ∧ WStep w w' bw v v'
theorem WPut.of {bw : Nat} {v v' : Value} {xs b : List Int} {w w1 w' : World} {took : Bool} (k : WStep w w1 bw v v) (hw : Wr w' bw v' (xs ++ b)) (hs : WStep w1 w' bw v v') : WPut bw v xs w took b (.returned (.tuple #[.bool took, .bool true])) w' :=
  ⟨rfl, v', hw, k.trans hs⟩

set_option maxRecDepth 20000 in
set_option maxHeartbeats 1000000 in
theorem write_1 (bw : Nat) (v : Value) (xs : List Int) (sec : Bool) (nn uu ii : Int) (bv : Value) (s : ByteArray) (lv : Value) (w : World) (h : Wr w bw v xs) (hr : xs.length + 1 ≤ 140737488355328) :
    Calls Tryd.prog 9 #[.pointer (some ⟨bw, 0, none⟩), .agg #[.int .i64 1, .bool sec, .int .i64 nn, .int .u64 uu, .int .i64 ii, bv, .string s, lv]] w fun e w' => WPut bw v xs w true [nn % 256] e w' := by
  have C1 := hide (fun x => byte_any bw v xs x (w.alloc (opB 1 sec nn uu ii bv s lv)) (h.alloc _) hr)
  go_enter Tryd.func9, Tryd.ntmps9
  go_wp2_with (go_at_call 21; refine (C1.out _).mono ?_; rintro e w' ⟨rfl, v', q1, q2⟩)
  go_ret2
  exact WPut.of (WStep.alloc _ _ _ _) q1 q2

set_option maxRecDepth 20000 in
set_option maxHeartbeats 1000000 in
theorem write_2 (bw : Nat) (v : Value) (xs : List Int) (sec : Bool) (nn : Int) (uu : Nat) (ii : Int) (bv : Value) (s : ByteArray) (lv : Value) (w : World) (h : Wr w bw v xs) (hn : uu < 18446744073709551616) (hr : xs.length + 10 ≤ 140737488355328) :
    Calls Tryd.prog 9 #[.pointer (some ⟨bw, 0, none⟩), .agg #[.int .i64 2, .bool sec, .int .i64 nn, .int .u64 uu, .int .i64 ii, bv, .string s, lv]] w fun e w' => WPut bw v xs w true (uvb uu) e w' := by
  have C1 := hide (wuv_any bw v xs uu (w.alloc (opB 2 sec nn uu ii (bv) s (lv))) (h.alloc _) hn hr)
  go_enter Tryd.func9, Tryd.ntmps9
  go_wp2_with (go_at_call 19; refine (C1.out).mono ?_; rintro e w' ⟨rfl, v', q1, q2⟩)
  go_ret2
  exact WPut.of (WStep.alloc _ _ _ _) q1 q2

set_option maxRecDepth 20000 in
set_option maxHeartbeats 1000000 in
theorem write_10 (bw : Nat) (v : Value) (xs : List Int) (sec : Bool) (nn : Int) (uu : Nat) (ii : Int) (bv : Value) (s : ByteArray) (lv : Value) (w : World) (h : Wr w bw v xs) (hn : uu < 18446744073709551616) (hr : xs.length + 10 ≤ 140737488355328) :
    Calls Tryd.prog 9 #[.pointer (some ⟨bw, 0, none⟩), .agg #[.int .i64 10, .bool sec, .int .i64 nn, .int .u64 uu, .int .i64 ii, bv, .string s, lv]] w fun e w' => WPut bw v xs w true (uvb uu) e w' := by
  have C1 := hide (wuv_any bw v xs uu (w.alloc (opB 10 sec nn uu ii (bv) s (lv))) (h.alloc _) hn hr)
  go_enter Tryd.func9, Tryd.ntmps9
  go_wp2_with (go_at_call 19; refine (C1.out).mono ?_; rintro e w' ⟨rfl, v', q1, q2⟩)
  go_ret2
  exact WPut.of (WStep.alloc _ _ _ _) q1 q2

set_option maxRecDepth 20000 in
set_option maxHeartbeats 1000000 in
theorem write_3 (bw : Nat) (v : Value) (xs : List Int) (sec : Bool) (nn : Int) (uu ii : Int) (bv : Value) (s : ByteArray) (lv : Value) (w : World) (h : Wr w bw v xs) (h0 : -9223372036854775808 ≤ ii) (h1 : ii ≤ 9223372036854775807) (hr : xs.length + 10 ≤ 140737488355328) :
    Calls Tryd.prog 9 #[.pointer (some ⟨bw, 0, none⟩), .agg #[.int .i64 3, .bool sec, .int .i64 nn, .int .u64 uu, .int .i64 ii, bv, .string s, lv]] w fun e w' => WPut bw v xs w true (uvb (zig ii).toNat) e w' := by
  have C1 := hide (wvar_any bw v xs ii (w.alloc (opB 3 sec nn uu ii (bv) s (lv))) (h.alloc _) h0 h1 hr)
  go_enter Tryd.func9, Tryd.ntmps9
  go_wp2_with (go_at_call 22; refine (C1.out).mono ?_; rintro e w' ⟨rfl, v', q1, q2⟩)
  go_ret2
  exact WPut.of (WStep.alloc _ _ _ _) q1 q2

set_option maxRecDepth 20000 in
set_option maxHeartbeats 1000000 in
theorem write_4 (bw : Nat) (v : Value) (xs : List Int) (sec : Bool) (nn : Int) (uu : Nat) (ii : Int) (bv : Value) (s : ByteArray) (lv : Value) (w : World) (h : Wr w bw v xs) (hr : xs.length + 8 ≤ 140737488355328) :
    Calls Tryd.prog 9 #[.pointer (some ⟨bw, 0, none⟩), .agg #[.int .i64 4, .bool sec, .int .i64 nn, .int .u64 uu, .int .i64 ii, bv, .string s, lv]] w fun e w' => WPut bw v xs w true (le 4 (uu % 4294967296)) e w' := by
  have C1 := hide (w32_any bw v xs (uu % 4294967296) (w.alloc (opB 4 sec nn uu ii (bv) s (lv))) (h.alloc _) (by omega) hr)
  go_enter Tryd.func9, Tryd.ntmps9
  go_wp2_with (go_at_call 23; refine (C1.out).mono ?_; rintro e w' ⟨rfl, v', q1, q2⟩)
  go_ret2
  exact WPut.of (WStep.alloc _ _ _ _) q1 q2

set_option maxRecDepth 20000 in
set_option maxHeartbeats 1000000 in
theorem write_5 (bw : Nat) (v : Value) (xs : List Int) (sec : Bool) (nn : Int) (uu : Nat) (ii : Int) (bv : Value) (s : ByteArray) (lv : Value) (w : World) (h : Wr w bw v xs) (hn : uu < 18446744073709551616) (hr : xs.length + 8 ≤ 140737488355328) :
    Calls Tryd.prog 9 #[.pointer (some ⟨bw, 0, none⟩), .agg #[.int .i64 5, .bool sec, .int .i64 nn, .int .u64 uu, .int .i64 ii, bv, .string s, lv]] w fun e w' => WPut bw v xs w true (le 8 uu) e w' := by
  have C1 := hide (w64_any bw v xs uu (w.alloc (opB 5 sec nn uu ii (bv) s (lv))) (h.alloc _) hn hr)
  go_enter Tryd.func9, Tryd.ntmps9
  go_wp2_with (go_at_call 24; refine (C1.out).mono ?_; rintro e w' ⟨rfl, v', q1, q2⟩)
  go_ret2
  exact WPut.of (WStep.alloc _ _ _ _) q1 q2

set_option maxRecDepth 20000 in
set_option maxHeartbeats 1000000 in
theorem write_6 (bw : Nat) (v : Value) (xs : List Int) (sec : Bool) (nn : Int) (uu ii : Int) (a : Option Addr) (l : List Int) (c : Nat) (s : ByteArray) (lv : Value) (w : World) (h : Wr w bw v xs) (hB : BytesAt w a l) (ha : a = none → c = 0) (hr : xs.length + l.length ≤ 140737488355328) :
    Calls Tryd.prog 9 #[.pointer (some ⟨bw, 0, none⟩), .agg #[.int .i64 6, .bool sec, .int .i64 nn, .int .u64 uu, .int .i64 ii, .slice a l.length c, .string s, lv]] w fun e w' => WPut bw v xs w true l e w' := by
  have C1 := hide (raw_any bw v xs l a c (w.alloc (opB 6 sec nn uu ii (.slice a l.length c) s (lv))) (h.alloc _) (hB.alloc _) ha hr)
  go_enter Tryd.func9, Tryd.ntmps9
  go_wp2_with (go_at_call 25; refine (C1.out).mono ?_; rintro e w' ⟨rfl, v', q1, q2⟩)
  go_ret2
  exact WPut.of (WStep.alloc _ _ _ _) q1 q2

set_option maxRecDepth 20000 in
set_option maxHeartbeats 1000000 in
theorem write_7 (bw : Nat) (v : Value) (xs : List Int) (sec : Bool) (nn : Int) (uu ii : Int) (bv : Value) (s : ByteArray) (lv : Value) (w : World) (h : Wr w bw v xs) (hr : xs.length + 10 + s.size ≤ 140737488355328) :
    Calls Tryd.prog 9 #[.pointer (some ⟨bw, 0, none⟩), .agg #[.int .i64 7, .bool sec, .int .i64 nn, .int .u64 uu, .int .i64 ii, bv, .string s, lv]] w fun e w' => WPut bw v xs w true (uvb s.size ++ sb s) e w' := by
  have C1 := hide (text_any bw v xs s (w.alloc (opB 7 sec nn uu ii (bv) s (lv))) (h.alloc _) hr)
  go_enter Tryd.func9, Tryd.ntmps9
  go_wp2_with (go_at_call 26; refine (C1.out).mono ?_; rintro e w' ⟨rfl, v', q1, q2⟩)
  go_ret2
  exact WPut.of (WStep.alloc _ _ _ _) q1 q2

set_option maxRecDepth 20000 in
set_option maxHeartbeats 1000000 in
theorem write_0 (kd : Int) (hk : kd < 1 ∨ 10 < kd) (bw : Nat) (v : Value) (xs : List Int) (sec : Bool) (nn uu ii : Int) (bv : Value) (s : ByteArray) (lv : Value) (w : World) (h : Wr w bw v xs) :
    Calls Tryd.prog 9 #[.pointer (some ⟨bw, 0, none⟩), .agg #[.int .i64 kd, .bool sec, .int .i64 nn, .int .u64 uu, .int .i64 ii, bv, .string s, lv]] w fun e w' => WPut bw v xs w false [] e w' := by
  have n1 : kd ≠ 1 := by omega
  have n2 : kd ≠ 2 := by omega
  have n3 : kd ≠ 3 := by omega
  have n4 : kd ≠ 4 := by omega
  have n5 : kd ≠ 5 := by omega
  have n6 : kd ≠ 6 := by omega
  have n7 : kd ≠ 7 := by omega
  have n8 : kd ≠ 8 := by omega
  have n9 : kd ≠ 9 := by omega
  have n10 : kd ≠ 10 := by omega
  clear hk
  go_enter Tryd.func9, Tryd.ntmps9
  go_wp2
  go_ret2
  exact ⟨rfl, v, by rw [List.append_nil]; exact h.alloc _, WStep.alloc _ _ _ _⟩
end Go.Proofs.YtopmdpfnigceeaaDoor
