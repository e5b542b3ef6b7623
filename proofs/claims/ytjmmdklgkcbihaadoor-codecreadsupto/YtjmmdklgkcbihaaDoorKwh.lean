import Derived.Test.YtjmmdklgkcbihaaDoorKwg
import Derived.Test.YtjmmdklgkcbihaaDoorHnf
namespace Go.Proofs.YtjmmdklgkcbihaaDoor
open Go.ChangeShapes Go.WideShapes Go.ChangeAt Go.RowKit

/-- What a put leaves: the bytes behind what the Writer held, and the same bytes as a list of its own. -/
structure PutK (W W' : World) (bw : Nat) (v : Value) (xs X : List Int) (va : Value) : Prop where
  ex : ∃ v', Wr W' bw v' (xs ++ X) ∧ WStep W W' bw v v' ∧ ∀ k, va.ownBlock = some k → ¬ WF bw v' k
  own : W'.ownsRow W.heap.size 5 1 va X.length (bs X)
theorem PutK.of {W W0 W1 W2 : World} {bw : Nat} {v v' : Value} {xs X : List Int} {va : Value} (k0 : Kept (fun _ => False) W W0) (st : WStep W0 W1 bw v v') (hw : Wr W1 bw v' (xs ++ X)) (g : GroK W1 W2 5 1 va X.length (bs X)) : PutK W W2 bw v xs X va := by
  have s0 := k0.size
  have s1 := st.kept.size
  have hlt : ∀ k, WF bw v' k → k < W1.heap.size := fun k hk => hk.elim (fun e => by rw [e]; exact lt_of_block hw.blk) (fun e => (hw.own.lt k e).2)
  refine ⟨⟨v', hw.kept g.kept (fun _ _ f => f), ⟨?_, fun k e => (st.new k e).imp id (fun q => Nat.le_trans s0 q)⟩, fun k e f => ?_⟩, ?_⟩
  · exact ((k0.mono (fun _ f => f.elim)).trans st.kept (fun _ e => .inl e)).trans g.kept (fun _ f => f.elim)
  · have h1 := (g.own.lt k e).1
    have h2 := hlt k f
    omega
  · obtain ⟨h1, h2⟩ := g.own
    refine ⟨h1, h2.imp id ?_⟩
    rintro ⟨gg, cap, cur, e, hg, rest⟩
    exact ⟨gg, cap, cur, e, Nat.le_trans s0 (Nat.le_trans s1 hg), rest⟩
theorem le_modK : ∀ (m n : Nat), le m (n % 256 ^ m) = le m n
  | 0, _ => rfl
  | m + 1, n => by
    rw [le, le]
    have e1 : n % 256 ^ (m + 1) % 256 = n % 256 := by
      rw [Nat.pow_succ]
      exact Nat.mod_mod_of_dvd n (Nat.dvd_mul_left _ _)
    have e2 : n % 256 ^ (m + 1) / 256 = (n / 256) % 256 ^ m := by
      rw [Nat.pow_succ, Nat.mul_comm, Nat.mod_mul_right_div_self]
    rw [e1, e2, le_modK m (n / 256)]
set_option maxRecDepth 20000 in
set_option maxHeartbeats 4000000 in
theorem put_1K (sec : Bool) (nn : Int) (U : Nat) (ii : Int) (bv : Value) (s : ByteArray) (lv : Value) (bw : Nat) (v : Value) (xs : List Int) (w : World) (h : Wr w bw v xs) (hx : xs.length ≤ 70368744177664) :
    Calls Tryd.prog 11 #[.pointer (some ⟨bw, 0, none⟩), .agg #[.int .i64 1, .bool sec, .int .i64 nn, .int .u64 (U : Int), .int .i64 ii, bv, .string s, lv]] w fun e w' => ∃ va, e = .returned (.tuple #[va, .bool true]) ∧ PutK w w' bw v xs ([nn % 256]) va := by
  obtain ⟨W0, hW0⟩ : ∃ W0, W0 = w.alloc (.cells #[.int .i64 1, .bool sec, .int .i64 nn, .int .u64 (U : Int), .int .i64 ii, bv, .string s, lv] 37) := ⟨_, rfl⟩
  have k0 : Kept (fun _ => False) w W0 := by rw [hW0]; exact Kept.alloc w _
  have hb : W0.heap[w.heap.size]? = some (.cells #[.int .i64 1, .bool sec, .int .i64 nn, .int .u64 (U : Int), .int .i64 ii, bv, .string s, lv] 37 (0, 0)) := by rw [hW0]; exact heap_alloc_new w _
  have hwf : ¬ WF bw v w.heap.size := fun f => f.elim (fun e => by have := lt_of_block h.blk; omega) (fun e => by have := (h.own.lt _ e).2; omega)
  have c0 : W0.cell? ⟨w.heap.size, 0, none⟩ = some (.int .i64 1) := by rw [cell_of_row _ _ _ _ _ _ hb]; rfl
  have c2 : W0.cell? ⟨w.heap.size, 2, none⟩ = some (.int .i64 nn) := by rw [cell_of_row _ _ _ _ _ _ hb]; rfl
  have CB := hideH (byte_any bw v xs (nn % 256) W0 (h.kept k0 (fun _ _ f => f)) (by omega))
  have HC : Hid (∀ W', Kept (WF bw v) W0 W' → W'.cell? ⟨w.heap.size, 2, none⟩ = some (.int .i64 nn)) := hideH (fun W' k => k.cell c2 hwf)
  have HK0 := hideH k0
  rw [hW0] at c0 c2
  clear h hb hwf k0
  go_enter Tryd.func11, Tryd.ntmps11
  go_wp2_with (go_at_call 30; refine StpH.go ?_)
  rw [← hW0]
  refine ⟨?_⟩
  refine CB.out.mono ?_
  clear CB
  rintro e W1 ⟨rfl, v1, hw1, st1⟩
  have x2 := HC.out W1 st1.kept
  have HP : Hid (PutK w (W1.alloc (.cells #[.int .u8 (nn % 256)] 5)) bw v xs [nn % 256] (.slice (some ⟨W1.heap.size, 0, none⟩) 1 1)) := hideH (PutK.of HK0.out st1 hw1 ⟨⟨rfl, .inr ⟨W1.heap.size, 1, #[.int .u8 (nn % 256)], rfl, Nat.le_refl _, heap_alloc_new W1 _, Nat.le_refl _, by unfold maxLen; omega, rfl, rfl⟩⟩, Kept.alloc W1 _⟩)
  clear hw1 st1 HC HK0
  go_wp2_with fail
  go_ret2
  exact ⟨_, rfl, HP.out⟩
set_option maxRecDepth 20000 in
set_option maxHeartbeats 4000000 in
theorem put_2K (sec : Bool) (nn : Int) (U : Nat) (ii : Int) (bv : Value) (s : ByteArray) (lv : Value) (bw : Nat) (v : Value) (xs : List Int) (w : World) (h : Wr w bw v xs) (hx : xs.length ≤ 70368744177664) (hU : U < 18446744073709551616) :
    Calls Tryd.prog 11 #[.pointer (some ⟨bw, 0, none⟩), .agg #[.int .i64 2, .bool sec, .int .i64 nn, .int .u64 (U : Int), .int .i64 ii, bv, .string s, lv]] w fun e w' => ∃ va, e = .returned (.tuple #[va, .bool true]) ∧ PutK w w' bw v xs (uvb U) va := by
  obtain ⟨W0, hW0⟩ : ∃ W0, W0 = w.alloc (.cells #[.int .i64 2, .bool sec, .int .i64 nn, .int .u64 (U : Int), .int .i64 ii, bv, .string s, lv] 37) := ⟨_, rfl⟩
  have k0 : Kept (fun _ => False) w W0 := by rw [hW0]; exact Kept.alloc w _
  have hb : W0.heap[w.heap.size]? = some (.cells #[.int .i64 2, .bool sec, .int .i64 nn, .int .u64 (U : Int), .int .i64 ii, bv, .string s, lv] 37 (0, 0)) := by rw [hW0]; exact heap_alloc_new w _
  have hwf : ¬ WF bw v w.heap.size := fun f => f.elim (fun e => by have := lt_of_block h.blk; omega) (fun e => by have := (h.own.lt _ e).2; omega)
  have c0 : W0.cell? ⟨w.heap.size, 0, none⟩ = some (.int .i64 2) := by rw [cell_of_row _ _ _ _ _ _ hb]; rfl
  have c2 : W0.cell? ⟨w.heap.size, 3, none⟩ = some (.int .u64 (U : Int)) := by rw [cell_of_row _ _ _ _ _ _ hb]; rfl
  have CB := hideH (wuv_any bw v xs U W0 (h.kept k0 (fun _ _ f => f)) hU (by omega))
  have HC : Hid (∀ W', Kept (WF bw v) W0 W' → W'.cell? ⟨w.heap.size, 3, none⟩ = some (.int .u64 (U : Int))) := hideH (fun W' k => k.cell c2 hwf)
  have HK0 := hideH k0
  rw [hW0] at c0 c2
  clear h hb hwf k0
  go_enter Tryd.func11, Tryd.ntmps11
  go_wp2_with (go_at_call 27; refine StpH.go ?_)
  rw [← hW0]
  refine ⟨?_⟩
  refine CB.out.mono ?_
  clear CB
  rintro e W1 ⟨rfl, v1, hw1, st1⟩
  have x2 := HC.out W1 st1.kept
  have CR := hideH (duv_anyK U W1 hU)
  have HW1 := hideH hw1
  have HS1 := hideH st1
  clear hw1 st1 HC
  go_wp2_with (go_at_call 31; refine StpH.go ?_)
  refine ⟨?_⟩
  refine CR.out.mono ?_
  clear CR
  rintro e W2 ⟨g, c, rfl, hG⟩
  have HP := hideH (PutK.of HK0.out HS1.out HW1.out (hG))
  clear HK0 HS1 HW1 hG
  go_wp2_with fail
  go_ret2
  exact ⟨_, rfl, HP.out⟩
set_option maxRecDepth 20000 in
set_option maxHeartbeats 4000000 in
theorem put_3K (sec : Bool) (nn : Int) (U : Nat) (ii : Int) (bv : Value) (s : ByteArray) (lv : Value) (bw : Nat) (v : Value) (xs : List Int) (w : World) (h : Wr w bw v xs) (hx : xs.length ≤ 70368744177664) (h0 : -9223372036854775808 ≤ ii) (h1 : ii ≤ 9223372036854775807) :
    Calls Tryd.prog 11 #[.pointer (some ⟨bw, 0, none⟩), .agg #[.int .i64 3, .bool sec, .int .i64 nn, .int .u64 (U : Int), .int .i64 ii, bv, .string s, lv]] w fun e w' => ∃ va, e = .returned (.tuple #[va, .bool true]) ∧ PutK w w' bw v xs (uvb (zig ii).toNat) va := by
  obtain ⟨W0, hW0⟩ : ∃ W0, W0 = w.alloc (.cells #[.int .i64 3, .bool sec, .int .i64 nn, .int .u64 (U : Int), .int .i64 ii, bv, .string s, lv] 37) := ⟨_, rfl⟩
  have k0 : Kept (fun _ => False) w W0 := by rw [hW0]; exact Kept.alloc w _
  have hb : W0.heap[w.heap.size]? = some (.cells #[.int .i64 3, .bool sec, .int .i64 nn, .int .u64 (U : Int), .int .i64 ii, bv, .string s, lv] 37 (0, 0)) := by rw [hW0]; exact heap_alloc_new w _
  have hwf : ¬ WF bw v w.heap.size := fun f => f.elim (fun e => by have := lt_of_block h.blk; omega) (fun e => by have := (h.own.lt _ e).2; omega)
  have c0 : W0.cell? ⟨w.heap.size, 0, none⟩ = some (.int .i64 3) := by rw [cell_of_row _ _ _ _ _ _ hb]; rfl
  have c2 : W0.cell? ⟨w.heap.size, 4, none⟩ = some (.int .i64 ii) := by rw [cell_of_row _ _ _ _ _ _ hb]; rfl
  have CB := hideH (wvar_any bw v xs ii W0 (h.kept k0 (fun _ _ f => f)) h0 h1 (by omega))
  have HC : Hid (∀ W', Kept (WF bw v) W0 W' → W'.cell? ⟨w.heap.size, 4, none⟩ = some (.int .i64 ii)) := hideH (fun W' k => k.cell c2 hwf)
  have HK0 := hideH k0
  rw [hW0] at c0 c2
  clear h hb hwf k0
  go_enter Tryd.func11, Tryd.ntmps11
  go_wp2_with (go_at_call 32; refine StpH.go ?_)
  rw [← hW0]
  refine ⟨?_⟩
  refine CB.out.mono ?_
  clear CB
  rintro e W1 ⟨rfl, v1, hw1, st1⟩
  have x2 := HC.out W1 st1.kept
  have CR := hideH (dvar_anyK ii W1 h0 h1)
  have HW1 := hideH hw1
  have HS1 := hideH st1
  clear hw1 st1 HC
  go_wp2_with (go_at_call 33; refine StpH.go ?_)
  refine ⟨?_⟩
  refine CR.out.mono ?_
  clear CR
  rintro e W2 ⟨g, c, rfl, hG⟩
  have HP := hideH (PutK.of HK0.out HS1.out HW1.out (hG))
  clear HK0 HS1 HW1 hG
  go_wp2_with fail
  go_ret2
  exact ⟨_, rfl, HP.out⟩
set_option maxRecDepth 20000 in
set_option maxHeartbeats 4000000 in
theorem put_4K (sec : Bool) (nn : Int) (U : Nat) (ii : Int) (bv : Value) (s : ByteArray) (lv : Value) (bw : Nat) (v : Value) (xs : List Int) (w : World) (h : Wr w bw v xs) (hx : xs.length ≤ 70368744177664) (hU : U < 18446744073709551616) :
    Calls Tryd.prog 11 #[.pointer (some ⟨bw, 0, none⟩), .agg #[.int .i64 4, .bool sec, .int .i64 nn, .int .u64 (U : Int), .int .i64 ii, bv, .string s, lv]] w fun e w' => ∃ va, e = .returned (.tuple #[va, .bool true]) ∧ PutK w w' bw v xs (le 4 U) va := by
  obtain ⟨W0, hW0⟩ : ∃ W0, W0 = w.alloc (.cells #[.int .i64 4, .bool sec, .int .i64 nn, .int .u64 (U : Int), .int .i64 ii, bv, .string s, lv] 37) := ⟨_, rfl⟩
  have k0 : Kept (fun _ => False) w W0 := by rw [hW0]; exact Kept.alloc w _
  have hb : W0.heap[w.heap.size]? = some (.cells #[.int .i64 4, .bool sec, .int .i64 nn, .int .u64 (U : Int), .int .i64 ii, bv, .string s, lv] 37 (0, 0)) := by rw [hW0]; exact heap_alloc_new w _
  have hwf : ¬ WF bw v w.heap.size := fun f => f.elim (fun e => by have := lt_of_block h.blk; omega) (fun e => by have := (h.own.lt _ e).2; omega)
  have c0 : W0.cell? ⟨w.heap.size, 0, none⟩ = some (.int .i64 4) := by rw [cell_of_row _ _ _ _ _ _ hb]; rfl
  have c2 : W0.cell? ⟨w.heap.size, 3, none⟩ = some (.int .u64 (U : Int)) := by rw [cell_of_row _ _ _ _ _ _ hb]; rfl
  have HL4 : Hid (le 4 (U % 4294967296) = le 4 U) := hideH (le_modK 4 U)
  have CB := hideH (w32_any bw v xs (U % 4294967296) W0 (h.kept k0 (fun _ _ f => f)) (by omega) (by omega))
  have HC : Hid (∀ W', Kept (WF bw v) W0 W' → W'.cell? ⟨w.heap.size, 3, none⟩ = some (.int .u64 (U : Int))) := hideH (fun W' k => k.cell c2 hwf)
  have HK0 := hideH k0
  rw [hW0] at c0 c2
  clear h hb hwf k0
  go_enter Tryd.func11, Tryd.ntmps11
  go_wp2_with (go_at_call 34; refine StpH.go ?_)
  rw [← hW0]
  refine ⟨?_⟩
  refine CB.out.mono ?_
  clear CB
  rintro e W1 ⟨rfl, v1, hw1, st1⟩
  rw [HL4.out] at hw1
  have x2 := HC.out W1 st1.kept
  have CR := hideH (dword_anyK U 4 W1 hU (by decide))
  have HW1 := hideH hw1
  have HS1 := hideH st1
  clear hw1 st1 HC
  go_wp2_with (go_at_call 35; refine StpH.go ?_)
  refine ⟨?_⟩
  refine CR.out.mono ?_
  clear CR
  rintro e W2 ⟨va, rfl, hG⟩
  have HP := hideH (PutK.of HK0.out HS1.out HW1.out (by rw [le_length]; exact hG))
  clear HK0 HS1 HW1 hG
  go_wp2_with fail
  go_ret2
  exact ⟨_, rfl, HP.out⟩
set_option maxRecDepth 20000 in
set_option maxHeartbeats 4000000 in
theorem put_5K (sec : Bool) (nn : Int) (U : Nat) (ii : Int) (bv : Value) (s : ByteArray) (lv : Value) (bw : Nat) (v : Value) (xs : List Int) (w : World) (h : Wr w bw v xs) (hx : xs.length ≤ 70368744177664) (hU : U < 18446744073709551616) :
    Calls Tryd.prog 11 #[.pointer (some ⟨bw, 0, none⟩), .agg #[.int .i64 5, .bool sec, .int .i64 nn, .int .u64 (U : Int), .int .i64 ii, bv, .string s, lv]] w fun e w' => ∃ va, e = .returned (.tuple #[va, .bool true]) ∧ PutK w w' bw v xs (le 8 U) va := by
  obtain ⟨W0, hW0⟩ : ∃ W0, W0 = w.alloc (.cells #[.int .i64 5, .bool sec, .int .i64 nn, .int .u64 (U : Int), .int .i64 ii, bv, .string s, lv] 37) := ⟨_, rfl⟩
  have k0 : Kept (fun _ => False) w W0 := by rw [hW0]; exact Kept.alloc w _
  have hb : W0.heap[w.heap.size]? = some (.cells #[.int .i64 5, .bool sec, .int .i64 nn, .int .u64 (U : Int), .int .i64 ii, bv, .string s, lv] 37 (0, 0)) := by rw [hW0]; exact heap_alloc_new w _
  have hwf : ¬ WF bw v w.heap.size := fun f => f.elim (fun e => by have := lt_of_block h.blk; omega) (fun e => by have := (h.own.lt _ e).2; omega)
  have c0 : W0.cell? ⟨w.heap.size, 0, none⟩ = some (.int .i64 5) := by rw [cell_of_row _ _ _ _ _ _ hb]; rfl
  have c2 : W0.cell? ⟨w.heap.size, 3, none⟩ = some (.int .u64 (U : Int)) := by rw [cell_of_row _ _ _ _ _ _ hb]; rfl
  have CB := hideH (w64_any bw v xs U W0 (h.kept k0 (fun _ _ f => f)) hU (by omega))
  have HC : Hid (∀ W', Kept (WF bw v) W0 W' → W'.cell? ⟨w.heap.size, 3, none⟩ = some (.int .u64 (U : Int))) := hideH (fun W' k => k.cell c2 hwf)
  have HK0 := hideH k0
  rw [hW0] at c0 c2
  clear h hb hwf k0
  go_enter Tryd.func11, Tryd.ntmps11
  go_wp2_with (go_at_call 36; refine StpH.go ?_)
  rw [← hW0]
  refine ⟨?_⟩
  refine CB.out.mono ?_
  clear CB
  rintro e W1 ⟨rfl, v1, hw1, st1⟩
  have x2 := HC.out W1 st1.kept
  have CR := hideH (dword_anyK U 8 W1 hU (by decide))
  have HW1 := hideH hw1
  have HS1 := hideH st1
  clear hw1 st1 HC
  go_wp2_with (go_at_call 35; refine StpH.go ?_)
  refine ⟨?_⟩
  refine CR.out.mono ?_
  clear CR
  rintro e W2 ⟨va, rfl, hG⟩
  have HP := hideH (PutK.of HK0.out HS1.out HW1.out (by rw [le_length]; exact hG))
  clear HK0 HS1 HW1 hG
  go_wp2_with fail
  go_ret2
  exact ⟨_, rfl, HP.out⟩
set_option maxRecDepth 20000 in
set_option maxHeartbeats 4000000 in
theorem put_7K (sec : Bool) (nn : Int) (U : Nat) (ii : Int) (bv : Value) (s : ByteArray) (lv : Value) (bw : Nat) (v : Value) (xs : List Int) (w : World) (h : Wr w bw v xs) (hx : xs.length ≤ 70368744177664) (hs : s.size ≤ 1073741824) :
    Calls Tryd.prog 11 #[.pointer (some ⟨bw, 0, none⟩), .agg #[.int .i64 7, .bool sec, .int .i64 nn, .int .u64 (U : Int), .int .i64 ii, bv, .string s, lv]] w fun e w' => ∃ va, e = .returned (.tuple #[va, .bool true]) ∧ PutK w w' bw v xs (uvb s.size ++ sb s) va := by
  obtain ⟨W0, hW0⟩ : ∃ W0, W0 = w.alloc (.cells #[.int .i64 7, .bool sec, .int .i64 nn, .int .u64 (U : Int), .int .i64 ii, bv, .string s, lv] 37) := ⟨_, rfl⟩
  have k0 : Kept (fun _ => False) w W0 := by rw [hW0]; exact Kept.alloc w _
  have hb : W0.heap[w.heap.size]? = some (.cells #[.int .i64 7, .bool sec, .int .i64 nn, .int .u64 (U : Int), .int .i64 ii, bv, .string s, lv] 37 (0, 0)) := by rw [hW0]; exact heap_alloc_new w _
  have hwf : ¬ WF bw v w.heap.size := fun f => f.elim (fun e => by have := lt_of_block h.blk; omega) (fun e => by have := (h.own.lt _ e).2; omega)
  have c0 : W0.cell? ⟨w.heap.size, 0, none⟩ = some (.int .i64 7) := by rw [cell_of_row _ _ _ _ _ _ hb]; rfl
  have c2 : W0.cell? ⟨w.heap.size, 6, none⟩ = some (.string s) := by rw [cell_of_row _ _ _ _ _ _ hb]; rfl
  have CB := hideH (text_any bw v xs s W0 (h.kept k0 (fun _ _ f => f)) (by omega))
  have HC : Hid (∀ W', Kept (WF bw v) W0 W' → W'.cell? ⟨w.heap.size, 6, none⟩ = some (.string s)) := hideH (fun W' k => k.cell c2 hwf)
  have HK0 := hideH k0
  rw [hW0] at c0 c2
  clear h hb hwf k0
  go_enter Tryd.func11, Tryd.ntmps11
  go_wp2_with (go_at_call 37; refine StpH.go ?_)
  rw [← hW0]
  refine ⟨?_⟩
  refine CB.out.mono ?_
  clear CB
  rintro e W1 ⟨rfl, v1, hw1, st1⟩
  have x2 := HC.out W1 st1.kept
  have CR := hideH (dtext_anyK s W1 (by omega))
  have HW1 := hideH hw1
  have HS1 := hideH st1
  clear hw1 st1 HC
  go_wp2_with (go_at_call 38; refine StpH.go ?_)
  refine ⟨?_⟩
  refine CR.out.mono ?_
  clear CR
  rintro e W2 ⟨va, rfl, hG⟩
  have HP := hideH (PutK.of HK0.out HS1.out HW1.out (hG))
  clear HK0 HS1 HW1 hG
  go_wp2_with fail
  go_ret2
  exact ⟨_, rfl, HP.out⟩
end Go.Proofs.YtjmmdklgkcbihaaDoor
