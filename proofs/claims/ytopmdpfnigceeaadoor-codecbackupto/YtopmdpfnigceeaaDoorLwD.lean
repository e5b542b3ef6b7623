import Derived.Test.YtopmdpfnigceeaaDoorLwC
namespace Go.Proofs.YtopmdpfnigceeaaDoor
open Go.ChangeShapes Go.WideShapes Go.ChangeAt Go.RowKit

theorem Rd.alloc {w : World} {br : Nat} {v : Value} {l : List Int} {p : Nat} (h : Rd w br v l p) (o : Obj) : Rd (w.alloc o) br v l p := h.kept (Kept.alloc w o) (fun f => f) (fun _ _ f => f)
/-- The reader stands behind what it has read. -/
def RGot (br : Nat) (v : Value) (l : List Int) (q : Nat) (w : World) (e : Ending) (w' : World) : Prop :=
  e = .returned (.bool true) ∧ Rd w' br v l q ∧ Kept (fun i => i = br) w w'
theorem RGot.of {br : Nat} {v : Value} {l : List Int} {p q : Nat} {w w' : World} {o : Obj} (_h : Rd w br v l p) (hr : Rd w' br v l q) (hk : Kept (fun i => i = br) (w.alloc o) w') {b : Bool} (hb : b = true) : RGot br v l q w (.returned (.bool b)) w' :=
  ⟨by rw [hb], hr, ((Kept.alloc w o).mono (fun _ f => f.elim)).trans hk (fun _ e => .inl e)⟩
theorem box_kept {br : Nat} {v : Value} {l : List Int} {p : Nat} {w w2 : World} {o : Obj} (h : Rd w br v l p) (hk : Kept (fun i => i = br) (w.alloc o) w2) : w2.heap[w.heap.size]? = some o := by
  refine hk.heap (heap_alloc_new w _) ?_
  have := lt_of_block h.blk
  show ¬ w.heap.size = br
  omega
theorem drop_at {l b r : List Int} {p : Nat} (hp : p ≤ l.length) (h : l.drop p = b ++ r) : p + b.length ≤ l.length := by
  have := congrArg List.length h
  rw [List.length_drop, List.length_append] at this
  omega

set_option maxRecDepth 20000 in
set_option maxHeartbeats 1000000 in
theorem back_1 (br : Nat) (v : Value) (l : List Int) (p : Nat) (sec : Bool) (nn : Int) (uu ii : Int) (bv : Value) (s : ByteArray) (lv : Value) (rest : List Int) (w : World) (h : Rd w br v l p)  (hd : l.drop p = [nn % 256] ++ rest) :
    Calls Tryd.prog 12 #[.pointer (some ⟨br, 0, none⟩), .agg #[.int .i64 1, .bool sec, .int .i64 nn, .int .u64 uu, .int .i64 ii, bv, .string s, lv]] w fun e w' => RGot br v l (p + ([nn % 256]).length) w e w' := by
  have hle := drop_at h.le hd
  have c1 := rbyte_ok br v l p (w.alloc (opB 1 sec nn uu ii (bv) s (lv))) (h.alloc _) (by simp at hle; omega)
  have e0 : l[p]?.getD 0 = nn % 256 := by
    have : (l.drop p)[0]? = some (nn % 256) := by rw [hd]; rfl
    rw [List.getElem?_drop] at this
    rw [show p = p + 0 from rfl, this]; rfl
  rw [e0] at c1
  have C1 := hide (c1)
  have HH := hide h
  clear h hd
  go_enter Tryd.func12, Tryd.ntmps12
  go_wp2_with (go_at_call 31; refine C1.out.mono ?_; rintro e w2 ⟨rfl, q1, q2⟩; have z1 := box_kept HH.out q2; unfold opB at z1; have Q1 := hide q1; have Q2 := hide q2; clear q1 q2; have y0 : w2.cell? ⟨w.heap.size, 0, none⟩ = some (.int .i64 1) := (by simp [World.cell?, z1]); have y2 : w2.cell? ⟨w.heap.size, 2, none⟩ = some (.int .i64 nn) := (by simp [World.cell?, z1]); clear z1)
  go_ret
  exact RGot.of HH.out Q1.out Q2.out (by rfl)

set_option maxRecDepth 20000 in
set_option maxHeartbeats 1000000 in
theorem back_2 (br : Nat) (v : Value) (l : List Int) (p : Nat) (sec : Bool) (nn : Int) (uu : Nat) (ii : Int) (bv : Value) (s : ByteArray) (lv : Value) (rest : List Int) (w : World) (h : Rd w br v l p) (a0 a1 : Addr) (g0 : w.cell? ⟨2, 0, none⟩ = some (errV a0)) (g1 : w.cell? ⟨5, 0, none⟩ = some (errV a1)) (hn : uu < 18446744073709551616) (hd : l.drop p = uvb uu ++ rest) :
    Calls Tryd.prog 12 #[.pointer (some ⟨br, 0, none⟩), .agg #[.int .i64 2, .bool sec, .int .i64 nn, .int .u64 uu, .int .i64 ii, bv, .string s, lv]] w fun e w' => RGot br v l (p + (uvb uu).length) w e w' := by
  have hle := drop_at h.le hd
  have k0 := (Kept.alloc w (opB 2 sec nn uu ii (bv) s (lv))).cell g0 (fun f => f)
  have k1 := (Kept.alloc w (opB 2 sec nn uu ii (bv) s (lv))).cell g1 (fun f => f)
  have C1 := hide (ruv_ok br v l p uu (uvb uu).length a0 a1 (w.alloc (opB 2 sec nn uu ii (bv) s (lv))) (h.alloc _) (by rw [hd]; exact rdu_uvb uu rest hn) k0 k1)
  have HH := hide h
  clear h hd
  go_enter Tryd.func12, Tryd.ntmps12
  go_wp2_with (go_at_call 20; refine C1.out.mono ?_; rintro e w2 ⟨rfl, q1, q2⟩; have z1 := box_kept HH.out q2; unfold opB at z1; have Q1 := hide q1; have Q2 := hide q2; clear q1 q2; have y0 : w2.cell? ⟨w.heap.size, 0, none⟩ = some (.int .i64 2) := (by simp [World.cell?, z1]); have y3 : w2.cell? ⟨w.heap.size, 3, none⟩ = some (.int .u64 uu) := (by simp [World.cell?, z1]); clear z1)
  go_ret
  exact RGot.of HH.out Q1.out Q2.out (by rfl)

set_option maxRecDepth 20000 in
set_option maxHeartbeats 1000000 in
theorem back_3 (br : Nat) (v : Value) (l : List Int) (p : Nat) (sec : Bool) (nn : Int) (uu ii : Int) (bv : Value) (s : ByteArray) (lv : Value) (rest : List Int) (w : World) (h : Rd w br v l p) (a0 a1 : Addr) (g0 : w.cell? ⟨2, 0, none⟩ = some (errV a0)) (g1 : w.cell? ⟨5, 0, none⟩ = some (errV a1)) (h0 : -9223372036854775808 ≤ ii) (h1 : ii ≤ 9223372036854775807) (hd : l.drop p = uvb (zig ii).toNat ++ rest) :
    Calls Tryd.prog 12 #[.pointer (some ⟨br, 0, none⟩), .agg #[.int .i64 3, .bool sec, .int .i64 nn, .int .u64 uu, .int .i64 ii, bv, .string s, lv]] w fun e w' => RGot br v l (p + (uvb (zig ii).toNat).length) w e w' := by
  have hle := drop_at h.le hd
  have k0 := (Kept.alloc w (opB 3 sec nn uu ii (bv) s (lv))).cell g0 (fun f => f)
  have k1 := (Kept.alloc w (opB 3 sec nn uu ii (bv) s (lv))).cell g1 (fun f => f)
  have hz := zig_bd ii h0 h1
  have c1 := rvar_ok br v l p (zig ii).toNat (uvb (zig ii).toNat).length a0 a1 (w.alloc (opB 3 sec nn uu ii (bv) s (lv))) (h.alloc _) (by rw [hd]; exact rdu_uvb (zig ii).toNat rest (by omega)) k0 k1
  rw [show (((zig ii).toNat : Nat) : Int) = zig ii by omega, zag_zig] at c1
  have C1 := hide (c1)
  have HH := hide h
  clear h hd
  go_enter Tryd.func12, Tryd.ntmps12
  go_wp2_with (go_at_call 32; refine C1.out.mono ?_; rintro e w2 ⟨rfl, q1, q2⟩; have z1 := box_kept HH.out q2; unfold opB at z1; have Q1 := hide q1; have Q2 := hide q2; clear q1 q2; have y0 : w2.cell? ⟨w.heap.size, 0, none⟩ = some (.int .i64 3) := (by simp [World.cell?, z1]); have y4 : w2.cell? ⟨w.heap.size, 4, none⟩ = some (.int .i64 ii) := (by simp [World.cell?, z1]); clear z1)
  go_ret
  exact RGot.of HH.out Q1.out Q2.out (by rfl)

set_option maxRecDepth 20000 in
set_option maxHeartbeats 1000000 in
theorem back_4 (br : Nat) (v : Value) (l : List Int) (p : Nat) (sec : Bool) (nn : Int) (uu : Nat) (ii : Int) (bv : Value) (s : ByteArray) (lv : Value) (rest : List Int) (w : World) (h : Rd w br v l p)  (hd : l.drop p = le 4 (uu % 4294967296) ++ rest) :
    Calls Tryd.prog 12 #[.pointer (some ⟨br, 0, none⟩), .agg #[.int .i64 4, .bool sec, .int .i64 nn, .int .u64 uu, .int .i64 ii, bv, .string s, lv]] w fun e w' => RGot br v l (p + (le 4 (uu % 4294967296)).length) w e w' := by
  have hle := drop_at h.le hd
  rw [le_length] at hle ⊢
  have c1 := rw32_ok br v l p (w.alloc (opB 4 sec nn uu ii (bv) s (lv))) (h.alloc _) hle
  rw [hd, List.take_append_of_le_length (by rw [le_length]; omega), List.take_of_length_le (by rw [le_length]; omega), vle_le, Nat.mod_mod_of_dvd _ (by decide)] at c1
  have C1 := hide (c1)
  have HH := hide h
  clear h hd
  go_enter Tryd.func12, Tryd.ntmps12
  go_wp2_with (go_at_call 33; refine C1.out.mono ?_; rintro e w2 ⟨rfl, q1, q2⟩; have z1 := box_kept HH.out q2; unfold opB at z1; have Q1 := hide q1; have Q2 := hide q2; clear q1 q2; have y0 : w2.cell? ⟨w.heap.size, 0, none⟩ = some (.int .i64 4) := (by simp [World.cell?, z1]); have y3 : w2.cell? ⟨w.heap.size, 3, none⟩ = some (.int .u64 uu) := (by simp [World.cell?, z1]); clear z1)
  go_ret
  exact RGot.of HH.out Q1.out Q2.out (by rfl)

set_option maxRecDepth 20000 in
set_option maxHeartbeats 1000000 in
theorem back_5 (br : Nat) (v : Value) (l : List Int) (p : Nat) (sec : Bool) (nn : Int) (uu : Nat) (ii : Int) (bv : Value) (s : ByteArray) (lv : Value) (rest : List Int) (w : World) (h : Rd w br v l p) (hn : uu < 18446744073709551616) (hd : l.drop p = le 8 uu ++ rest) :
    Calls Tryd.prog 12 #[.pointer (some ⟨br, 0, none⟩), .agg #[.int .i64 5, .bool sec, .int .i64 nn, .int .u64 uu, .int .i64 ii, bv, .string s, lv]] w fun e w' => RGot br v l (p + (le 8 uu).length) w e w' := by
  have hle := drop_at h.le hd
  rw [le_length] at hle ⊢
  have c1 := rw64_ok br v l p (w.alloc (opB 5 sec nn uu ii (bv) s (lv))) (h.alloc _) hle
  rw [hd, List.take_append_of_le_length (by rw [le_length]; omega), List.take_of_length_le (by rw [le_length]; omega), vle_le, Nat.mod_eq_of_lt (by simpa using hn)] at c1
  have C1 := hide (c1)
  have HH := hide h
  clear h hd
  go_enter Tryd.func12, Tryd.ntmps12
  go_wp2_with (go_at_call 34; refine C1.out.mono ?_; rintro e w2 ⟨rfl, q1, q2⟩; have z1 := box_kept HH.out q2; unfold opB at z1; have Q1 := hide q1; have Q2 := hide q2; clear q1 q2; have y0 : w2.cell? ⟨w.heap.size, 0, none⟩ = some (.int .i64 5) := (by simp [World.cell?, z1]); have y3 : w2.cell? ⟨w.heap.size, 3, none⟩ = some (.int .u64 uu) := (by simp [World.cell?, z1]); clear z1)
  go_ret
  exact RGot.of HH.out Q1.out Q2.out (by rfl)
end Go.Proofs.YtopmdpfnigceeaaDoor
