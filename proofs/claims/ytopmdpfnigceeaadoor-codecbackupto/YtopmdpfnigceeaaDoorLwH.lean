import Derived.Test.YtopmdpfnigceeaaDoorRdQ
namespace Go.Proofs.YtopmdpfnigceeaaDoor
open Go.ChangeShapes Go.WideShapes Go.ChangeAt Go.RowKit

/-- A refused call: too short, and nothing moves. -/
def Cut (br : Nat) (v : Value) (l : List Int) (z : Value) (a0 : Addr) (w : World) (e : Ending) (w' : World) : Prop :=
  e = .returned (.tuple #[z, .iface 96 (.pointer (some a0))]) ∧ Hid (Rd w' br v l 0 ∧ Kept (fun _ => False) w w')
theorem Cut.quiet {br : Nat} {v : Value} {l : List Int} {z : Value} {a0 : Addr} {w : World} {e : Ending} {w' : World} (h : Rd w br v l 0) (hq : e = .returned (.tuple #[z, errV a0]) ∧ ∃ n, w' = w.drewN n) : Cut br v l z a0 w e w' := by
  obtain ⟨rfl, n, rfl⟩ := hq
  exact ⟨rfl, h.drewN n, Kept.drewN _ _⟩
def SGot (w : World) (e : Ending) (w' : World) : Prop := e = .returned (.bool true) ∧ Kept (fun _ => False) w w'
theorem errOf_zero (a0 a1 : Addr) : errOf a0 a1 0 = errV a0 := rfl
theorem upto_cut (l : List Int) (most : Int) (a0 a1 : Addr) (w : World) (hB : IsBytes l) (hl : l.length ≤ 140737488355328) (g0 : w.cell? ⟨2, 0, none⟩ = some (errV a0)) (g1 : w.cell? ⟨5, 0, none⟩ = some (errV a1)) (hr : rdu 0 0 l = .error 0) :
    ∀ a c, BytesAt w a l → ∀ n, Calls Tryd.prog 50 #[.slice a l.length c, .int .i64 (0 : Nat), .int .i64 most] (w.drewN n) fun e w' => e = .returned (.tuple #[.int .i64 0, .int .i64 0, errV a0]) ∧ ∃ m, w' = (w.drewN n).drewN m := by
  intro a c hb n
  exact upat_err l a c 0 0 most a0 a1 (w.drewN n) hb hB (Nat.zero_le _) (by omega) g0 g1 hr

set_option maxRecDepth 20000 in
set_option maxHeartbeats 1000000 in
theorem short_1 (br : Nat) (v : Value) (l : List Int) (sec : Bool) (nn : Int) (uu ii : Int) (bv : Value) (s : ByteArray) (lv : Value) (a0 a1 a2 a3 : Addr) (w : World) (h : Rd w br v l 0) (g0 : w.cell? ⟨2, 0, none⟩ = some (errV a0)) (g1 : w.cell? ⟨5, 0, none⟩ = some (errV a1)) (g2 : w.cell? ⟨0, 0, none⟩ = some (errV a2)) (g3 : w.cell? ⟨4, 0, none⟩ = some (errV a3)) (hl : l = []) :
    Calls Tryd.prog 18 #[.pointer (some ⟨br, 0, none⟩), .agg #[.int .i64 1, .bool sec, .int .i64 nn, .int .u64 uu, .int .i64 ii, bv, .string s, lv]] w fun e w' => SGot w e w' := by
  obtain ⟨o, ho⟩ : ∃ o, o = opB 1 sec nn uu ii (bv) s (lv) := ⟨_, rfl⟩
  have hK := Kept.alloc w o
  have k0 := hK.cell g0 (fun f => f)
  have k1 := hK.cell g1 (fun f => f)
  have k2 := hK.cell g2 (fun f => f)
  have k3 := hK.cell g3 (fun f => f)
  have hA := h.alloc o
  have c1 : Calls Tryd.prog 31 #[.pointer (some ⟨br, 0, none⟩)] (w.alloc o) fun e w' => Cut br v l (.int .u8 0) a0 (w.alloc o) e w' := by
    subst hl
    exact (rbyte_short br v [] a0 (w.alloc o) hA k0).mono fun e w' q => Cut.quiet hA q
  have cat : ∀ w2, Hid (Rd w2 br v l 0 ∧ Kept (fun _ => False) (w.alloc o) w2) → Calls Tryd.prog 14 #[.pointer (some ⟨br, 0, none⟩)] w2 fun e w' => e = .returned (.int .i64 0) ∧ w' = w2 := fun w2 hh => at_any br v l 0 w2 hh.out.1
  have hg : ∀ w2, Hid (Rd w2 br v l 0 ∧ Kept (fun _ => False) (w.alloc o) w2) → w2.cell? ⟨2, 0, none⟩ = some (.iface 96 (.pointer (some a0))) := fun w2 hh => hh.out.2.cell k0 (fun f => f)
  have C1 := hide c1
  have CA := hide cat
  have HG := hide hg
  have HK := hide hK
  have heq := err_same a0
  subst ho
  have hsz := h.sm
  clear h c1 cat hg hK k0 k1 k2 k3 hA g0 g1 g2 g3
  go_enter Tryd.func18, Tryd.ntmps18
  go_wp2_with (first | (go_at_call 31; refine C1.out.mono ?_; rintro e w2 ⟨rfl, hii⟩; have z0 := HG.out w2 hii) | (go_at_call 14; refine (CA.out _ hii).mono ?_; rintro e w3 ⟨rfl, rfl⟩))
  go_ret
  exact ⟨by first | rfl | simp, HK.out.trans hii.out.2 (fun _ f => f.elim)⟩

set_option maxRecDepth 20000 in
set_option maxHeartbeats 1000000 in
theorem short_2 (br : Nat) (v : Value) (l : List Int) (sec : Bool) (nn : Int) (uu ii : Int) (bv : Value) (s : ByteArray) (lv : Value) (a0 a1 a2 a3 : Addr) (w : World) (h : Rd w br v l 0) (g0 : w.cell? ⟨2, 0, none⟩ = some (errV a0)) (g1 : w.cell? ⟨5, 0, none⟩ = some (errV a1)) (g2 : w.cell? ⟨0, 0, none⟩ = some (errV a2)) (g3 : w.cell? ⟨4, 0, none⟩ = some (errV a3)) (hl : rdu 0 0 l = .error 0) :
    Calls Tryd.prog 18 #[.pointer (some ⟨br, 0, none⟩), .agg #[.int .i64 2, .bool sec, .int .i64 nn, .int .u64 uu, .int .i64 ii, bv, .string s, lv]] w fun e w' => SGot w e w' := by
  obtain ⟨o, ho⟩ : ∃ o, o = opB 2 sec nn uu ii (bv) s (lv) := ⟨_, rfl⟩
  have hK := Kept.alloc w o
  have k0 := hK.cell g0 (fun f => f)
  have k1 := hK.cell g1 (fun f => f)
  have k2 := hK.cell g2 (fun f => f)
  have k3 := hK.cell g3 (fun f => f)
  have hA := h.alloc o
  have c1 : Calls Tryd.prog 20 #[.pointer (some ⟨br, 0, none⟩)] (w.alloc o) fun e w' => Cut br v l (.int .u64 0) a0 (w.alloc o) e w' := by
    exact (ruv_err br v l 0 0 a0 a1 (w.alloc o) hA hl k0 k1).mono fun e w' q => Cut.quiet hA q
  have cat : ∀ w2, Hid (Rd w2 br v l 0 ∧ Kept (fun _ => False) (w.alloc o) w2) → Calls Tryd.prog 14 #[.pointer (some ⟨br, 0, none⟩)] w2 fun e w' => e = .returned (.int .i64 0) ∧ w' = w2 := fun w2 hh => at_any br v l 0 w2 hh.out.1
  have hg : ∀ w2, Hid (Rd w2 br v l 0 ∧ Kept (fun _ => False) (w.alloc o) w2) → w2.cell? ⟨2, 0, none⟩ = some (.iface 96 (.pointer (some a0))) := fun w2 hh => hh.out.2.cell k0 (fun f => f)
  have C1 := hide c1
  have CA := hide cat
  have HG := hide hg
  have HK := hide hK
  have heq := err_same a0
  subst ho
  have hsz := h.sm
  clear h c1 cat hg hK k0 k1 k2 k3 hA g0 g1 g2 g3
  go_enter Tryd.func18, Tryd.ntmps18
  go_wp2_with (first | (go_at_call 20; refine C1.out.mono ?_; rintro e w2 ⟨rfl, hii⟩; have z0 := HG.out w2 hii) | (go_at_call 14; refine (CA.out _ hii).mono ?_; rintro e w3 ⟨rfl, rfl⟩))
  go_ret
  exact ⟨by first | rfl | simp, HK.out.trans hii.out.2 (fun _ f => f.elim)⟩

set_option maxRecDepth 20000 in
set_option maxHeartbeats 1000000 in
theorem short_3 (br : Nat) (v : Value) (l : List Int) (sec : Bool) (nn : Int) (uu ii : Int) (bv : Value) (s : ByteArray) (lv : Value) (a0 a1 a2 a3 : Addr) (w : World) (h : Rd w br v l 0) (g0 : w.cell? ⟨2, 0, none⟩ = some (errV a0)) (g1 : w.cell? ⟨5, 0, none⟩ = some (errV a1)) (g2 : w.cell? ⟨0, 0, none⟩ = some (errV a2)) (g3 : w.cell? ⟨4, 0, none⟩ = some (errV a3)) (hl : rdu 0 0 l = .error 0) :
    Calls Tryd.prog 18 #[.pointer (some ⟨br, 0, none⟩), .agg #[.int .i64 3, .bool sec, .int .i64 nn, .int .u64 uu, .int .i64 ii, bv, .string s, lv]] w fun e w' => SGot w e w' := by
  obtain ⟨o, ho⟩ : ∃ o, o = opB 3 sec nn uu ii (bv) s (lv) := ⟨_, rfl⟩
  have hK := Kept.alloc w o
  have k0 := hK.cell g0 (fun f => f)
  have k1 := hK.cell g1 (fun f => f)
  have k2 := hK.cell g2 (fun f => f)
  have k3 := hK.cell g3 (fun f => f)
  have hA := h.alloc o
  have c1 : Calls Tryd.prog 32 #[.pointer (some ⟨br, 0, none⟩)] (w.alloc o) fun e w' => Cut br v l (.int .i64 0) a0 (w.alloc o) e w' := by
    exact (rvar_err br v l 0 0 a0 a1 (w.alloc o) hA hl k0 k1).mono fun e w' q => Cut.quiet hA q
  have cat : ∀ w2, Hid (Rd w2 br v l 0 ∧ Kept (fun _ => False) (w.alloc o) w2) → Calls Tryd.prog 14 #[.pointer (some ⟨br, 0, none⟩)] w2 fun e w' => e = .returned (.int .i64 0) ∧ w' = w2 := fun w2 hh => at_any br v l 0 w2 hh.out.1
  have hg : ∀ w2, Hid (Rd w2 br v l 0 ∧ Kept (fun _ => False) (w.alloc o) w2) → w2.cell? ⟨2, 0, none⟩ = some (.iface 96 (.pointer (some a0))) := fun w2 hh => hh.out.2.cell k0 (fun f => f)
  have C1 := hide c1
  have CA := hide cat
  have HG := hide hg
  have HK := hide hK
  have heq := err_same a0
  subst ho
  have hsz := h.sm
  clear h c1 cat hg hK k0 k1 k2 k3 hA g0 g1 g2 g3
  go_enter Tryd.func18, Tryd.ntmps18
  go_wp2_with (first | (go_at_call 32; refine C1.out.mono ?_; rintro e w2 ⟨rfl, hii⟩; have z0 := HG.out w2 hii) | (go_at_call 14; refine (CA.out _ hii).mono ?_; rintro e w3 ⟨rfl, rfl⟩))
  go_ret
  exact ⟨by first | rfl | simp, HK.out.trans hii.out.2 (fun _ f => f.elim)⟩

set_option maxRecDepth 20000 in
set_option maxHeartbeats 1000000 in
theorem short_4 (br : Nat) (v : Value) (l : List Int) (sec : Bool) (nn : Int) (uu ii : Int) (bv : Value) (s : ByteArray) (lv : Value) (a0 a1 a2 a3 : Addr) (w : World) (h : Rd w br v l 0) (g0 : w.cell? ⟨2, 0, none⟩ = some (errV a0)) (g1 : w.cell? ⟨5, 0, none⟩ = some (errV a1)) (g2 : w.cell? ⟨0, 0, none⟩ = some (errV a2)) (g3 : w.cell? ⟨4, 0, none⟩ = some (errV a3)) (hl : l.length < 4) :
    Calls Tryd.prog 18 #[.pointer (some ⟨br, 0, none⟩), .agg #[.int .i64 4, .bool sec, .int .i64 nn, .int .u64 uu, .int .i64 ii, bv, .string s, lv]] w fun e w' => SGot w e w' := by
  obtain ⟨o, ho⟩ : ∃ o, o = opB 4 sec nn uu ii (bv) s (lv) := ⟨_, rfl⟩
  have hK := Kept.alloc w o
  have k0 := hK.cell g0 (fun f => f)
  have k1 := hK.cell g1 (fun f => f)
  have k2 := hK.cell g2 (fun f => f)
  have k3 := hK.cell g3 (fun f => f)
  have hA := h.alloc o
  have c1 : Calls Tryd.prog 33 #[.pointer (some ⟨br, 0, none⟩)] (w.alloc o) fun e w' => Cut br v l (.int .u32 0) a0 (w.alloc o) e w' := by
    exact (rw32_short br v l 0 a0 (w.alloc o) hA (by omega) k0).mono fun e w' q => Cut.quiet hA q
  have cat : ∀ w2, Hid (Rd w2 br v l 0 ∧ Kept (fun _ => False) (w.alloc o) w2) → Calls Tryd.prog 14 #[.pointer (some ⟨br, 0, none⟩)] w2 fun e w' => e = .returned (.int .i64 0) ∧ w' = w2 := fun w2 hh => at_any br v l 0 w2 hh.out.1
  have hg : ∀ w2, Hid (Rd w2 br v l 0 ∧ Kept (fun _ => False) (w.alloc o) w2) → w2.cell? ⟨2, 0, none⟩ = some (.iface 96 (.pointer (some a0))) := fun w2 hh => hh.out.2.cell k0 (fun f => f)
  have C1 := hide c1
  have CA := hide cat
  have HG := hide hg
  have HK := hide hK
  have heq := err_same a0
  subst ho
  have hsz := h.sm
  clear h c1 cat hg hK k0 k1 k2 k3 hA g0 g1 g2 g3
  go_enter Tryd.func18, Tryd.ntmps18
  go_wp2_with (first | (go_at_call 33; refine C1.out.mono ?_; rintro e w2 ⟨rfl, hii⟩; have z0 := HG.out w2 hii) | (go_at_call 14; refine (CA.out _ hii).mono ?_; rintro e w3 ⟨rfl, rfl⟩))
  go_ret
  exact ⟨by first | rfl | simp, HK.out.trans hii.out.2 (fun _ f => f.elim)⟩

set_option maxRecDepth 20000 in
set_option maxHeartbeats 1000000 in
theorem short_5 (br : Nat) (v : Value) (l : List Int) (sec : Bool) (nn : Int) (uu ii : Int) (bv : Value) (s : ByteArray) (lv : Value) (a0 a1 a2 a3 : Addr) (w : World) (h : Rd w br v l 0) (g0 : w.cell? ⟨2, 0, none⟩ = some (errV a0)) (g1 : w.cell? ⟨5, 0, none⟩ = some (errV a1)) (g2 : w.cell? ⟨0, 0, none⟩ = some (errV a2)) (g3 : w.cell? ⟨4, 0, none⟩ = some (errV a3)) (hl : l.length < 8) :
    Calls Tryd.prog 18 #[.pointer (some ⟨br, 0, none⟩), .agg #[.int .i64 5, .bool sec, .int .i64 nn, .int .u64 uu, .int .i64 ii, bv, .string s, lv]] w fun e w' => SGot w e w' := by
  obtain ⟨o, ho⟩ : ∃ o, o = opB 5 sec nn uu ii (bv) s (lv) := ⟨_, rfl⟩
  have hK := Kept.alloc w o
  have k0 := hK.cell g0 (fun f => f)
  have k1 := hK.cell g1 (fun f => f)
  have k2 := hK.cell g2 (fun f => f)
  have k3 := hK.cell g3 (fun f => f)
  have hA := h.alloc o
  have c1 : Calls Tryd.prog 34 #[.pointer (some ⟨br, 0, none⟩)] (w.alloc o) fun e w' => Cut br v l (.int .u64 0) a0 (w.alloc o) e w' := by
    exact (rw64_short br v l 0 a0 (w.alloc o) hA (by omega) k0).mono fun e w' q => Cut.quiet hA q
  have cat : ∀ w2, Hid (Rd w2 br v l 0 ∧ Kept (fun _ => False) (w.alloc o) w2) → Calls Tryd.prog 14 #[.pointer (some ⟨br, 0, none⟩)] w2 fun e w' => e = .returned (.int .i64 0) ∧ w' = w2 := fun w2 hh => at_any br v l 0 w2 hh.out.1
  have hg : ∀ w2, Hid (Rd w2 br v l 0 ∧ Kept (fun _ => False) (w.alloc o) w2) → w2.cell? ⟨2, 0, none⟩ = some (.iface 96 (.pointer (some a0))) := fun w2 hh => hh.out.2.cell k0 (fun f => f)
  have C1 := hide c1
  have CA := hide cat
  have HG := hide hg
  have HK := hide hK
  have heq := err_same a0
  subst ho
  have hsz := h.sm
  clear h c1 cat hg hK k0 k1 k2 k3 hA g0 g1 g2 g3
  go_enter Tryd.func18, Tryd.ntmps18
  go_wp2_with (first | (go_at_call 34; refine C1.out.mono ?_; rintro e w2 ⟨rfl, hii⟩; have z0 := HG.out w2 hii) | (go_at_call 14; refine (CA.out _ hii).mono ?_; rintro e w3 ⟨rfl, rfl⟩))
  go_ret
  exact ⟨by first | rfl | simp, HK.out.trans hii.out.2 (fun _ f => f.elim)⟩

set_option maxRecDepth 20000 in
set_option maxHeartbeats 1000000 in
theorem short_6 (br : Nat) (v : Value) (l : List Int) (sec : Bool) (nn : Int) (uu ii : Int) (B : List Int) (a : Option Addr) (c : Nat) (s : ByteArray) (lv : Value) (a0 a1 a2 a3 : Addr) (w : World) (h : Rd w br v l 0) (g0 : w.cell? ⟨2, 0, none⟩ = some (errV a0)) (g1 : w.cell? ⟨5, 0, none⟩ = some (errV a1)) (g2 : w.cell? ⟨0, 0, none⟩ = some (errV a2)) (g3 : w.cell? ⟨4, 0, none⟩ = some (errV a3)) (hl : l.length < B.length) :
    Calls Tryd.prog 18 #[.pointer (some ⟨br, 0, none⟩), .agg #[.int .i64 6, .bool sec, .int .i64 nn, .int .u64 uu, .int .i64 ii, .slice a B.length c, .string s, lv]] w fun e w' => SGot w e w' := by
  obtain ⟨o, ho⟩ : ∃ o, o = opB 6 sec nn uu ii (.slice a B.length c) s (lv) := ⟨_, rfl⟩
  have hK := Kept.alloc w o
  have k0 := hK.cell g0 (fun f => f)
  have k1 := hK.cell g1 (fun f => f)
  have k2 := hK.cell g2 (fun f => f)
  have k3 := hK.cell g3 (fun f => f)
  have hA := h.alloc o
  have c1 : Calls Tryd.prog 35 #[.pointer (some ⟨br, 0, none⟩), .int .i64 B.length] (w.alloc o) fun e w' => Cut br v l (.slice none 0 0) a0 (w.alloc o) e w' := by
    exact (rraw_short br v l 0 B.length a0 (w.alloc o) hA (by omega) k0).mono fun e w' q => Cut.quiet hA q
  have cat : ∀ w2, Hid (Rd w2 br v l 0 ∧ Kept (fun _ => False) (w.alloc o) w2) → Calls Tryd.prog 14 #[.pointer (some ⟨br, 0, none⟩)] w2 fun e w' => e = .returned (.int .i64 0) ∧ w' = w2 := fun w2 hh => at_any br v l 0 w2 hh.out.1
  have hg : ∀ w2, Hid (Rd w2 br v l 0 ∧ Kept (fun _ => False) (w.alloc o) w2) → w2.cell? ⟨2, 0, none⟩ = some (.iface 96 (.pointer (some a0))) := fun w2 hh => hh.out.2.cell k0 (fun f => f)
  have C1 := hide c1
  have CA := hide cat
  have HG := hide hg
  have HK := hide hK
  have heq := err_same a0
  subst ho
  have hsz := h.sm
  clear h c1 cat hg hK k0 k1 k2 k3 hA g0 g1 g2 g3
  go_enter Tryd.func18, Tryd.ntmps18
  go_wp2_with (first | (go_at_call 35; refine C1.out.mono ?_; rintro e w2 ⟨rfl, hii⟩; have z0 := HG.out w2 hii) | (go_at_call 14; refine (CA.out _ hii).mono ?_; rintro e w3 ⟨rfl, rfl⟩))
  go_ret
  exact ⟨by first | rfl | simp, HK.out.trans hii.out.2 (fun _ f => f.elim)⟩

set_option maxRecDepth 20000 in
set_option maxHeartbeats 1000000 in
theorem short_10 (br : Nat) (v : Value) (l : List Int) (sec : Bool) (nn : Int) (uu ii : Int) (bv : Value) (s : ByteArray) (lv : Value) (a0 a1 a2 a3 : Addr) (w : World) (h : Rd w br v l 0) (g0 : w.cell? ⟨2, 0, none⟩ = some (errV a0)) (g1 : w.cell? ⟨5, 0, none⟩ = some (errV a1)) (g2 : w.cell? ⟨0, 0, none⟩ = some (errV a2)) (g3 : w.cell? ⟨4, 0, none⟩ = some (errV a3)) (hl : rdu 0 0 l = .error 0) :
    Calls Tryd.prog 18 #[.pointer (some ⟨br, 0, none⟩), .agg #[.int .i64 10, .bool sec, .int .i64 nn, .int .u64 uu, .int .i64 ii, bv, .string s, lv]] w fun e w' => SGot w e w' := by
  obtain ⟨o, ho⟩ : ∃ o, o = opB 10 sec nn uu ii (bv) s (lv) := ⟨_, rfl⟩
  have hK := Kept.alloc w o
  have k0 := hK.cell g0 (fun f => f)
  have k1 := hK.cell g1 (fun f => f)
  have k2 := hK.cell g2 (fun f => f)
  have k3 := hK.cell g3 (fun f => f)
  have hA := h.alloc o
  have c1 : Calls Tryd.prog 40 #[.pointer (some ⟨br, 0, none⟩), .int .i64 9223372036854775807] (w.alloc o) fun e w' => Cut br v l (.int .i64 0) a0 (w.alloc o) e w' := by
    exact (rupto_bad br v l 0 9223372036854775807 a0 (w.alloc o) hA (upto_cut l _ a0 a1 _ hA.isb hA.sm k0 k1 hl)).mono fun e w' q => Cut.quiet hA q
  have cat : ∀ w2, Hid (Rd w2 br v l 0 ∧ Kept (fun _ => False) (w.alloc o) w2) → Calls Tryd.prog 14 #[.pointer (some ⟨br, 0, none⟩)] w2 fun e w' => e = .returned (.int .i64 0) ∧ w' = w2 := fun w2 hh => at_any br v l 0 w2 hh.out.1
  have hg : ∀ w2, Hid (Rd w2 br v l 0 ∧ Kept (fun _ => False) (w.alloc o) w2) → w2.cell? ⟨2, 0, none⟩ = some (.iface 96 (.pointer (some a0))) := fun w2 hh => hh.out.2.cell k0 (fun f => f)
  have C1 := hide c1
  have CA := hide cat
  have HG := hide hg
  have HK := hide hK
  have heq := err_same a0
  subst ho
  have hsz := h.sm
  clear h c1 cat hg hK k0 k1 k2 k3 hA g0 g1 g2 g3
  go_enter Tryd.func18, Tryd.ntmps18
  go_wp2_with (first | (go_at_call 40; refine C1.out.mono ?_; rintro e w2 ⟨rfl, hii⟩; have z0 := HG.out w2 hii) | (go_at_call 14; refine (CA.out _ hii).mono ?_; rintro e w3 ⟨rfl, rfl⟩))
  go_ret
  exact ⟨by first | rfl | simp, HK.out.trans hii.out.2 (fun _ f => f.elim)⟩

set_option maxRecDepth 20000 in
set_option maxHeartbeats 1000000 in
theorem short_7 (br : Nat) (v : Value) (l : List Int) (sec : Bool) (nn : Int) (uu ii : Int) (bv : Value) (s : ByteArray) (lv : Value) (a0 a1 a2 a3 : Addr) (w : World) (h : Rd w br v l 0) (g0 : w.cell? ⟨2, 0, none⟩ = some (errV a0)) (g1 : w.cell? ⟨5, 0, none⟩ = some (errV a1)) (g2 : w.cell? ⟨0, 0, none⟩ = some (errV a2)) (g3 : w.cell? ⟨4, 0, none⟩ = some (errV a3)) (hl : rdu 0 0 l = .error 0 ∨ ∃ k, rdu 0 0 l = .ok (s.size, k) ∧ l.length < k + s.size) (hs9 : s.size ≤ 140737488355328) :
    Calls Tryd.prog 18 #[.pointer (some ⟨br, 0, none⟩), .agg #[.int .i64 7, .bool sec, .int .i64 nn, .int .u64 uu, .int .i64 ii, bv, .string s, lv]] w fun e w' => SGot w e w' := by
  obtain ⟨o, ho⟩ : ∃ o, o = opB 7 sec nn uu ii (bv) s (lv) := ⟨_, rfl⟩
  have hK := Kept.alloc w o
  have k0 := hK.cell g0 (fun f => f)
  have k1 := hK.cell g1 (fun f => f)
  have k2 := hK.cell g2 (fun f => f)
  have k3 := hK.cell g3 (fun f => f)
  have hA := h.alloc o
  have c1 : Calls Tryd.prog 36 #[.pointer (some ⟨br, 0, none⟩), .int .i64 s.size] (w.alloc o) fun e w' => Cut br v l (.string ByteArray.empty) a0 (w.alloc o) e w' := by
    rcases hl with hl | ⟨k, hl, hlt⟩
    · exact (rtext_bad br v l 0 s.size a0 (w.alloc o) hA (upto_cut l _ a0 a1 _ hA.isb hA.sm k0 k1 hl)).mono fun e w' q => Cut.quiet hA q
    · exact (rtext_short br v l 0 s.size k s.size a0 a1 (w.alloc o) hA hl (by omega) (by omega) (by omega) k0 k1).mono fun e w' q => Cut.quiet hA q
  have cat : ∀ w2, Hid (Rd w2 br v l 0 ∧ Kept (fun _ => False) (w.alloc o) w2) → Calls Tryd.prog 14 #[.pointer (some ⟨br, 0, none⟩)] w2 fun e w' => e = .returned (.int .i64 0) ∧ w' = w2 := fun w2 hh => at_any br v l 0 w2 hh.out.1
  have hg : ∀ w2, Hid (Rd w2 br v l 0 ∧ Kept (fun _ => False) (w.alloc o) w2) → w2.cell? ⟨2, 0, none⟩ = some (.iface 96 (.pointer (some a0))) := fun w2 hh => hh.out.2.cell k0 (fun f => f)
  have C1 := hide c1
  have CA := hide cat
  have HG := hide hg
  have HK := hide hK
  have heq := err_same a0
  subst ho
  have hsz := h.sm
  clear h c1 cat hg hK k0 k1 k2 k3 hA g0 g1 g2 g3
  go_enter Tryd.func18, Tryd.ntmps18
  go_wp2_with (first | (go_at_call 36; refine C1.out.mono ?_; rintro e w2 ⟨rfl, hii⟩; have z0 := HG.out w2 hii) | (go_at_call 14; refine (CA.out _ hii).mono ?_; rintro e w3 ⟨rfl, rfl⟩))
  go_ret
  exact ⟨by first | rfl | simp, HK.out.trans hii.out.2 (fun _ f => f.elim)⟩

set_option maxRecDepth 20000 in
set_option maxHeartbeats 1000000 in
theorem short_8 (br : Nat) (v : Value) (l : List Int) (sec : Bool) (nn : Int) (uu ii : Int) (bv : Value) (s : ByteArray) (L : List Int) (a : Option Addr) (c : Nat) (a0 a1 a2 a3 : Addr) (w : World) (h : Rd w br v l 0) (g0 : w.cell? ⟨2, 0, none⟩ = some (errV a0)) (g1 : w.cell? ⟨5, 0, none⟩ = some (errV a1)) (g2 : w.cell? ⟨0, 0, none⟩ = some (errV a2)) (g3 : w.cell? ⟨4, 0, none⟩ = some (errV a3)) (hl : rdu 0 0 l = .error 0 ∨ ∃ k, rdu 0 0 l = .ok (L.length, k) ∧ rdr L.length 0 (l.drop k) = .error 0) (hL9 : L.length ≤ 17592186044416) (hsm : l.length ≤ 1099511627776) :
    Calls Tryd.prog 18 #[.pointer (some ⟨br, 0, none⟩), .agg #[.int .i64 8, .bool sec, .int .i64 nn, .int .u64 uu, .int .i64 ii, bv, .string s, .slice a L.length c]] w fun e w' => SGot w e w' := by
  obtain ⟨o, ho⟩ : ∃ o, o = opB 8 sec nn uu ii (bv) s (.slice a L.length c) := ⟨_, rfl⟩
  have hK := Kept.alloc w o
  have k0 := hK.cell g0 (fun f => f)
  have k1 := hK.cell g1 (fun f => f)
  have k2 := hK.cell g2 (fun f => f)
  have k3 := hK.cell g3 (fun f => f)
  have hA := h.alloc o
  have c1 : Calls Tryd.prog 37 #[.pointer (some ⟨br, 0, none⟩), .int .i64 L.length] (w.alloc o) fun e w' => Cut br v l (.slice none 0 0) a0 (w.alloc o) e w' := by
    rcases hl with hl | ⟨k, hl, hlt⟩
    · exact (rris_bad br v l 0 L.length a0 (w.alloc o) hA (upto_cut l _ a0 a1 _ hA.isb hA.sm k0 k1 hl)).mono fun e w' q => Cut.quiet hA q
    · have q := rris_any br v l 0 L.length k L.length a0 a1 a2 (w.alloc o) hA hl (by omega) (by omega) hsm k0 k1 k2
      rw [Nat.zero_add, hlt] at q
      exact q.mono fun e w' ⟨q1, q2, q3⟩ => ⟨q1, q2, q3⟩
  have cat : ∀ w2, Hid (Rd w2 br v l 0 ∧ Kept (fun _ => False) (w.alloc o) w2) → Calls Tryd.prog 14 #[.pointer (some ⟨br, 0, none⟩)] w2 fun e w' => e = .returned (.int .i64 0) ∧ w' = w2 := fun w2 hh => at_any br v l 0 w2 hh.out.1
  have hg : ∀ w2, Hid (Rd w2 br v l 0 ∧ Kept (fun _ => False) (w.alloc o) w2) → w2.cell? ⟨2, 0, none⟩ = some (.iface 96 (.pointer (some a0))) := fun w2 hh => hh.out.2.cell k0 (fun f => f)
  have C1 := hide c1
  have CA := hide cat
  have HG := hide hg
  have HK := hide hK
  have heq := err_same a0
  subst ho
  have hsz := h.sm
  clear h c1 cat hg hK k0 k1 k2 k3 hA g0 g1 g2 g3
  go_enter Tryd.func18, Tryd.ntmps18
  go_wp2_with (first | (go_at_call 37; refine C1.out.mono ?_; rintro e w2 ⟨rfl, hii⟩; have z0 := HG.out w2 hii) | (go_at_call 14; refine (CA.out _ hii).mono ?_; rintro e w3 ⟨rfl, rfl⟩))
  go_ret
  exact ⟨by first | rfl | simp, HK.out.trans hii.out.2 (fun _ f => f.elim)⟩

set_option maxRecDepth 20000 in
set_option maxHeartbeats 1000000 in
theorem short_9 (br : Nat) (v : Value) (l : List Int) (sec : Bool) (nn : Int) (uu ii : Int) (bv : Value) (s : ByteArray) (L : List Int) (a : Option Addr) (c : Nat) (a0 a1 a2 a3 : Addr) (w : World) (h : Rd w br v l 0) (g0 : w.cell? ⟨2, 0, none⟩ = some (errV a0)) (g1 : w.cell? ⟨5, 0, none⟩ = some (errV a1)) (g2 : w.cell? ⟨0, 0, none⟩ = some (errV a2)) (g3 : w.cell? ⟨4, 0, none⟩ = some (errV a3)) (hl : rdu 0 0 l = .error 0 ∨ ∃ k, rdu 0 0 l = .ok (L.length, k) ∧ rdp L.length (l.drop k) = .error 0) (hL9 : L.length ≤ 17592186044416) (hsm : l.length ≤ 1099511627776) :
    Calls Tryd.prog 18 #[.pointer (some ⟨br, 0, none⟩), .agg #[.int .i64 9, .bool sec, .int .i64 nn, .int .u64 uu, .int .i64 ii, bv, .string s, .slice a L.length c]] w fun e w' => SGot w e w' := by
  obtain ⟨o, ho⟩ : ∃ o, o = opB 9 sec nn uu ii (bv) s (.slice a L.length c) := ⟨_, rfl⟩
  have hK := Kept.alloc w o
  have k0 := hK.cell g0 (fun f => f)
  have k1 := hK.cell g1 (fun f => f)
  have k2 := hK.cell g2 (fun f => f)
  have k3 := hK.cell g3 (fun f => f)
  have hA := h.alloc o
  have c1 : Calls Tryd.prog 39 #[.pointer (some ⟨br, 0, none⟩), .int .i64 L.length] (w.alloc o) fun e w' => Cut br v l (.slice none 0 0) a0 (w.alloc o) e w' := by
    rcases hl with hl | ⟨k, hl, hlt⟩
    · exact (rpak_bad br v l 0 L.length a0 (w.alloc o) hA (upto_cut l _ a0 a1 _ hA.isb hA.sm k0 k1 hl)).mono fun e w' q => Cut.quiet hA q
    · have q := rpak_any br v l 0 L.length k L.length a0 a1 a2 a3 (w.alloc o) hA hl (by omega) (by omega) hsm k0 k1 k2 k3
      rw [Nat.zero_add, hlt] at q
      exact q.mono fun e w' ⟨q1, q2, q3⟩ => ⟨q1, q2, q3⟩
  have cat : ∀ w2, Hid (Rd w2 br v l 0 ∧ Kept (fun _ => False) (w.alloc o) w2) → Calls Tryd.prog 14 #[.pointer (some ⟨br, 0, none⟩)] w2 fun e w' => e = .returned (.int .i64 0) ∧ w' = w2 := fun w2 hh => at_any br v l 0 w2 hh.out.1
  have hg : ∀ w2, Hid (Rd w2 br v l 0 ∧ Kept (fun _ => False) (w.alloc o) w2) → w2.cell? ⟨2, 0, none⟩ = some (.iface 96 (.pointer (some a0))) := fun w2 hh => hh.out.2.cell k0 (fun f => f)
  have C1 := hide c1
  have CA := hide cat
  have HG := hide hg
  have HK := hide hK
  have heq := err_same a0
  subst ho
  have hsz := h.sm
  clear h c1 cat hg hK k0 k1 k2 k3 hA g0 g1 g2 g3
  go_enter Tryd.func18, Tryd.ntmps18
  go_wp2_with (first | (go_at_call 39; refine C1.out.mono ?_; rintro e w2 ⟨rfl, hii⟩; have z0 := HG.out w2 hii) | (go_at_call 14; refine (CA.out _ hii).mono ?_; rintro e w3 ⟨rfl, rfl⟩))
  go_ret
  exact ⟨by first | rfl | simp, HK.out.trans hii.out.2 (fun _ f => f.elim)⟩
end Go.Proofs.YtopmdpfnigceeaaDoor
