import Derived.Test.YteeimpjjmdpbgaaDoorNpb
import Derived.Test.YteeimpjjmdpbgaaDoorNrh
namespace Go.Proofs.YteeimpjjmdpbgaaDoor
open Go.ChangeShapes Go.WideShapes Go.ChangeAt Go.RowKit

theorem ask_cells {w : World} {b : Nat} {kd i : Int} {x : ByteArray} (h : w.heap[b]? = some (.cells #[.int .i64 kd, .int .i64 i, .string x] 38 (0, 0))) :
    w.cell? ⟨b, 0, none⟩ = some (.int .i64 kd) ∧ w.cell? ⟨b, 1, none⟩ = some (.int .i64 i) ∧ w.cell? ⟨b, 2, none⟩ = some (.string x) := by
  refine ⟨?_, ?_, ?_⟩ <;> simp [World.cell?, h]
set_option maxRecDepth 20000 in
set_option maxHeartbeats 4000000 in
theorem answer_find (i : Int) (x : ByteArray) (w : World) (ws bd : Nat) (va : Value) (E : List En) (a : Option Addr) (c : Nat) (h : Dct w ws bd va E) (hE : EsAt w a E) (hr : Rises E) (hn : E.length ≤ 1073741824) :
    Calls Tryd.prog 10 #[.pointer (some ⟨bd, 0, none⟩), .slice a E.length c, .agg #[.int .i64 2, .int .i64 i, .string x]] w fun e w' => e = .returned (.bool true) ∧ Kept (fun _ => False) w w' := by
  have KA := Kept.alloc w (.cells #[.int .i64 2, .int .i64 i, .string x] 38)
  have H5 := hideQ (heap_alloc_new w (.cells #[.int .i64 2, .int .i64 i, .string x] 38))
  have CF := hideQ (find_any x _ ws bd va E (h.kept KA) (by omega))
  have CR : Hid (∀ V, Kept (fun _ => False) (w.alloc (.cells #[.int .i64 2, .int .i64 i, .string x] 38)) V → Calls Tryd.prog 27 #[.slice a E.length c, .string x] V fun e w' => rfPost E x e ∧ w' = V) := hideQ (fun V k => rfind_anyN x E a c V ((hE.kept KA).kept k) hn)
  have HS : Hid (∀ (j : Nat) (b : Bool) (e : Ending), Fnd E x j b → rfPost E x e → e = .returned (.tuple #[.int .i64 j, .bool b])) := hideQ (fun j b e => fnd_same hr)
  have HK := hideQ KA
  generalize Fnd E x = FN at *
  generalize rfPost E x = RF at *
  generalize E.length = n at *
  clear h hE hr KA
  go_enter Tryd.func10, Tryd.ntmps10
  go_wp2_with (go_at_call 12; refine Stp.go ?_)
  refine ⟨?_⟩
  refine CF.out.mono ?_
  clear CF
  rintro e V1 ⟨⟨j, b, rfl, hf⟩, K1⟩
  obtain ⟨c0, c1, c2⟩ := ask_cells (K1.heap H5.out (fun f => f))
  have CR1 := hideQ (CR.out V1 K1)
  have HS1 := hideQ (fun e => HS.out j b e hf)
  have HK1 := hideQ (HK.out.trans K1 (fun _ f => f.elim))
  have t3 : ((j : Int) == (j : Int)) = true := by simp
  have t4 : (b == b) = true := by simp
  clear CR K1 HK H5 HS hf
  go_wp2_with (go_at_call 27; refine Stp.go ?_)
  refine ⟨?_⟩
  refine CR1.out.mono ?_
  clear CR1
  rintro e V2 ⟨hp, h2⟩
  obtain rfl := h2.symm
  obtain rfl := HS1.out e hp
  clear HS1 hp
  go_wp2
  go_ret
  exact ⟨by first | rfl | simp, HK1.out⟩
set_option maxRecDepth 20000 in
set_option maxHeartbeats 4000000 in
theorem answer_heads (i : Int) (x : ByteArray) (w : World) (ws bd : Nat) (va : Value) (E : List En) (a : Option Addr) (c : Nat) (h : Dct w ws bd va E) (hE : EsAt w a E) (hr : Rises E) (hn : E.length ≤ 1073741824) :
    Calls Tryd.prog 10 #[.pointer (some ⟨bd, 0, none⟩), .slice a E.length c, .agg #[.int .i64 4, .int .i64 i, .string x]] w fun e w' => e = .returned (.bool true) ∧ Kept (fun _ => False) w w' := by
  have KA := Kept.alloc w (.cells #[.int .i64 4, .int .i64 i, .string x] 38)
  have H5 := hideQ (heap_alloc_new w (.cells #[.int .i64 4, .int .i64 i, .string x] 38))
  have CF := hideQ (heads_any x _ ws bd va E (h.kept KA) (by omega))
  have CR : Hid (∀ V, Kept (fun _ => False) (w.alloc (.cells #[.int .i64 4, .int .i64 i, .string x] 38)) V → Calls Tryd.prog 31 #[.slice a E.length c, .string x] V fun e w' => e = .returned (.tuple #[.int .i64 (blw E x E.length : Nat), .int .i64 ((blw E x E.length + bgn E x E.length : Nat))]) ∧ w' = V) := hideQ (fun V k => rheads_any x E a c V ((hE.kept KA).kept k) hn)
  have HS : Hid (∀ r t : Nat, Hdd E x r t → blw E x E.length = r ∧ blw E x E.length + bgn E x E.length = t) := hideQ (fun r t hd => by
    have e1 := skd_blw hr hd.1
    have e2 := hdd_bgn hr hd
    have := hd.2.1
    exact ⟨e1, by omega⟩)
  have HK := hideQ KA
  generalize Hdd E x = FN at *
  generalize blw E x E.length + bgn E x E.length = q2 at *
  generalize blw E x E.length = q1 at *
  generalize E.length = n at *
  clear h hE hr KA
  go_enter Tryd.func10, Tryd.ntmps10
  go_wp2_with (go_at_call 30; refine Stp.go ?_)
  refine ⟨?_⟩
  refine CF.out.mono ?_
  clear CF
  rintro e V1 ⟨⟨r, t, rfl, hf⟩, K1⟩
  obtain ⟨c0, c1, c2⟩ := ask_cells (K1.heap H5.out (fun f => f))
  have CR1 := hideQ (CR.out V1 K1)
  obtain ⟨e1, e2⟩ := HS.out r t hf
  rw [e1, e2] at CR1
  have HK1 := hideQ (HK.out.trans K1 (fun _ f => f.elim))
  have t3 : ((r : Int) == (r : Int)) = true := by simp
  have t4 : ((t : Int) == (t : Int)) = true := by simp
  clear CR K1 HK H5 HS hf e1 e2
  go_wp2_with (go_at_call 31; refine Stp.go ?_)
  refine ⟨?_⟩
  refine CR1.out.mono ?_
  clear CR1
  rintro e V2 ⟨rfl, h2⟩
  obtain rfl := h2.symm
  go_wp2
  go_ret
  exact ⟨by first | rfl | simp, HK1.out⟩
set_option maxRecDepth 20000 in
set_option maxHeartbeats 4000000 in
theorem answer_walk (hC : ClnOk) (i : Int) (x : ByteArray) (w : World) (ws bd : Nat) (va : Value) (E : List En) (a : Option Addr) (c : Nat) (h : Dct w ws bd va E) (hE : EsAt w a E) (hn : E.length ≤ 1073741824) (hk : ∀ e ∈ E, e.k.size ≤ 281474976710656) (hi1 : -9223372036854775808 ≤ i) (hi2 : i ≤ 9223372036854775807) :
    Calls Tryd.prog 10 #[.pointer (some ⟨bd, 0, none⟩), .slice a E.length c, .agg #[.int .i64 5, .int .i64 i, .string x]] w fun e w' => e = .returned (.bool true) ∧ Kept (fun _ => False) w w' := by
  have KA := Kept.alloc w (.cells #[.int .i64 5, .int .i64 i, .string x] 38)
  have CF := hideQ (walked_any hC i _ ws bd va E a c (h.kept KA) (hE.kept KA) (by omega) hk hi1 hi2)
  have HK := hideQ KA
  generalize E.length = n at *
  clear h hE KA hk hC
  go_enter Tryd.func10, Tryd.ntmps10
  go_wp2_with (go_at_call 32; refine Stp.go ?_)
  refine ⟨?_⟩
  refine CF.out.mono ?_
  clear CF
  rintro e V1 ⟨rfl, K1⟩
  have HK1 := hideQ (HK.out.trans K1 (fun _ f => f.elim))
  clear K1 HK
  go_wp2
  go_ret
  exact ⟨rfl, HK1.out⟩
set_option maxRecDepth 20000 in
set_option maxHeartbeats 4000000 in
theorem answer_none (kd i : Int) (x : ByteArray) (w : World) (bd n : Nat) (a : Option Addr) (c : Nat) (h1 : ¬ kd = 1) (h2 : ¬ kd = 2) (h3 : ¬ kd = 3) (h4 : ¬ kd = 4) (h5 : ¬ kd = 5) (h6 : ¬ kd = 6) :
    Calls Tryd.prog 10 #[.pointer (some ⟨bd, 0, none⟩), .slice a n c, .agg #[.int .i64 kd, .int .i64 i, .string x]] w fun e w' => e = .returned (.bool true) ∧ Kept (fun _ => False) w w' := by
  have HK := hideQ (Kept.alloc w (.cells #[.int .i64 kd, .int .i64 i, .string x] 38))
  have b1 : (kd == 1) = false := beq_eq_false_iff_ne.2 h1
  have b2 : (kd == 2) = false := beq_eq_false_iff_ne.2 h2
  have b3 : (kd == 3) = false := beq_eq_false_iff_ne.2 h3
  have b4 : (kd == 4) = false := beq_eq_false_iff_ne.2 h4
  have b5 : (kd == 5) = false := beq_eq_false_iff_ne.2 h5
  have b6 : (kd == 6) = false := beq_eq_false_iff_ne.2 h6
  go_enter Tryd.func10, Tryd.ntmps10
  go_wp2
  go_ret
  exact ⟨rfl, HK.out⟩
end Go.Proofs.YteeimpjjmdpbgaaDoor
