import Derived.Test.YteeimpjjmdpbgaaDoorNpd
namespace Go.Proofs.YteeimpjjmdpbgaaDoor
open Go.ChangeShapes Go.WideShapes Go.ChangeAt Go.RowKit

set_option maxRecDepth 20000 in
set_option maxHeartbeats 4000000 in
theorem answer_at_out (i : Int) (x : ByteArray) (w : World) (ws bd : Nat) (va : Value) (E : List En) (a : Option Addr) (c : Nat) (h : Dct w ws bd va E) (hi : i < 0 ∨ (E.length : Int) ≤ i) :
    Calls Tryd.prog 10 #[.pointer (some ⟨bd, 0, none⟩), .slice a E.length c, .agg #[.int .i64 1, .int .i64 i, .string x]] w fun e w' => e = .returned (.bool true) ∧ Kept (fun _ => False) w w' := by
  have KA := Kept.alloc w (.cells #[.int .i64 1, .int .i64 i, .string x] 38)
  have H5 := hideQ (heap_alloc_new w (.cells #[.int .i64 1, .int .i64 i, .string x] 38))
  have CF := hideQ (atD_out i _ ws bd va E (h.kept KA) hi)
  have HK := hideQ KA
  generalize E.length = n at *
  clear h KA
  go_enter Tryd.func10, Tryd.ntmps10
  go_wp2_with (go_at_call 26; refine Stp.go ?_)
  refine ⟨?_⟩
  refine CF.out.mono ?_
  clear CF
  rintro e V1 ⟨rfl, K1⟩
  have K2 := Kept.alloc V1 (.cells #[.string ⟨#[]⟩, .int .i64 0, .int .i64 0, .int .i64 0, .int .i64 0] 62)
  obtain ⟨c0, c1, c2⟩ := ask_cells (K2.heap (K1.heap H5.out (fun f => f)) (fun f => f))
  obtain ⟨⟨z0, z1, z2, z3, z4⟩, gz⟩ := enO_cells (enO_new V1 ⟨#[]⟩ 0 0 0 0)
  have g0 := gz 0
  have g1 := gz 1
  have g2 := gz 2
  have g3 := gz 3
  have g4 := gz 4
  have HK2 := hideQ ((HK.out.trans K1 (fun _ f => f.elim)).trans K2 (fun _ f => f.elim))
  clear gz K1 K2 HK H5
  by_cases h0 : i < 0
  · have d0 : decide (i < 0) = true := decide_eq_true h0
    clear hi
    go_wp2
    go_ret
    exact ⟨by first | rfl | simp, HK2.out⟩
  · have hi2 : (n : Int) ≤ i := by omega
    have d0 : decide (i < 0) = false := decide_eq_false h0
    have d1 : decide ((n : Int) ≤ i) = true := decide_eq_true hi2
    clear hi
    go_wp2
    go_ret
    exact ⟨by first | rfl | simp, HK2.out⟩
set_option maxRecDepth 20000 in
set_option maxHeartbeats 4000000 in
theorem answer_at_in (hC : ClnOk) (i : Nat) (x : ByteArray) (w : World) (ws bd : Nat) (va : Value) (E : List En) (a : Option Addr) (c : Nat) (h : Dct w ws bd va E) (hE : EsAt w a E) (hi : i < E.length) (hk : ∀ e ∈ E, e.k.size ≤ 281474976710656) :
    Calls Tryd.prog 10 #[.pointer (some ⟨bd, 0, none⟩), .slice a E.length c, .agg #[.int .i64 1, .int .i64 (i : Nat), .string x]] w fun e w' => e = .returned (.bool true) ∧ Kept (fun _ => False) w w' := by
  have KA := Kept.alloc w (.cells #[.int .i64 1, .int .i64 (i : Nat), .string x] 38)
  have H5 := hideQ (heap_alloc_new w (.cells #[.int .i64 1, .int .i64 (i : Nat), .string x] 38))
  have CF := hideQ (atD_in hC _ ws bd i va E (h.kept KA) hi (hk _ (List.getElem_mem hi)))
  obtain ⟨bE, oE, rfl, hcE⟩ := hE (by intro e; rw [e] at hi; simp at hi)
  obtain ⟨w0, w1, w2, w3, w4⟩ := hcE i hi
  have hbE : bE < w.heap.size := lt_of_cellD w0
  have HK := hideQ KA
  have d0 : decide ((i : Int) < 0) = false := decide_eq_false (by omega)
  have d1 : decide ((E.length : Int) ≤ (i : Int)) = false := decide_eq_false (by omega)
  have d2 : decide (E.length ≤ i) = false := decide_eq_false (by omega)
  have d3 : (i : Int) < (E.length : Int) := by omega
  clear hcE hk
  generalize E[i] = en at *
  obtain ⟨k, d, t, p, s⟩ := en
  simp only [enV] at w0 w1 w2 w3 w4 CF
  have W0 := hideQ w0
  have W1 := hideQ w1
  have W2 := hideQ w2
  have W3 := hideQ w3
  have W4 := hideQ w4
  generalize E.length = n at *
  clear h KA w0 w1 w2 w3 w4 hC
  go_enter Tryd.func10, Tryd.ntmps10
  go_wp2_with (go_at_call 26; refine Stp.go ?_)
  refine ⟨?_⟩
  refine CF.out.mono ?_
  clear CF
  rintro e V1 ⟨rfl, K1⟩
  have K2 := Kept.alloc V1 (.cells #[.string k, .int .i64 d, .int .i64 t, .int .i64 p, .int .i64 s] 62)
  obtain ⟨c0, c1, c2⟩ := ask_cells (K2.heap (K1.heap H5.out (fun f => f)) (fun f => f))
  obtain ⟨⟨q0, q1, q2, q3, q4⟩, -⟩ := enO_cells (enO_new V1 k d t p s)
  have KK := (HK.out.trans K1 (fun _ f => f.elim)).trans K2 (fun _ f => f.elim)
  have y0 := KK.cell W0.out (fun f => f)
  have y1 := KK.cell W1.out (fun f => f)
  have y2 := KK.cell W2.out (fun f => f)
  have y3 := KK.cell W3.out (fun f => f)
  have y4 := KK.cell W4.out (fun f => f)
  have HKf := hideQ KK
  clear K1 K2 HK H5 W0 W1 W2 W3 W4 KK
  go_wp2_with fail
  go_quiet (fail)
  go_wp2
  go_ret
  exact ⟨by first | rfl | simp, HKf.out.trans (Kept.drewN _ _) (fun _ f => f.elim)⟩
set_option maxRecDepth 20000 in
set_option maxHeartbeats 4000000 in
theorem answer_sizeG (i : Int) (x : ByteArray) (w : World) (ws bd : Nat) (va : Value) (E : List En) (a : Option Addr) (c : Nat) (h : Dct w ws bd va E) (hn : E.length ≤ 1073741824) :
    Calls Tryd.prog 10 #[.pointer (some ⟨bd, 0, none⟩), .slice a E.length c, .agg #[.int .i64 6, .int .i64 i, .string x]] w fun e w' => e = .returned (.bool true) ∧ Kept (fun _ => False) w w' := by
  obtain ⟨nb, hnb⟩ : ∃ nb, nb = nbk E.length := ⟨_, rfl⟩
  have KA := Kept.alloc w (.cells #[.int .i64 6, .int .i64 i, .string x] 38)
  have CL := hideQ (len_any _ ws bd va E (h.kept KA))
  have CB := hideQ (dblocks_any _ ws bd va E (h.kept KA) (by omega))
  rw [← hnb] at CB
  have HK := hideQ KA
  obtain ⟨n, hN⟩ : ∃ n, n = E.length := ⟨_, rfl⟩
  rw [← hN] at hn CL hnb ⊢
  have t0 : IntKind.i64.wrap ((n : Int) + 15) = (n : Int) + 15 := by rw [IntKind.wrap_i64]; omega
  have t1 : ((n : Int) + 15).tdiv 16 = (nb : Int) := by rw [Int.tdiv_eq_ediv_of_nonneg (by omega), hnb, nbk]; omega
  have t2 : ((n : Int) + 15) / 16 = (nb : Int) := by rw [hnb, nbk]; omega
  have t3 : ((n : Int) == (n : Int)) = true := by simp
  have t4 : ((nb : Int) == (nb : Int)) = true := by simp
  clear h hN hnb KA
  go_enter Tryd.func10, Tryd.ntmps10
  go_wp2_with (first
    | (go_at_call 13; refine CL.out.mono ?_; rintro e V1 ⟨rfl, h1⟩; obtain rfl := h1.symm)
    | (go_at_call 33; refine CB.out.mono ?_; rintro e V2 ⟨rfl, h2⟩; obtain rfl := h2.symm))
  go_ret
  exact ⟨by first | rfl | simp, HK.out⟩
/-- The law's answer, at any question. -/
theorem answer_any (hC : ClnOk) (kd i : Int) (x : ByteArray) (w : World) (ws bd : Nat) (va : Value) (E : List En) (a : Option Addr) (c : Nat) (h : Dct w ws bd va E) (hE : EsAt w a E) (hr : Rises E) (hn : E.length ≤ 1073741824) (hk : ∀ e ∈ E, e.k.size ≤ 281474976710656) (hi1 : -9223372036854775808 ≤ i) (hi2 : i ≤ 9223372036854775807) :
    Calls Tryd.prog 10 #[.pointer (some ⟨bd, 0, none⟩), .slice a E.length c, .agg #[.int .i64 kd, .int .i64 i, .string x]] w fun e w' => e = .returned (.bool true) ∧ Kept (fun _ => False) w w' := by
  by_cases e1 : kd = 1
  · subst e1
    by_cases ho : i < 0 ∨ (E.length : Int) ≤ i
    · exact answer_at_out i x w ws bd va E a c h ho
    · obtain ⟨j, rfl⟩ : ∃ j : Nat, i = (j : Int) := ⟨i.toNat, by omega⟩
      exact answer_at_in hC j x w ws bd va E a c h hE (by omega) hk
  by_cases e2 : kd = 2
  · subst e2; exact answer_find i x w ws bd va E a c h hE hr hn
  by_cases e3 : kd = 3
  · subst e3; exact answer_seek i x w ws bd va E a c h hE hr hn
  by_cases e4 : kd = 4
  · subst e4; exact answer_heads i x w ws bd va E a c h hE hr hn
  by_cases e5 : kd = 5
  · subst e5; exact answer_walk hC i x w ws bd va E a c h hE hn hk hi1 hi2
  by_cases e6 : kd = 6
  · subst e6; exact answer_sizeG i x w ws bd va E a c h hn
  exact answer_none kd i x w bd E.length a c e1 e2 e3 e4 e5 e6
end Go.Proofs.YteeimpjjmdpbgaaDoor
