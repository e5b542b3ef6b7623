import Derived.Test.YtcanbhbhdgogoaaDoorMrg3
import Derived.Test.YtcanbhbhdgogoaaDoorNrh
import Derived.BigQuiet
namespace Go.Proofs.YtcanbhbhdgogoaaDoor
open Go.ChangeShapes Go.WideShapes Go.ChangeAt Go.RowKit

theorem ask_cells {w : World} {b : Nat} {kd i : Int} {x : ByteArray} (h : w.heap[b]? = some (.cells #[.int .i64 kd, .int .i64 i, .string x] 48 (0, 0))) :
    w.cell? ⟨b, 0, none⟩ = some (.int .i64 kd) ∧ w.cell? ⟨b, 1, none⟩ = some (.int .i64 i) ∧ w.cell? ⟨b, 2, none⟩ = some (.string x) := by
  refine ⟨?_, ?_, ?_⟩ <;> simp [World.cell?, h]
set_option maxRecDepth 20000 in
set_option maxHeartbeats 4000000 in
theorem answer_find (i : Int) (x : ByteArray) (w : World) (ws bd : Nat) (va : Value) (E : List En) (a : Option Addr) (c : Nat) (h : Dct w ws bd va E) (hE : EsAt w a E) (hr : Rises E) (hn : E.length ≤ 1073741824) :
    Calls Tryd.prog 16 #[.pointer (some ⟨bd, 0, none⟩), .slice a E.length c, .agg #[.int .i64 2, .int .i64 i, .string x]] w fun e w' => e = .returned (.bool true) ∧ Kept (fun _ => False) w w' := by
  have KA := Kept.alloc w (.cells #[.int .i64 2, .int .i64 i, .string x] 48)
  have H5 := hideQ (heap_alloc_new w (.cells #[.int .i64 2, .int .i64 i, .string x] 48))
  have CF := hideQ (find_any x _ ws bd va E (h.kept KA) (by omega))
  have CR : Hid (∀ V, Kept (fun _ => False) (w.alloc (.cells #[.int .i64 2, .int .i64 i, .string x] 48)) V → Calls Tryd.prog 36 #[.slice a E.length c, .string x] V fun e w' => rfPost E x e ∧ w' = V) := hideQ (fun V k => rfind_anyN x E a c V ((hE.kept KA).kept k) hn)
  have HS : Hid (∀ (j : Nat) (b : Bool) (e : Ending), Fnd E x j b → rfPost E x e → e = .returned (.tuple #[.int .i64 j, .bool b])) := hideQ (fun j b e => fnd_same hr)
  have HK := hideQ KA
  generalize Fnd E x = FN at *
  generalize rfPost E x = RF at *
  generalize E.length = n at *
  clear h hE hr KA
  go_enter Tryd.func16, Tryd.ntmps16
  go_wp2_with (go_at_call 17; refine Stp.go ?_)
  refine ⟨?_⟩
  refine CF.out.mono ?_
  clear CF
  rintro e V1 ⟨⟨j, b, rfl, hf⟩, K1⟩
  obtain ⟨c0, c1, c2⟩ := ask_cells (K1.heap H5.out (fun f => f))
  have CR1 := hideQ (CR.out V1 K1)
  have HS1 := hideQ (fun e => HS.out j b e hf)
  have HK1 := hideQ (HK.out.trans K1 (fun _ f => f.elim))
  have t3 : ((j : Int) == (j : Int)) = true := by simp
  have t4 : (b == b) = true := by simp
  clear CR K1 HK H5 HS hf
  go_wp2_with (go_at_call 36; refine Stp.go ?_)
  refine ⟨?_⟩
  refine CR1.out.mono ?_
  clear CR1
  rintro e V2 ⟨hp, h2⟩
  obtain rfl := h2.symm
  obtain rfl := HS1.out e hp
  clear HS1 hp
  go_wp2
  go_ret
  exact ⟨by first | rfl | simp, HK1.out⟩
set_option maxRecDepth 20000 in
set_option maxHeartbeats 4000000 in
theorem answer_heads (i : Int) (x : ByteArray) (w : World) (ws bd : Nat) (va : Value) (E : List En) (a : Option Addr) (c : Nat) (h : Dct w ws bd va E) (hE : EsAt w a E) (hr : Rises E) (hn : E.length ≤ 1073741824) :
    Calls Tryd.prog 16 #[.pointer (some ⟨bd, 0, none⟩), .slice a E.length c, .agg #[.int .i64 4, .int .i64 i, .string x]] w fun e w' => e = .returned (.bool true) ∧ Kept (fun _ => False) w w' := by
  have KA := Kept.alloc w (.cells #[.int .i64 4, .int .i64 i, .string x] 48)
  have H5 := hideQ (heap_alloc_new w (.cells #[.int .i64 4, .int .i64 i, .string x] 48))
  have CF := hideQ (heads_any x _ ws bd va E (h.kept KA) (by omega))
  have CR : Hid (∀ V, Kept (fun _ => False) (w.alloc (.cells #[.int .i64 4, .int .i64 i, .string x] 48)) V → Calls Tryd.prog 40 #[.slice a E.length c, .string x] V fun e w' => e = .returned (.tuple #[.int .i64 (blw E x E.length : Nat), .int .i64 ((blw E x E.length + bgn E x E.length : Nat))]) ∧ w' = V) := hideQ (fun V k => rheads_any x E a c V ((hE.kept KA).kept k) hn)
  have HS : Hid (∀ r t : Nat, Hdd E x r t → blw E x E.length = r ∧ blw E x E.length + bgn E x E.length = t) := hideQ (fun r t hd => by
    have e1 := skd_blw hr hd.1
    have e2 := hdd_bgn hr hd
    have := hd.2.1
    exact ⟨e1, by omega⟩)
  have HK := hideQ KA
  generalize Hdd E x = FN at *
  generalize blw E x E.length + bgn E x E.length = q2 at *
  generalize blw E x E.length = q1 at *
  generalize E.length = n at *
  clear h hE hr KA
  go_enter Tryd.func16, Tryd.ntmps16
  go_wp2_with (go_at_call 39; refine Stp.go ?_)
  refine ⟨?_⟩
  refine CF.out.mono ?_
  clear CF
  rintro e V1 ⟨⟨r, t, rfl, hf⟩, K1⟩
  obtain ⟨c0, c1, c2⟩ := ask_cells (K1.heap H5.out (fun f => f))
  have CR1 := hideQ (CR.out V1 K1)
  obtain ⟨e1, e2⟩ := HS.out r t hf
  rw [e1, e2] at CR1
  have HK1 := hideQ (HK.out.trans K1 (fun _ f => f.elim))
  have t3 : ((r : Int) == (r : Int)) = true := by simp
  have t4 : ((t : Int) == (t : Int)) = true := by simp
  clear CR K1 HK H5 HS hf e1 e2
  go_wp2_with (go_at_call 40; refine Stp.go ?_)
  refine ⟨?_⟩
  refine CR1.out.mono ?_
  clear CR1
  rintro e V2 ⟨rfl, h2⟩
  obtain rfl := h2.symm
  go_wp2
  go_ret
  exact ⟨by first | rfl | simp, HK1.out⟩
set_option maxRecDepth 20000 in
set_option maxHeartbeats 4000000 in
theorem answer_walk (hC : ClnOk) (i : Int) (x : ByteArray) (w : World) (ws bd : Nat) (va : Value) (E : List En) (a : Option Addr) (c : Nat) (h : Dct w ws bd va E) (hE : EsAt w a E) (hn : E.length ≤ 1073741824) (hk : ∀ e ∈ E, e.k.size ≤ 281474976710656) (hi1 : -9223372036854775808 ≤ i) (hi2 : i ≤ 9223372036854775807) :
    Calls Tryd.prog 16 #[.pointer (some ⟨bd, 0, none⟩), .slice a E.length c, .agg #[.int .i64 5, .int .i64 i, .string x]] w fun e w' => e = .returned (.bool true) ∧ Kept (fun _ => False) w w' := by
  have KA := Kept.alloc w (.cells #[.int .i64 5, .int .i64 i, .string x] 48)
  have CF := hideQ (walked_any hC i _ ws bd va E a c (h.kept KA) (hE.kept KA) (by omega) hk hi1 hi2)
  have HK := hideQ KA
  generalize E.length = n at *
  clear h hE KA hk hC
  go_enter Tryd.func16, Tryd.ntmps16
  go_wp2_with (go_at_call 15; refine Stp.go ?_)
  refine ⟨?_⟩
  refine CF.out.mono ?_
  clear CF
  rintro e V1 ⟨rfl, K1⟩
  have HK1 := hideQ (HK.out.trans K1 (fun _ f => f.elim))
  clear K1 HK
  go_wp2
  go_ret
  exact ⟨rfl, HK1.out⟩
set_option maxRecDepth 20000 in
set_option maxHeartbeats 4000000 in
theorem answer_none (kd i : Int) (x : ByteArray) (w : World) (bd n : Nat) (a : Option Addr) (c : Nat) (h1 : ¬ kd = 1) (h2 : ¬ kd = 2) (h3 : ¬ kd = 3) (h4 : ¬ kd = 4) (h5 : ¬ kd = 5) (h6 : ¬ kd = 6) :
    Calls Tryd.prog 16 #[.pointer (some ⟨bd, 0, none⟩), .slice a n c, .agg #[.int .i64 kd, .int .i64 i, .string x]] w fun e w' => e = .returned (.bool true) ∧ Kept (fun _ => False) w w' := by
  have HK := hideQ (Kept.alloc w (.cells #[.int .i64 kd, .int .i64 i, .string x] 48))
  have b1 : (kd == 1) = false := beq_eq_false_iff_ne.2 h1
  have b2 : (kd == 2) = false := beq_eq_false_iff_ne.2 h2
  have b3 : (kd == 3) = false := beq_eq_false_iff_ne.2 h3
  have b4 : (kd == 4) = false := beq_eq_false_iff_ne.2 h4
  have b5 : (kd == 5) = false := beq_eq_false_iff_ne.2 h5
  have b6 : (kd == 6) = false := beq_eq_false_iff_ne.2 h6
  go_enter Tryd.func16, Tryd.ntmps16
  go_wp2
  go_ret
  exact ⟨rfl, HK.out⟩
end Go.Proofs.YtcanbhbhdgogoaaDoor
namespace Go.Proofs.YtcanbhbhdgogoaaDoor
open Go.ChangeShapes Go.WideShapes Go.ChangeAt Go.RowKit

set_option maxRecDepth 20000 in
set_option maxHeartbeats 4000000 in
theorem answer_seek (i : Int) (x : ByteArray) (w : World) (ws bd : Nat) (va : Value) (E : List En) (a : Option Addr) (c : Nat) (h : Dct w ws bd va E) (hE : EsAt w a E) (hr : Rises E) (hn : E.length ≤ 1073741824) :
    Calls Tryd.prog 16 #[.pointer (some ⟨bd, 0, none⟩), .slice a E.length c, .agg #[.int .i64 3, .int .i64 i, .string x]] w fun e w' => e = .returned (.bool true) ∧ Kept (fun _ => False) w w' := by
  have KA := Kept.alloc w (.cells #[.int .i64 3, .int .i64 i, .string x] 48)
  have H5 := hideQ (heap_alloc_new w (.cells #[.int .i64 3, .int .i64 i, .string x] 48))
  have CF : Hid (∀ V, Kept (fun _ => False) w V → Calls Tryd.prog 37 #[.pointer (some ⟨bd, 0, none⟩), .string x] V fun e w' => (∃ r : Nat, e = .returned (.int .i64 r) ∧ Skd E x r) ∧ Kept (fun _ => False) V w') := hideQ (fun V k => seek_any x V ws bd va E (h.kept k) (by omega))
  have CR : Hid (∀ V, Kept (fun _ => False) w V → Calls Tryd.prog 38 #[.slice a E.length c, .string x] V fun e w' => e = .returned (.int .i64 (blw E x E.length : Nat)) ∧ w' = V) := hideQ (fun V k => rseek_any x E a c V (hE.kept k) hn)
  have HS : Hid (∀ r : Nat, Skd E x r → blw E x E.length = r) := hideQ (fun r hd => skd_blw hr hd)
  have HK := hideQ KA
  generalize Skd E x = FN at *
  generalize blw E x E.length = q1 at *
  generalize E.length = n at *
  clear h hE hr KA
  go_enter Tryd.func16, Tryd.ntmps16
  go_wp2_with fail
  refine wp_region_held (S := fun V => V.heap[w.heap.size]? = some (.cells #[.int .i64 3, .int .i64 i, .string x] 48 (0, 0))) (by kernel_rfl) ?_
  change wpAnyH _ _ _ _ _ _ _ _ (World.drew _)
  have hS := (Kept.drew (w.alloc (.cells #[.int .i64 3, .int .i64 i, .string x] 48))).heap H5.out (fun f => f)
  have HK0 := hideQ (HK.out.trans (Kept.drew (w.alloc (.cells #[.int .i64 3, .int .i64 i, .string x] 48))) (fun _ f => f.elim))
  generalize (w.alloc (.cells #[.int .i64 3, .int .i64 i, .string x] 48)).drew = V0 at *
  have CF1 := hideQ (CF.out V0 HK0.out)
  clear CF H5 HK
  refine takeZ (i := 0) (d := 81) (v := .pointer (some ⟨bd, 0, none⟩)) rfl rfl (by kernel_rfl) (by kernel_rfl) (by kernel_rfl) (fun _ _ _ h => h) (Or.inl ⟨by rfl, fun W hW => ?_⟩) hS ?_
  · (go_simp)
  simp only [Act.put, List.setIfInBounds_toArray, List.set_cons_zero, List.set_cons_succ]
  refine takeZ (i := 1) (d := 82) (v := .pointer (some ⟨w.heap.size, 2, none⟩)) rfl rfl (by kernel_rfl) (by kernel_rfl) (by kernel_rfl) (fun _ _ _ h => h) (Or.inl ⟨by rfl, fun W hW => ?_⟩) hS ?_
  · (go_simp)
  simp only [Act.put, List.setIfInBounds_toArray, List.set_cons_zero, List.set_cons_succ]
  refine takeZ (i := 2) (d := 83) (v := .string x) rfl rfl (by kernel_rfl) (by kernel_rfl) (by kernel_rfl) (fun _ _ _ h => h) (Or.inl ⟨by rfl, fun W hW => ?_⟩) hS ?_
  · (have q := (ask_cells hW).2.2; go_simp)
  simp only [Act.put, List.setIfInBounds_toArray, List.set_cons_zero, List.set_cons_succ]
  refine takeZ (i := 4) (d := 85) (v := .slice a n c) rfl rfl (by kernel_rfl) (by kernel_rfl) (by kernel_rfl) (fun _ _ _ h => h) (Or.inl ⟨by rfl, fun W hW => ?_⟩) hS ?_
  · (go_simp)
  simp only [Act.put, List.setIfInBounds_toArray, List.set_cons_zero, List.set_cons_succ]
  refine takeZ (i := 5) (d := 86) (v := .pointer (some ⟨w.heap.size, 2, none⟩)) rfl rfl (by kernel_rfl) (by kernel_rfl) (by kernel_rfl) (fun _ _ _ h => h) (Or.inl ⟨by rfl, fun W hW => ?_⟩) hS ?_
  · (go_simp)
  simp only [Act.put, List.setIfInBounds_toArray, List.set_cons_zero, List.set_cons_succ]
  refine takeZ (i := 6) (d := 87) (v := .string x) rfl rfl (by kernel_rfl) (by kernel_rfl) (by kernel_rfl) (fun _ _ _ h => h) (Or.inl ⟨by rfl, fun W hW => ?_⟩) hS ?_
  · (have q := (ask_cells hW).2.2; go_simp)
  simp only [Act.put, List.setIfInBounds_toArray, List.set_cons_zero, List.set_cons_succ]
  refine wpAnyH_all (rs := [3]) (by kernel_rfl) (by simp) ?_
  intro i' hi'
  obtain rfl : i' = 3 := by simpa using hi'
  unfold wpOp
  go_simp
  first | refine CF1.out.mono ?_ | refine Or.inl (CF1.out.mono ?_)
  clear CF1
  rintro e V1 ⟨⟨r, rfl, hf⟩, K1⟩
  have hS1 := K1.heap hS (fun f => f)
  refine ⟨hS1, ?_⟩
  have hk1 := HK0.out.trans K1 (fun _ f => f.elim)
  have CR1 := hideQ (CR.out V1 hk1)
  rw [HS.out r hf] at CR1
  have HK1 := hideQ hk1
  clear CR HS hf K1 hk1 HK0 hS
  refine wpAnyH_all (rs := [7]) (by kernel_rfl) (by simp) ?_
  intro i' hi'
  obtain rfl : i' = 7 := by simpa using hi'
  unfold wpOp
  go_simp
  first | refine CR1.out.mono ?_ | refine Or.inl (CR1.out.mono ?_)
  clear CR1
  rintro e V2 ⟨rfl, h2⟩
  obtain rfl : V1 = V2 := h2.symm
  refine ⟨hS1, ?_⟩
  refine takeZ (i := 8) (d := 89) (v := .bool true) rfl rfl (by kernel_rfl) (by kernel_rfl) (by kernel_rfl) (fun _ _ _ h => h) (Or.inl ⟨by rfl, fun W hW => ?_⟩) hS1 ?_
  · (go_simp; first | done | simp)
  simp only [Act.put, List.setIfInBounds_toArray, List.set_cons_zero, List.set_cons_succ]
  refine takeZ (i := 9) (d := 6) (v := .bool true) rfl rfl (by kernel_rfl) (by kernel_rfl) (by kernel_rfl) (fun _ _ _ h => h) (Or.inl ⟨by rfl, fun W hW => ?_⟩) hS1 ?_
  · (go_simp)
  simp only [Act.put, List.setIfInBounds_toArray, List.set_cons_zero, List.set_cons_succ]
  refine wpAnyH_done (by kernel_rfl) ?_ _
  go_wp2
  go_ret
  exact ⟨rfl, HK1.out⟩
set_option maxRecDepth 20000 in
set_option maxHeartbeats 4000000 in
theorem atD_out (i : Int) (w : World) (ws bd : Nat) (va : Value) (E : List En) (h : Dct w ws bd va E) (hi : i < 0 ∨ (E.length : Int) ≤ i) : Calls Tryd.prog 35 #[.pointer (some ⟨bd, 0, none⟩), .int .i64 i] w fun e w' => e = .returned (.tuple #[.agg #[.string ⟨#[]⟩, .int .i64 0, .int .i64 0, .int .i64 0, .int .i64 0], .bool false]) ∧ Kept (fun _ => False) w w' := by
  have K1 := Kept.alloc w (.cells #[.string ⟨#[]⟩, .int .i64 0, .int .i64 0, .int .i64 0, .int .i64 0] 31)
  have hc := (h.kept K1).cell
  obtain ⟨a, c, rfl⟩ := h.shape
  have hX := enO_new w ⟨#[]⟩ 0 0 0 0
  obtain ⟨⟨z0, z1, z2, z3, z4⟩, gz⟩ := enO_cells hX
  have g0 := gz 0
  have g1 := gz 1
  have g2 := gz 2
  have g3 := gz 3
  have g4 := gz 4
  clear gz
  have HKf := hideQ K1
  clear h K1 hX
  generalize E.length = n at *
  by_cases h0 : i < 0
  · have d0 : decide (i < 0) = true := decide_eq_true h0
    clear hi
    go_enter Tryd.func35, Tryd.ntmps35
    go_wp2
    refine bodyPost_ret (v := .tuple #[.agg #[.string ⟨#[]⟩, .int .i64 0, .int .i64 0, .int .i64 0, .int .i64 0], .bool false]) (by simp [results, Tryd.results35, go_sem, z0, z1, z2, z3, z4]) rfl ⟨rfl, HKf.out⟩
  · have hi2 : (n : Int) ≤ i := by omega
    have d0 : decide (i < 0) = false := decide_eq_false h0
    have d1 : decide ((n : Int) ≤ i) = true := decide_eq_true hi2
    clear hi
    go_enter Tryd.func35, Tryd.ntmps35
    go_wp2
    refine bodyPost_ret (v := .tuple #[.agg #[.string ⟨#[]⟩, .int .i64 0, .int .i64 0, .int .i64 0, .int .i64 0], .bool false]) (by simp [results, Tryd.results35, go_sem, z0, z1, z2, z3, z4]) rfl ⟨rfl, HKf.out⟩
end Go.Proofs.YtcanbhbhdgogoaaDoor
namespace Go.Proofs.YtcanbhbhdgogoaaDoor
open Go.ChangeShapes Go.WideShapes Go.ChangeAt Go.RowKit

set_option maxRecDepth 20000 in
set_option maxHeartbeats 4000000 in
theorem answer_at_out (i : Int) (x : ByteArray) (w : World) (ws bd : Nat) (va : Value) (E : List En) (a : Option Addr) (c : Nat) (h : Dct w ws bd va E) (hi : i < 0 ∨ (E.length : Int) ≤ i) :
    Calls Tryd.prog 16 #[.pointer (some ⟨bd, 0, none⟩), .slice a E.length c, .agg #[.int .i64 1, .int .i64 i, .string x]] w fun e w' => e = .returned (.bool true) ∧ Kept (fun _ => False) w w' := by
  have KA := Kept.alloc w (.cells #[.int .i64 1, .int .i64 i, .string x] 48)
  have H5 := hideQ (heap_alloc_new w (.cells #[.int .i64 1, .int .i64 i, .string x] 48))
  have CF := hideQ (atD_out i _ ws bd va E (h.kept KA) hi)
  have HK := hideQ KA
  generalize E.length = n at *
  clear h KA
  go_enter Tryd.func16, Tryd.ntmps16
  go_wp2_with (go_at_call 35; refine Stp.go ?_)
  refine ⟨?_⟩
  refine CF.out.mono ?_
  clear CF
  rintro e V1 ⟨rfl, K1⟩
  have K2 := Kept.alloc V1 (.cells #[.string ⟨#[]⟩, .int .i64 0, .int .i64 0, .int .i64 0, .int .i64 0] 31)
  obtain ⟨c0, c1, c2⟩ := ask_cells (K2.heap (K1.heap H5.out (fun f => f)) (fun f => f))
  obtain ⟨⟨z0, z1, z2, z3, z4⟩, gz⟩ := enO_cells (enO_new V1 ⟨#[]⟩ 0 0 0 0)
  have g0 := gz 0
  have g1 := gz 1
  have g2 := gz 2
  have g3 := gz 3
  have g4 := gz 4
  have HK2 := hideQ ((HK.out.trans K1 (fun _ f => f.elim)).trans K2 (fun _ f => f.elim))
  clear gz K1 K2 HK H5
  by_cases h0 : i < 0
  · have d0 : decide (i < 0) = true := decide_eq_true h0
    clear hi
    go_wp2
    go_ret
    exact ⟨by first | rfl | simp, HK2.out⟩
  · have hi2 : (n : Int) ≤ i := by omega
    have d0 : decide (i < 0) = false := decide_eq_false h0
    have d1 : decide ((n : Int) ≤ i) = true := decide_eq_true hi2
    clear hi
    go_wp2
    go_ret
    exact ⟨by first | rfl | simp, HK2.out⟩
set_option maxRecDepth 20000 in
set_option maxHeartbeats 4000000 in
theorem answer_at_in (hC : ClnOk) (i : Nat) (x : ByteArray) (w : World) (ws bd : Nat) (va : Value) (E : List En) (a : Option Addr) (c : Nat) (h : Dct w ws bd va E) (hE : EsAt w a E) (hi : i < E.length) (hk : ∀ e ∈ E, e.k.size ≤ 281474976710656) :
    Calls Tryd.prog 16 #[.pointer (some ⟨bd, 0, none⟩), .slice a E.length c, .agg #[.int .i64 1, .int .i64 (i : Nat), .string x]] w fun e w' => e = .returned (.bool true) ∧ Kept (fun _ => False) w w' := by
  have KA := Kept.alloc w (.cells #[.int .i64 1, .int .i64 (i : Nat), .string x] 48)
  have H5 := hideQ (heap_alloc_new w (.cells #[.int .i64 1, .int .i64 (i : Nat), .string x] 48))
  have CF := hideQ (atD_in hC _ ws bd i va E (h.kept KA) hi (hk _ (List.getElem_mem hi)))
  obtain ⟨bE, oE, rfl, hcE⟩ := hE (by intro e; rw [e] at hi; simp at hi)
  obtain ⟨w0, w1, w2, w3, w4⟩ := hcE i hi
  have hbE : bE < w.heap.size := lt_of_cellD w0
  have HK := hideQ KA
  have d0 : decide ((i : Int) < 0) = false := decide_eq_false (by omega)
  have d1 : decide ((E.length : Int) ≤ (i : Int)) = false := decide_eq_false (by omega)
  have d2 : decide (E.length ≤ i) = false := decide_eq_false (by omega)
  have d3 : (i : Int) < (E.length : Int) := by omega
  clear hcE hk
  generalize E[i] = en at *
  obtain ⟨k, d, t, p, s⟩ := en
  simp only [enV] at w0 w1 w2 w3 w4 CF
  have W0 := hideQ w0
  have W1 := hideQ w1
  have W2 := hideQ w2
  have W3 := hideQ w3
  have W4 := hideQ w4
  generalize E.length = n at *
  clear h KA w0 w1 w2 w3 w4 hC
  go_enter Tryd.func16, Tryd.ntmps16
  go_wp2_with (go_at_call 35; refine Stp.go ?_)
  refine ⟨?_⟩
  refine CF.out.mono ?_
  clear CF
  rintro e V1 ⟨rfl, K1⟩
  have K2 := Kept.alloc V1 (.cells #[.string k, .int .i64 d, .int .i64 t, .int .i64 p, .int .i64 s] 31)
  obtain ⟨c0, c1, c2⟩ := ask_cells (K2.heap (K1.heap H5.out (fun f => f)) (fun f => f))
  obtain ⟨⟨q0, q1, q2, q3, q4⟩, -⟩ := enO_cells (enO_new V1 k d t p s)
  have KK := (HK.out.trans K1 (fun _ f => f.elim)).trans K2 (fun _ f => f.elim)
  have y0 := KK.cell W0.out (fun f => f)
  have y1 := KK.cell W1.out (fun f => f)
  have y2 := KK.cell W2.out (fun f => f)
  have y3 := KK.cell W3.out (fun f => f)
  have y4 := KK.cell W4.out (fun f => f)
  have HKf := hideQ KK
  clear K1 K2 HK H5 W0 W1 W2 W3 W4 KK
  go_wp2_with fail
  go_quiet (fail)
  go_wp2
  go_ret
  exact ⟨by first | rfl | simp, HKf.out.trans (Kept.drewN _ _) (fun _ f => f.elim)⟩
set_option maxRecDepth 20000 in
set_option maxHeartbeats 4000000 in
theorem answer_sizeG (i : Int) (x : ByteArray) (w : World) (ws bd : Nat) (va : Value) (E : List En) (a : Option Addr) (c : Nat) (h : Dct w ws bd va E) (hn : E.length ≤ 1073741824) :
    Calls Tryd.prog 16 #[.pointer (some ⟨bd, 0, none⟩), .slice a E.length c, .agg #[.int .i64 6, .int .i64 i, .string x]] w fun e w' => e = .returned (.bool true) ∧ Kept (fun _ => False) w w' := by
  obtain ⟨nb, hnb⟩ : ∃ nb, nb = nbk E.length := ⟨_, rfl⟩
  have KA := Kept.alloc w (.cells #[.int .i64 6, .int .i64 i, .string x] 48)
  have CL := hideQ (len_any _ ws bd va E (h.kept KA))
  have CB := hideQ (dblocks_any _ ws bd va E (h.kept KA) (by omega))
  rw [← hnb] at CB
  have HK := hideQ KA
  obtain ⟨n, hN⟩ : ∃ n, n = E.length := ⟨_, rfl⟩
  rw [← hN] at hn CL hnb ⊢
  have t0 : IntKind.i64.wrap ((n : Int) + 15) = (n : Int) + 15 := by rw [IntKind.wrap_i64]; omega
  have t1 : ((n : Int) + 15).tdiv 16 = (nb : Int) := by rw [Int.tdiv_eq_ediv_of_nonneg (by omega), hnb, nbk]; omega
  have t2 : ((n : Int) + 15) / 16 = (nb : Int) := by rw [hnb, nbk]; omega
  have t3 : ((n : Int) == (n : Int)) = true := by simp
  have t4 : ((nb : Int) == (nb : Int)) = true := by simp
  clear h hN hnb KA
  go_enter Tryd.func16, Tryd.ntmps16
  go_wp2_with (first
    | (go_at_call 18; refine CL.out.mono ?_; rintro e V1 ⟨rfl, h1⟩; obtain rfl := h1.symm)
    | (go_at_call 41; refine CB.out.mono ?_; rintro e V2 ⟨rfl, h2⟩; obtain rfl := h2.symm))
  go_ret
  exact ⟨by first | rfl | simp, HK.out⟩
/-- The law's answer, at any question. -/
theorem answer_any (hC : ClnOk) (kd i : Int) (x : ByteArray) (w : World) (ws bd : Nat) (va : Value) (E : List En) (a : Option Addr) (c : Nat) (h : Dct w ws bd va E) (hE : EsAt w a E) (hr : Rises E) (hn : E.length ≤ 1073741824) (hk : ∀ e ∈ E, e.k.size ≤ 281474976710656) (hi1 : -9223372036854775808 ≤ i) (hi2 : i ≤ 9223372036854775807) :
    Calls Tryd.prog 16 #[.pointer (some ⟨bd, 0, none⟩), .slice a E.length c, .agg #[.int .i64 kd, .int .i64 i, .string x]] w fun e w' => e = .returned (.bool true) ∧ Kept (fun _ => False) w w' := by
  by_cases e1 : kd = 1
  · subst e1
    by_cases ho : i < 0 ∨ (E.length : Int) ≤ i
    · exact answer_at_out i x w ws bd va E a c h ho
    · obtain ⟨j, rfl⟩ : ∃ j : Nat, i = (j : Int) := ⟨i.toNat, by omega⟩
      exact answer_at_in hC j x w ws bd va E a c h hE (by omega) hk
  by_cases e2 : kd = 2
  · subst e2; exact answer_find i x w ws bd va E a c h hE hr hn
  by_cases e3 : kd = 3
  · subst e3; exact answer_seek i x w ws bd va E a c h hE hr hn
  by_cases e4 : kd = 4
  · subst e4; exact answer_heads i x w ws bd va E a c h hE hr hn
  by_cases e5 : kd = 5
  · subst e5; exact answer_walk hC i x w ws bd va E a c h hE hn hk hi1 hi2
  by_cases e6 : kd = 6
  · subst e6; exact answer_sizeG i x w ws bd va E a c h hn
  exact answer_none kd i x w bd E.length a c e1 e2 e3 e4 e5 e6
end Go.Proofs.YtcanbhbhdgogoaaDoor
