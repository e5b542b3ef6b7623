import Derived.Test.YteeimpjjmdpbgaaDoorNpc
import Derived.BigQuiet
namespace Go.Proofs.YteeimpjjmdpbgaaDoor
open Go.ChangeShapes Go.WideShapes Go.ChangeAt Go.RowKit

set_option maxRecDepth 20000 in
set_option maxHeartbeats 4000000 in
theorem answer_seek (i : Int) (x : ByteArray) (w : World) (ws bd : Nat) (va : Value) (E : List En) (a : Option Addr) (c : Nat) (h : Dct w ws bd va E) (hE : EsAt w a E) (hr : Rises E) (hn : E.length ≤ 1073741824) :
    Calls Tryd.prog 10 #[.pointer (some ⟨bd, 0, none⟩), .slice a E.length c, .agg #[.int .i64 3, .int .i64 i, .string x]] w fun e w' => e = .returned (.bool true) ∧ Kept (fun _ => False) w w' := by
  have KA := Kept.alloc w (.cells #[.int .i64 3, .int .i64 i, .string x] 38)
  have H5 := hideQ (heap_alloc_new w (.cells #[.int .i64 3, .int .i64 i, .string x] 38))
  have CF : Hid (∀ V, Kept (fun _ => False) w V → Calls Tryd.prog 28 #[.pointer (some ⟨bd, 0, none⟩), .string x] V fun e w' => (∃ r : Nat, e = .returned (.int .i64 r) ∧ Skd E x r) ∧ Kept (fun _ => False) V w') := hideQ (fun V k => seek_any x V ws bd va E (h.kept k) (by omega))
  have CR : Hid (∀ V, Kept (fun _ => False) w V → Calls Tryd.prog 29 #[.slice a E.length c, .string x] V fun e w' => e = .returned (.int .i64 (blw E x E.length : Nat)) ∧ w' = V) := hideQ (fun V k => rseek_any x E a c V (hE.kept k) hn)
  have HS : Hid (∀ r : Nat, Skd E x r → blw E x E.length = r) := hideQ (fun r hd => skd_blw hr hd)
  have HK := hideQ KA
  generalize Skd E x = FN at *
  generalize blw E x E.length = q1 at *
  generalize E.length = n at *
  clear h hE hr KA
  go_enter Tryd.func10, Tryd.ntmps10
  go_wp2_with fail
  refine wp_region_held (S := fun V => V.heap[w.heap.size]? = some (.cells #[.int .i64 3, .int .i64 i, .string x] 38 (0, 0))) (by kernel_rfl) ?_
  change wpAnyH _ _ _ _ _ _ _ _ (World.drew _)
  have hS := (Kept.drew (w.alloc (.cells #[.int .i64 3, .int .i64 i, .string x] 38))).heap H5.out (fun f => f)
  have HK0 := hideQ (HK.out.trans (Kept.drew (w.alloc (.cells #[.int .i64 3, .int .i64 i, .string x] 38))) (fun _ f => f.elim))
  generalize (w.alloc (.cells #[.int .i64 3, .int .i64 i, .string x] 38)).drew = V0 at *
  have CF1 := hideQ (CF.out V0 HK0.out)
  clear CF H5 HK
  refine takeZ (i := 0) (d := 81) (v := .pointer (some ⟨bd, 0, none⟩)) rfl rfl (by kernel_rfl) (by kernel_rfl) (by kernel_rfl) (fun _ _ _ h => h) (Or.inl ⟨by rfl, fun W hW => ?_⟩) hS ?_
  · (go_simp)
  simp only [Act.put, List.setIfInBounds_toArray, List.set_cons_zero, List.set_cons_succ]
  refine takeZ (i := 1) (d := 82) (v := .pointer (some ⟨w.heap.size, 2, none⟩)) rfl rfl (by kernel_rfl) (by kernel_rfl) (by kernel_rfl) (fun _ _ _ h => h) (Or.inl ⟨by rfl, fun W hW => ?_⟩) hS ?_
  · (go_simp)
  simp only [Act.put, List.setIfInBounds_toArray, List.set_cons_zero, List.set_cons_succ]
  refine takeZ (i := 2) (d := 83) (v := .string x) rfl rfl (by kernel_rfl) (by kernel_rfl) (by kernel_rfl) (fun _ _ _ h => h) (Or.inl ⟨by rfl, fun W hW => ?_⟩) hS ?_
  · (have q := (ask_cells hW).2.2; go_simp)
  simp only [Act.put, List.setIfInBounds_toArray, List.set_cons_zero, List.set_cons_succ]
  refine takeZ (i := 4) (d := 85) (v := .slice a n c) rfl rfl (by kernel_rfl) (by kernel_rfl) (by kernel_rfl) (fun _ _ _ h => h) (Or.inl ⟨by rfl, fun W hW => ?_⟩) hS ?_
  · (go_simp)
  simp only [Act.put, List.setIfInBounds_toArray, List.set_cons_zero, List.set_cons_succ]
  refine takeZ (i := 5) (d := 86) (v := .pointer (some ⟨w.heap.size, 2, none⟩)) rfl rfl (by kernel_rfl) (by kernel_rfl) (by kernel_rfl) (fun _ _ _ h => h) (Or.inl ⟨by rfl, fun W hW => ?_⟩) hS ?_
  · (go_simp)
  simp only [Act.put, List.setIfInBounds_toArray, List.set_cons_zero, List.set_cons_succ]
  refine takeZ (i := 6) (d := 87) (v := .string x) rfl rfl (by kernel_rfl) (by kernel_rfl) (by kernel_rfl) (fun _ _ _ h => h) (Or.inl ⟨by rfl, fun W hW => ?_⟩) hS ?_
  · (have q := (ask_cells hW).2.2; go_simp)
  simp only [Act.put, List.setIfInBounds_toArray, List.set_cons_zero, List.set_cons_succ]
  refine wpAnyH_all (rs := [3]) (by kernel_rfl) (by simp) ?_
  intro i' hi'
  obtain rfl : i' = 3 := by simpa using hi'
  unfold wpOp
  go_simp
  first | refine CF1.out.mono ?_ | refine Or.inl (CF1.out.mono ?_)
  clear CF1
  rintro e V1 ⟨⟨r, rfl, hf⟩, K1⟩
  have hS1 := K1.heap hS (fun f => f)
  refine ⟨hS1, ?_⟩
  have hk1 := HK0.out.trans K1 (fun _ f => f.elim)
  have CR1 := hideQ (CR.out V1 hk1)
  rw [HS.out r hf] at CR1
  have HK1 := hideQ hk1
  clear CR HS hf K1 hk1 HK0 hS
  refine wpAnyH_all (rs := [7]) (by kernel_rfl) (by simp) ?_
  intro i' hi'
  obtain rfl : i' = 7 := by simpa using hi'
  unfold wpOp
  go_simp
  first | refine CR1.out.mono ?_ | refine Or.inl (CR1.out.mono ?_)
  clear CR1
  rintro e V2 ⟨rfl, h2⟩
  obtain rfl : V1 = V2 := h2.symm
  refine ⟨hS1, ?_⟩
  refine takeZ (i := 8) (d := 89) (v := .bool true) rfl rfl (by kernel_rfl) (by kernel_rfl) (by kernel_rfl) (fun _ _ _ h => h) (Or.inl ⟨by rfl, fun W hW => ?_⟩) hS1 ?_
  · (go_simp; first | done | simp)
  simp only [Act.put, List.setIfInBounds_toArray, List.set_cons_zero, List.set_cons_succ]
  refine takeZ (i := 9) (d := 6) (v := .bool true) rfl rfl (by kernel_rfl) (by kernel_rfl) (by kernel_rfl) (fun _ _ _ h => h) (Or.inl ⟨by rfl, fun W hW => ?_⟩) hS1 ?_
  · (go_simp)
  simp only [Act.put, List.setIfInBounds_toArray, List.set_cons_zero, List.set_cons_succ]
  refine wpAnyH_done (by kernel_rfl) ?_ _
  go_wp2
  go_ret
  exact ⟨rfl, HK1.out⟩
set_option maxRecDepth 20000 in
set_option maxHeartbeats 4000000 in
theorem atD_out (i : Int) (w : World) (ws bd : Nat) (va : Value) (E : List En) (h : Dct w ws bd va E) (hi : i < 0 ∨ (E.length : Int) ≤ i) : Calls Tryd.prog 26 #[.pointer (some ⟨bd, 0, none⟩), .int .i64 i] w fun e w' => e = .returned (.tuple #[.agg #[.string ⟨#[]⟩, .int .i64 0, .int .i64 0, .int .i64 0, .int .i64 0], .bool false]) ∧ Kept (fun _ => False) w w' := by
  have K1 := Kept.alloc w (.cells #[.string ⟨#[]⟩, .int .i64 0, .int .i64 0, .int .i64 0, .int .i64 0] 62)
  have hc := (h.kept K1).cell
  obtain ⟨a, c, rfl⟩ := h.shape
  have hX := enO_new w ⟨#[]⟩ 0 0 0 0
  obtain ⟨⟨z0, z1, z2, z3, z4⟩, gz⟩ := enO_cells hX
  have g0 := gz 0
  have g1 := gz 1
  have g2 := gz 2
  have g3 := gz 3
  have g4 := gz 4
  clear gz
  have HKf := hideQ K1
  clear h K1 hX
  generalize E.length = n at *
  by_cases h0 : i < 0
  · have d0 : decide (i < 0) = true := decide_eq_true h0
    clear hi
    go_enter Tryd.func26, Tryd.ntmps26
    go_wp2
    refine bodyPost_ret (v := .tuple #[.agg #[.string ⟨#[]⟩, .int .i64 0, .int .i64 0, .int .i64 0, .int .i64 0], .bool false]) (by simp [results, Tryd.results26, go_sem, z0, z1, z2, z3, z4]) rfl ⟨rfl, HKf.out⟩
  · have hi2 : (n : Int) ≤ i := by omega
    have d0 : decide (i < 0) = false := decide_eq_false h0
    have d1 : decide ((n : Int) ≤ i) = true := decide_eq_true hi2
    clear hi
    go_enter Tryd.func26, Tryd.ntmps26
    go_wp2
    refine bodyPost_ret (v := .tuple #[.agg #[.string ⟨#[]⟩, .int .i64 0, .int .i64 0, .int .i64 0, .int .i64 0], .bool false]) (by simp [results, Tryd.results26, go_sem, z0, z1, z2, z3, z4]) rfl ⟨rfl, HKf.out⟩
end Go.Proofs.YteeimpjjmdpbgaaDoor
