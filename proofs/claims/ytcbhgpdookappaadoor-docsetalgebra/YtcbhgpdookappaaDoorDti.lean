import Derived.Test.YtcbhgpdookappaaDoorDth
import Derived.Test.YtcbhgpdookappaaDoorDtg
import Derived.BigRegion
import Derived.Laws.MakeOwn
namespace Go.Proofs.YtcbhgpdookappaaDoor.Ds
open Go.ChangeShapes Go.WideShapes Go.ChangeAt Go.RowKit

theorem Tryd.infoBl : (Tryd.prog.info? 73).map (fun i => (i.zero, i.size, i.bytes)) = some (some (.agg #[.int .u64 0, .int .u64 0, .int .u64 0, .int .u64 0]), 4, 32) := by kernel_rfl
def zeroC (m : Nat) : Array Value := madeCells #[.int .u64 0, .int .u64 0, .int .u64 0, .int .u64 0] m
theorem zeroC_at (m k : Nat) (hk : k < m) : (zeroC m)[k]? = some (.int .u64 ((0 : Nat) : Int)) := by
  unfold zeroC madeCells
  rw [Array.getElem?_map, Array.getElem?_range]
  simp only [hk, if_true, Option.map_some]
  have h4 : k % 4 < 4 := Nat.mod_lt _ (by decide)
  congr 1
  show (#[Value.int .u64 0, .int .u64 0, .int .u64 0, .int .u64 0] : Array Value)[k % 4]! = _
  match k % 4, h4 with
  | 0, _ => rfl
  | 1, _ => rfl
  | 2, _ => rfl
  | 3, _ => rfl
theorem makeBl (nb : Nat) (hn : nb ≤ 1048576) (W : World) : (Instr.makeSlice 69 (.int .i64 nb) (.int .i64 nb)).run Tryd.prog W = .ok (.slice (some ⟨W.heap.size, 0, none⟩) nb nb) (W.alloc (.cells (zeroC (nb * 4)) 73)) := by
  obtain ⟨i0, hi, hz0, hz1, hz2⟩ := info_parts Tryd.infoBl
  have q := run_make (P := Tryd.prog) W 69 73 i0 _ Tryd.underlying69 hi hz0 .i64 .i64 (nb : Int) (nb : Int) (by omega) (by omega) (by rw [hz2]; omega) (by omega)
  rw [Int.toNat_natCast, hz1] at q
  exact q
theorem rowAt_zero (W : World) (nb : Nat) : RowAt (W.alloc (.cells (zeroC (nb * 4)) 73)) W.heap.size nb (fun _ => 0) :=
  ⟨_, heap_alloc_new W _, fun k hk => zeroC_at _ k (by omega)⟩
theorem mem_zero (i : Nat) : mem (fun _ => 0) i = false := by simp [mem]
set_option maxRecDepth 20000 in
set_option maxHeartbeats 1000000 in
theorem empty_any (n : Nat) (hn : n ≤ 1048576) (w : World) :
    Calls Tryd.prog 36 #[.int .i64 n] w fun e w' => e = .returned (.pointer (some ⟨w.heap.size + 1, 0, none⟩)) ∧ SetAt w' (w.heap.size + 1) w.heap.size n (nbOf n) (fun _ => 0) ∧ Kept (fun _ => False) w w' := by
  have q := makeBl (nbOf n) (by unfold nbOf; omega) w
  have hd : ((n : Int) + 256 - 1) / 256 = (nbOf n : Nat) := by unfold nbOf; omega
  rw [← hd] at q
  have hnb : 0 ≤ ((n : Int) + 256 - 1) / 256 := by omega
  have RZ := hideD (rowAt_zero w (nbOf n))
  have HD := hideD hd
  clear hd
  go_enter Tryd.func36, Tryd.ntmps36
  go_wp2
  go_ret
  have k1 : Kept (fun _ => False) (w.alloc (.cells (zeroC (nbOf n * 4)) 73)) ((w.alloc (.cells (zeroC (nbOf n * 4)) 73)).alloc (.cells #[.int .i64 n, .slice (some ⟨w.heap.size, 0, none⟩) (nbOf n) (nbOf n)] 71)) := Kept.alloc _ _
  refine ⟨rfl, ⟨?_, RZ.out.kept k1 (fun f => f), fun _ => (show 0 < 18446744073709551616 by decide), hn, Nat.le_refl _, fun i hi => ?_⟩, (Kept.alloc _ _).trans k1 (fun _ f => f.elim)⟩
  · have := heap_alloc_new (w.alloc (.cells (zeroC (nbOf n * 4)) 73)) (.cells #[.int .i64 n, .slice (some ⟨w.heap.size, 0, none⟩) (nbOf n) (nbOf n)] 71)
    rw [World.size_alloc] at this
    exact this
  · rw [mem_zero] at hi; cases hi
set_option maxRecDepth 20000 in
set_option maxHeartbeats 1000000 in
theorem new_in (n : Nat) (hn : n ≤ 1048576) (w : World) :
    Calls Tryd.prog 29 #[.int .i64 n] w fun e w' => e = .returned (.tuple #[.pointer (some ⟨w.heap.size + 1, 0, none⟩), .nilIface]) ∧ SetAt w' (w.heap.size + 1) w.heap.size n (nbOf n) (fun _ => 0) ∧ Kept (fun _ => False) w w' := by
  have EM := hideD (empty_any n hn w)
  go_enter Tryd.func29, Tryd.ntmps29
  go_wp2_with (first | (go_at_call 36; refine EM.out.mono ?_; rintro e W' ⟨rfl, S1, K1⟩))
  go_ret2
  exact ⟨rfl, S1, K1⟩
set_option maxRecDepth 20000 in
set_option maxHeartbeats 1000000 in
theorem new_out (n : Int) (hn : ¬ (0 ≤ n ∧ n ≤ 1048576)) (w : World) {ad : Nat → Addr} (hE : Errs14 w ad) :
    Calls Tryd.prog 29 #[.int .i64 n] w fun e w' => e = .returned (.tuple #[.pointer none, .iface 112 (.pointer (some (ad 7)))]) ∧ Kept (fun _ => False) w w' := by
  have v7 := hE.s7.var
  clear hE
  by_cases h : n < 0
  · clear hn
    go_enter Tryd.func29, Tryd.ntmps29
    go_wp2
    go_region
    go_wp2
    go_ret2
    exact ⟨rfl, Kept.drew _⟩
  · have h2 : 1048576 < n := by omega
    clear hn
    go_enter Tryd.func29, Tryd.ntmps29
    go_wp2
    go_region
    go_wp2
    go_ret2
    exact ⟨rfl, Kept.drew _⟩
end Go.Proofs.YtcbhgpdookappaaDoor.Ds
