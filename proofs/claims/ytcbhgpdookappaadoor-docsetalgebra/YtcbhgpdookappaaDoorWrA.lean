import Derived.Test.YtcbhgpdookappaaDoorNum2
namespace Go.Proofs.YtcbhgpdookappaaDoor
open Go.ChangeShapes Go.WideShapes Go.ChangeAt Go.RowKit

theorem new_any (w : World) : Calls Tryd.prog 40 #[] w fun e w' => e = .returned (.pointer (some ⟨w.heap.size, 0, none⟩)) ∧ Wr w' w.heap.size (.slice none 0 0) [] ∧ Kept (fun _ => False) w w' := by
  go_enter Tryd.func40, Tryd.ntmps40
  go_wp2
  go_ret
  exact ⟨rfl, ⟨heap_alloc_new w _, World.ownsRow_nil _ _ _ _⟩, Kept.alloc _ _⟩

set_option maxRecDepth 20000 in
set_option maxHeartbeats 1000000 in
theorem wuv_any (bw : Nat) (v : Value) (xs : List Int) (n : Nat) (w : World) (h : Wr w bw v xs) (hn : n < 18446744073709551616) (hr : xs.length + 10 ≤ 140737488355328) :
    Calls Tryd.prog 41 #[.pointer (some ⟨bw, 0, none⟩), .int .u64 n] w fun e w' => e = .returned (.tuple #[]) ∧ ∃ v', Wr w' bw v' (xs ++ uvb n) ∧ WStep w w' bw v v' := by
  obtain ⟨i0, hi, hz0, hz1, hz2⟩ := info_parts Tryd.infoB
  have hul := (ulen_le n (by omega)).2
  have HH : Hid (Wr w bw v xs) := h
  clear h
  go_enter Tryd.func41, Tryd.ntmps41
  go_wp2
  go_loopw [1] (fun x wr => ∃ (m : Nat) (pre : List Int) (v1 : Value), m < 18446744073709551616 ∧ x = .int .u64 m ∧ uvb n = pre ++ uvb m ∧ Wr wr bw v1 (xs ++ pre) ∧ WStep w wr bw v v1)
    (fun x _ => (intOf x).toNat)
  case atStart => exact ⟨n, [], v, hn, rfl, rfl, by rw [List.append_nil]; exact HH.out, WStep.refl _ _ _⟩
  case round =>
    obtain ⟨m, pre, v1, hm, rfl, hpre, hW, hS⟩ := hrel
    have hlen : pre.length + (uvb m).length = ulen n := by rw [← uvb_length, hpre, List.length_append]
    have hp1 : 1 ≤ (uvb m).length := by rw [uvb_length]; exact (ulen_le m (by omega)).1
    have hl2 : (xs ++ pre).length = xs.length + pre.length := List.length_append
    have hP : Hid (uvb n = pre ++ uvb m) := hpre
    have HS : Hid (WStep w wr bw v v1) := hS
    have HW : Hid (Wr wr bw v1 (xs ++ pre)) := hW
    have hc := hW.cell
    have hown := hW.own
    clear hpre hS hW HH
    have hrm : (xs ++ pre).length + 1 ≤ 140737488355328 := by omega
    clear hlen hp1 hl2 hul hr
    obtain ⟨ys, hys⟩ : ∃ ys, ys = xs ++ pre := ⟨_, rfl⟩
    rw [← hys] at hown hrm HW
    have HY : Hid (ys = xs ++ pre) := hys
    clear hys
    by_cases hlt : m < 128
    · go_wp2_with (at_builtin; refine wpList_append_lies _ rfl _ _ 22 rfl 0 5 i0 (.int .u8 0) 1 1 Tryd.underlying22 hi hz0 hz1 hz2 rfl (by decide) _ _ _ rfl (hown.alloc _) ⟨wr.heap.size, 0, none⟩ 1 1 (bs [(m : Int)]) rfl rfl ?d1 ?d2 ?d3 ?d4 ?d5 ?d6 _ rfl ?_)
      case d1 => exact one_new _ _ _
      case d2 => exact bs_one _
      case d3 => decide
      case d4 => unfold maxLen; omega
      case d5 => omega
      case d6 => omega
      · intro g cap w1 hown1 hgrow hat _
        obtain ⟨q1, q2, q3, q4⟩ := wr_grown (news := [(m : Int)]) HW.out (Kept.alloc _ _) hown1 hgrow (hat.imp id (fun e => by omega))
        clear hown1 hgrow hat hown
        have Q3 : Hid _ := q3
        have Q4 : Hid _ := q4
        clear q3 q4
        go_wp2
        go_end0
        refine ⟨rfl, _, ?_, HS.out.trans Q4.out⟩
        rw [hP.out, uvb_small hlt, ← List.append_assoc, ← HY.out]
        exact Q3.out
    · have hge : (128 : Int) ≤ m := by omega
      have ho : bits .or .u8 ((m : Int) % 256) 128 = 128 + (m : Int) % 128 := by have := or128 m; rwa [show ((m % 256 : Nat) : Int) = (m : Int) % 256 by omega] at this
      go_wp2_with (at_builtin; refine wpList_append_lies _ rfl _ _ 22 rfl 0 5 i0 (.int .u8 0) 1 1 Tryd.underlying22 hi hz0 hz1 hz2 rfl (by decide) _ _ _ rfl (hown.alloc _) ⟨wr.heap.size, 0, none⟩ 1 1 (bs [128 + (m : Int) % 128]) rfl rfl ?c1 ?c2 ?c3 ?c4 ?c5 ?c6 _ rfl ?_)
      case c1 => exact one_new _ _ _
      case c2 => exact bs_one _
      case c3 => decide
      case c4 => unfold maxLen; omega
      case c5 => omega
      case c6 => omega
      · intro g cap w1 hown1 hgrow hat _
        obtain ⟨q1, q2, q3, q4⟩ := wr_grown (news := [128 + (m : Int) % 128]) HW.out (Kept.alloc _ _) hown1 hgrow (hat.imp id (fun e => by omega))
        clear hown1 hgrow hat hown ho
        have Q3 : Hid _ := q3
        have Q4 : Hid _ := q4
        clear q3 q4
        go_wp2
        go_roundw
        case rel =>
          refine ⟨m / 128, pre ++ [128 + (m : Int) % 128], _, by omega, by go_num, ?_, ?_, HS.out.trans Q4.out⟩
          · rw [hP.out, uvb_big hlt, List.append_assoc]; rfl
          · rw [← List.append_assoc, ← HY.out]; exact Q3.out
        case measure => simp [intOf]; omega
end Go.Proofs.YtcbhgpdookappaaDoor
