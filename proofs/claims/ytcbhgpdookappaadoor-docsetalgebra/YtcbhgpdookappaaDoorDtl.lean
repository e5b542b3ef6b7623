import Derived.Test.YtcbhgpdookappaaDoorDtr
import Derived.Test.YtcbhgpdookappaaDoorDth
import Derived.Shelf.Abstract
import Derived.Shelf.RegionOpen
import Derived.WalkKit
import Derived.OwnWalkIn
import Derived.TacticsInMore
import Derived.LoopNIn
import Derived.LoopIn
namespace Go.Proofs.YtcbhgpdookappaaDoor.Ds
open Go.ChangeShapes Go.WideShapes Go.ChangeAt Go.RowKit Go.Shelf
attribute [local go_sem] Oper.semAt_some

theorem mlist_le (ws : Nat → Nat) {a b : Nat} (h : a ≤ b) : mlist ws a <+: mlist ws b := by
  obtain ⟨d, rfl⟩ : ∃ d, b = a + d := ⟨b - a, by omega⟩
  clear h
  induction d with
  | zero => exact List.prefix_refl _
  | succ d ih => rw [← Nat.add_assoc, mlist_succ]; exact ih.trans (List.prefix_append _ _)
def encN (x : Nat) : Array Value := #[.int .i64 (x : Int)]
set_option maxRecDepth 100000 in
set_option maxHeartbeats 4000000 in
/-- A block's iterator: whatever loop goes over it. -/
theorem ball_seq (m : Nat) (hm : 1 ≤ m) (b : Nat → Nat) (hb : BOk b) (bx : Nat) (T : TypeId → Prop) :
    SeqN Fence.wide m Tryd.prog 80 #[.pointer (some ⟨bx, 0, none⟩)] encN (fun A => DbAt A ∧ A.heap[bx]? = some (.cells (bw b) 73 (0, 0))) T (fun pre x => (pre ++ [x]) <+: blist b) (fun xs => xs = blist b) := by
  intro l J Jx W hK hJ hJx hY h0
  obtain ⟨c0, c1, c2, c3⟩ := bw_cells b (hK _ _ h0).2
  have HK := hideD hK
  have HY := hideD hY
  have H0 := hideD h0
  have EB := hideD (show (#[.int .u64 (b 0 : Nat), .int .u64 (b 1 : Nat), .int .u64 (b 2 : Nat), .int .u64 (b 3 : Nat)] : Array Value) = bw b from rfl)
  have HB := hideD hb
  clear hK hJ hJx hY h0 hb
  refine callsIn_of_wp Tryd.func80 rfl trivial ?_ rfl
  simp only [Tryd.ntmps80, List.size_toArray, List.length_cons, List.length_nil, Nat.reduceAdd, Nat.reduceSub, Array.replicate_succ, Array.replicate_zero, List.push_toArray, List.append_toArray, List.nil_append, List.cons_append]
  gi_wp2
  clear c0 c1 c2 c3 EB
  gi_loopw [6] (fun i wr => ∃ (k : Nat) (pre : List Nat), k ≤ 4 ∧ i = .int .i64 k ∧ Hid (pre = mlist b k) ∧ Hid (J pre wr) ∧ Hid (Above W.heap.size T W wr)) (fun i _ => 4 - (intOf i).toNat)
  case atStart => exact ⟨0, [], by omega, rfl, hideD (mlist_zero b).symm, H0, hideD (Above.of_kept (Kept.refl (fun _ => False) W) (fun _ f => f.elim))⟩
  case round =>
    obtain ⟨k, pre, hk, rfl, HP, HJ, HA⟩ := hrel
    by_cases hlt : k < 4
    · have hidx : (Instr.index 73 (.agg #[.int .u64 (b 0 : Nat), .int .u64 (b 1 : Nat), .int .u64 (b 2 : Nat), .int .u64 (b 3 : Nat)]) (.int .i64 k)).run Tryd.prog wr = .ok (.int .u64 (b k : Nat)) wr := bidx b k hlt wr
      have HIX := hideD (show (Instr.index 73 (.agg (bw b)) (.int .i64 k)).run Tryd.prog wr = .ok (.int .u64 (b k : Nat)) wr from bidx b k hlt wr)
      have hx := HB.out k
      obtain ⟨x, hX⟩ : ∃ x, x = b k := ⟨_, rfl⟩
      have HX := hideD hX
      rw [← hX] at hidx hx
      clear hX
      gi_wp2
      clear hidx HIX
      have hdk : decide ((k : Int) < 4) = true := by simp; omega
      rw [hdk]
      clear hdk
      have HM := hideD (show mlist b k ++ (bl x).map (fun i => 64 * k + i) = mlist b (k + 1) from by rw [HX.out, ← mlist_succ])
      have HB2 := HX
      clear HX
      gi_loopw [4] (fun xv wr => ∃ (y : Nat) (pre : List Nat), y < 18446744073709551616 ∧ xv = .int .u64 y ∧ Hid (pre ++ (bl y).map (fun i => 64 * k + i) = mlist b (k + 1)) ∧ Hid (J pre wr) ∧ Hid (Above W.heap.size T W wr)) (fun xv _ => pcn 64 (intOf xv).toNat)
      case atStart => exact ⟨x, pre, hx, rfl, hideD (by rw [HP.out]; exact HM.out), HJ, HA⟩
      case round =>
        clear HP HJ HA HM HB2 hx
        obtain ⟨y, pre', hy, rfl, HM, HJ, HA⟩ := hrel
        by_cases hz : y = 0
        · subst hz
          have HE := hideD (show pre' = mlist b (k + 1) from by rw [← HM.out, bl_zero]; simp)
          clear HM
          gi_wp2
          go_roundw
          case rel => exact ⟨k + 1, pre', by omega, by go_num, HE, HJ, HA⟩
          case measure => simp [intOf]; omega
        · obtain ⟨j, q, e⟩ := low_form y hz
          have hj := low_lt e hy
          have TZ := hideD (trail_any y j q e hy wr (HK.out _ _ HJ.out).1)
          have hoff := off_lt hy
          have e1 : IntKind.u64.wrap ((y : Int) - 1) = ((y - 1 : Nat) : Int) := by rw [IntKind.wrap_u64]; omega
          have e2 : bits .and .u64 (y : Int) ((y - 1 : Nat) : Int) = ((y &&& (y - 1) : Nat) : Int) := and_u64 y (y - 1) hy (by omega)
          have hyz : ((y : Int) != 0) = true := by simp; omega
          have hbl := bl_cons e hy
          have HN := hideD (show pre' ++ [64 * k + j] ++ (bl (y &&& (y - 1))).map (fun i => 64 * k + i) = mlist b (k + 1) from by rw [← HM.out, hbl]; simp)
          have hmes : pcn 64 (y &&& (y - 1)) < pcn 64 y := by rw [← bl_count, ← bl_count, hbl]; simp
          have HMS := hideD hmes
          have YY := hideD (HY.out pre' (64 * k + j) wr ((show (pre' ++ [64 * k + j]) <+: mlist b (k + 1) from ⟨_, HN.out⟩).trans (mlist_le b (show k + 1 ≤ 4 by omega))) HJ.out HA.out.size)
          obtain ⟨fn, tmps, assign, body', hy2, hR⟩ := YY.out
          have ev : encN (64 * k + j) = #[.int .i64 ((k : Int) * 64 + (j : Int))] := by unfold encN; rw [show ((64 * k + j : Nat) : Int) = (k : Int) * 64 + (j : Int) by omega]
          rw [ev] at hy2
          obtain ⟨z, hzz⟩ : ∃ z, z = y &&& (y - 1) := ⟨_, rfl⟩
          rw [← hzz] at e2 HN HMS hoff
          obtain ⟨y1, hy1⟩ : ∃ y1, y1 = y - 1 := ⟨_, rfl⟩
          rw [← hy1] at e1 e2
          have HZ := hideD hz
          clear e hbl hmes ev hzz hy1 hz YY HM
          gi_wp2_with (refine ⟨trivial, ?_⟩; gi_at_call 81; refine (callsIn_wide.2 TZ.out).mono ?_; rintro e W4 ⟨rfl, rfl⟩)
          refine hR.mono ?_
          rintro e W5 ⟨AB, (⟨rfl, J5⟩ | ⟨rfl, X5⟩)⟩
          · have HJ5 := hideD J5
            have HA5 := hideD (HA.out.trans AB)
            clear J5 AB hR hy2 TZ HJ HA
            gi_wp2
            go_roundw
            case rel => exact ⟨z, pre' ++ [64 * k + j], hoff, rfl, HN, HJ5, HA5⟩
            case measure => have := HMS.out; simpa [intOf] using this
          · have HX5 := hideD X5
            have HA5 := hideD (HA.out.trans AB)
            clear X5 AB hR hy2 TZ HJ HA
            gi_wp2
            refine bodyPost_ret (results_none rfl _ _ _) rfl ?_
            exact ⟨⟨_, rfl⟩, HA5.out, .inr ⟨_, HX5.out⟩⟩
    · obtain rfl : k = 4 := by omega
      clear hlt hk
      gi_wp2
      go_end0
      exact ⟨⟨_, rfl⟩, HA.out, .inl ⟨_, HP.out, HJ.out⟩⟩
end Go.Proofs.YtcbhgpdookappaaDoor.Ds
