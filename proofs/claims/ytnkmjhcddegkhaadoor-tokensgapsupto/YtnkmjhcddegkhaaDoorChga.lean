import Derived.Test.YtnkmjhcddegkhaaDoorChg9
import Derived.Test.YtnkmjhcddegkhaaDoorDcw
import Derived.Test.YtnkmjhcddegkhaaDoorTrw
namespace Go.Proofs.YtnkmjhcddegkhaaDoor
open Go.ChangeShapes Go.WideShapes Go.ChangeAt Go.RowKit

theorem gro_one (w W : World) (T : Tk) (k : Kept (fun _ => False) w W) : Gro w (W.alloc (.cells #[.string T.t, .int .i64 T.v, .int .i64 T.p, .int .i64 T.s, .int .i64 T.e] 29)) 29 5 (.slice (some ⟨W.heap.size, 0, none⟩) 1 1) 1 (tkvs [T]) :=
  ⟨⟨rfl, .inr ⟨W.heap.size, 1, _, rfl, k.size, heap_alloc_new W _, Nat.le_refl _, by unfold maxLen; omega, rfl, rfl⟩⟩, k.trans (Kept.alloc _ _) (fun _ f => f.elim)⟩
def kwL (l : List UInt8) : List Tk := if l.length ≤ 64 then [⟨bq l, 0, 0, 0, (l.length : Int)⟩] else []
def nuL (l : List UInt8) : List Tk := if decB l then [⟨tm (wd (decV l)), 0, 0, 0, (l.length : Int)⟩] else []
set_option maxRecDepth 20000 in
set_option maxHeartbeats 2000000 in
theorem keyword_any (l : List UInt8) (w : World) (hl : l.length ≤ 281474976710000) :
    Calls Tryd.prog 25 #[.string (bq l)] w fun e w' => ∃ a c, e = .returned (.slice a (kwL l).length c) ∧ Gro w w' 29 5 (.slice a (kwL l).length c) (kwL l).length (tkvs (kwL l)) := by
  have CC := fun w => hideV (clone_any l w (by omega))
  have hz : ((bq l).size : Int) = (l.length : Int) := by rw [bq_size]
  by_cases h : l.length ≤ 64
  · have hi : ¬ (64 : Int) < (l.length : Int) := by omega
    have e : kwL l = [⟨bq l, 0, 0, 0, (l.length : Int)⟩] := by unfold kwL; rw [if_pos h]
    rw [e]
    clear e h
    generalize bq l = s at *
    go_enter Tryd.func25, Tryd.ntmps25
    go_wp2_with (go_at_call 15; refine (CC _).out.mono ?_; rintro e W ⟨rfl, K⟩)
    go_ret
    exact ⟨_, _, rfl, gro_one w W ⟨s, 0, 0, 0, (l.length : Int)⟩ K⟩
  · have hi : (64 : Int) < (l.length : Int) := by omega
    have e : kwL l = [] := by unfold kwL; rw [if_neg h]
    rw [e]
    clear e h CC
    generalize bq l = s at *
    go_enter Tryd.func25, Tryd.ntmps25
    go_wp2
    go_ret
    exact ⟨_, _, rfl, gro_nil w _ _⟩
/-- The two errors of strconv that ParseNumber may meet. -/
structure Es2 (w : World) : Prop where
  s0 : ∃ ev, w.cell? ⟨1, 0, none⟩ = some ev ∧ ∃ te pe, ev = .iface te pe
  s1 : ∃ ev, w.cell? ⟨2, 0, none⟩ = some ev ∧ ∃ te pe, ev = .iface te pe
theorem Es2.kept {w w' : World} (h : Es2 w) (k : Kept (fun _ => False) w w') : Es2 w' := by
  obtain ⟨⟨e0, h0, i0⟩, ⟨e1, h1, i1⟩⟩ := h
  exact ⟨⟨e0, k.cell h0 (fun f => f), i0⟩, ⟨e1, k.cell h1 (fun f => f), i1⟩⟩
set_option maxRecDepth 20000 in
set_option maxHeartbeats 2000000 in
theorem number_any (l : List UInt8) (w : World) (hl : l.length ≤ 140737488355328) (hE : Es2 w) (hd : -9223372036854775808 ≤ decV l ∧ decV l ≤ 9223372036854775807) :
    Calls Tryd.prog 26 #[.string (bq l)] w fun e w' => ∃ a c, e = .returned (.slice a (nuL l).length c) ∧ Gro w w' 29 5 (.slice a (nuL l).length c) (nuL l).length (tkvs (nuL l)) := by
  obtain ⟨⟨e0, h0, i0⟩, ⟨e1, h1, i1⟩⟩ := hE
  have CP := hideV (parse_any (bq l) w (by rw [bq_size]; exact hl) e0 e1 h0 i0 h1 i1)
  rw [bq_data] at CP
  have CN := fun w => hideV (term_any (decV l) w hd.1 hd.2)
  have hz : ((bq l).size : Int) = (l.length : Int) := by rw [bq_size]
  clear h0 h1 i0 i1
  cases hb : decB l with
  | true =>
    rw [hb] at CP
    have e : nuL l = [⟨tm (wd (decV l)), 0, 0, 0, (l.length : Int)⟩] := by unfold nuL; rw [hb]; rfl
    rw [e]
    clear e hb hd
    generalize tm (wd (decV l)) = t at *
    generalize decV l = v at *
    generalize bq l = s at *
    go_enter Tryd.func26, Tryd.ntmps26
    go_wp2_with (first
      | (go_at_call 42; refine CP.out.mono ?_; clear CP; rintro e W1 ⟨rfl, B1⟩)
      | (go_at_call 43; refine (CN _).out.mono ?_; clear CN; rintro e W2 ⟨rfl, B2⟩))
    go_ret
    exact ⟨_, _, rfl, gro_one w W2 ⟨t, 0, 0, 0, (l.length : Int)⟩ ((Kept.of_below B1).trans (Kept.of_below B2) (fun _ f => f.elim))⟩
  | false =>
    rw [hb] at CP
    have e : nuL l = [] := by unfold nuL; rw [hb]; rfl
    rw [e]
    clear e hb hd CN
    generalize decV l = v at *
    generalize bq l = s at *
    go_enter Tryd.func26, Tryd.ntmps26
    go_wp2_with (go_at_call 42; refine CP.out.mono ?_; clear CP; rintro e W1 ⟨rfl, B1⟩)
    go_ret
    exact ⟨_, _, rfl, (gro_nil w _ _).later (Kept.of_below B1)⟩
end Go.Proofs.YtnkmjhcddegkhaaDoor
