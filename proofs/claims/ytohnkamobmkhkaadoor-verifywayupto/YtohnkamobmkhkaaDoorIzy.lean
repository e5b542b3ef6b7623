import Derived.Test.YtohnkamobmkhkaaDoorIzt
import Derived.Test.YtohnkamobmkhkaaDoorIzf
namespace Go.Proofs.YtohnkamobmkhkaaDoor
open Go.ChangeShapes Go.WideShapes Go.ChangeAt Go.RowKit

/-- What the document's operands answers. -/
def opP (w : World) (n : Nat) (p q : Int) (ok : Bool) (e : Ending) (w' : World) : Prop :=
  (ok = true → ∃ g, w.heap.size ≤ g ∧ e = .returned (.tuple #[.slice (some ⟨g, 0, none⟩) n 2, .bool true]) ∧ w'.cell? ⟨g, 0, none⟩ = some (.int .u64 p) ∧ w'.cell? ⟨g, 1, none⟩ = some (.int .u64 q)) ∧
  (ok = false → e = .returned (.tuple #[.slice none 0 0, .bool false])) ∧ Kept (fun _ => False) w w'
theorem new2 (W : World) (p q : Int) (t : TypeId) : (W.alloc (.cells #[.int .u64 p, .int .u64 q] t)).cell? ⟨W.heap.size, 0, none⟩ = some (.int .u64 p) ∧ (W.alloc (.cells #[.int .u64 p, .int .u64 q] t)).cell? ⟨W.heap.size, 1, none⟩ = some (.int .u64 q) := by
  constructor <;> rw [World.cell?_alloc_new] <;> rfl
set_option maxRecDepth 20000 in
set_option maxHeartbeats 8000000 in
theorem roperands_any (x : In) (w : World) :
    Calls Tryd.prog 56 #[inV x] w (opP w (arN x.op) x.a x.b (okI x)) := by
  obtain ⟨op, a, b⟩ := x
  unfold inV
  simp only
  have KA := Kept.alloc w (.cells #[.int .i64 op, .int .u64 a, .int .u64 b] 56)
  have HBX : Hid ((w.alloc (.cells #[.int .i64 op, .int .u64 a, .int .u64 b] 56)).heap[w.heap.size]? = some (.cells #[.int .i64 op, .int .u64 a, .int .u64 b] 56 (0, 0))) := hideI (heap_alloc_new w _)
  have HA := hideI (rargs_any op (w.alloc (.cells #[.int .i64 op, .int .u64 a, .int .u64 b] 56)))
  have HK := hideI KA
  clear KA
  cases hO : isO op with
  | false =>
    rw [arV_out hO] at HA
    have hk : okI ⟨op, a, b⟩ = false := by simp [okI, hO]
    rw [hk]
    clear hO hk
    go_enter Tryd.func56, Tryd.ntmps56
    go_wp2_with (go_at_call 47; refine HA.out.mono ?_; clear HA; rintro e W ⟨rfl, K1⟩; have HK1 := hideI (HK.out.trans K1 (fun _ f => f.elim)); clear K1)
    go_ret2
    exact ⟨fun h => (by cases h), fun _ => rfl, HK1.out⟩
  | true =>
    rw [arV_in hO] at HA
    have hk : okI ⟨op, a, b⟩ = ((decide (1 ≤ arN op) || decide (a = 0)) && (decide (2 ≤ arN op) || decide (b = 0))) := by simp [okI, hO]
    rw [hk]
    have hn := arN_le op
    have hp : ((a : Int) == 0) = decide (a = 0) := by
      rw [Bool.eq_iff_iff, beq_iff_eq, decide_eq_true_iff]; omega
    have hq : ((b : Int) == 0) = decide (b = 0) := by
      rw [Bool.eq_iff_iff, beq_iff_eq, decide_eq_true_iff]; omega
    have hp2 : ((a : Int) != 0) = !decide (a = 0) := by rw [← hp]; rfl
    have hq2 : ((b : Int) != 0) = !decide (b = 0) := by rw [← hq]; rfl
    generalize decide (a = 0) = da at *
    generalize decide (b = 0) = db at *
    generalize (a : Int) = p at *
    generalize (b : Int) = q at *
    generalize arN op = n at *
    clear hO hk
    obtain rfl | rfl | rfl : n = 0 ∨ n = 1 ∨ n = 2 := by omega
    · rw [show ((0 : Nat) : Int) = 0 from rfl] at HA
      clear hn
      cases da <;> cases db
      all_goals go_enter Tryd.func56, Tryd.ntmps56
      all_goals go_wp2_with (go_at_call 47; refine HA.out.mono ?_; clear HA; rintro e W ⟨rfl, K1⟩; have HK1 := hideI (HK.out.trans K1 (fun _ f => f.elim)); obtain ⟨y0, y1, y2, -⟩ := cell_row3 (K1.heap HBX.out (fun f => f)); clear K1)
      all_goals go_ret2
      all_goals first
        | exact ⟨fun h => (by cases h), fun _ => rfl, HK1.out⟩
        | exact ⟨fun _ => ⟨W.heap.size, HK1.out.size, rfl, (new2 W p q _).1, (new2 W p q _).2⟩, fun h => (by cases h), HK1.out.trans (Kept.alloc _ _) (fun _ f => f.elim)⟩
    · rw [show ((1 : Nat) : Int) = 1 from rfl] at HA
      clear hn
      cases da <;> cases db
      all_goals go_enter Tryd.func56, Tryd.ntmps56
      all_goals go_wp2_with (go_at_call 47; refine HA.out.mono ?_; clear HA; rintro e W ⟨rfl, K1⟩; have HK1 := hideI (HK.out.trans K1 (fun _ f => f.elim)); obtain ⟨y0, y1, y2, -⟩ := cell_row3 (K1.heap HBX.out (fun f => f)); clear K1)
      all_goals go_ret2
      all_goals first
        | exact ⟨fun h => (by cases h), fun _ => rfl, HK1.out⟩
        | exact ⟨fun _ => ⟨W.heap.size, HK1.out.size, rfl, (new2 W p q _).1, (new2 W p q _).2⟩, fun h => (by cases h), HK1.out.trans (Kept.alloc _ _) (fun _ f => f.elim)⟩
    · rw [show ((2 : Nat) : Int) = 2 from rfl] at HA
      clear hn
      cases da <;> cases db
      all_goals go_enter Tryd.func56, Tryd.ntmps56
      all_goals go_wp2_with (go_at_call 47; refine HA.out.mono ?_; clear HA; rintro e W ⟨rfl, K1⟩; have HK1 := hideI (HK.out.trans K1 (fun _ f => f.elim)); obtain ⟨y0, y1, y2, -⟩ := cell_row3 (K1.heap HBX.out (fun f => f)); clear K1)
      all_goals go_ret2
      all_goals first
        | exact ⟨fun h => (by cases h), fun _ => rfl, HK1.out⟩
        | exact ⟨fun _ => ⟨W.heap.size, HK1.out.size, rfl, (new2 W p q _).1, (new2 W p q _).2⟩, fun h => (by cases h), HK1.out.trans (Kept.alloc _ _) (fun _ f => f.elim)⟩
end Go.Proofs.YtohnkamobmkhkaaDoor
