import Derived.Test.YtdklkpbadopkaaaDoorIza
import Derived.Test.YtdklkpbadopkaaaDoorIzb
namespace Go.Proofs.YtdklkpbadopkaaaDoor
open Go.ChangeShapes Go.WideShapes Go.ChangeAt Go.RowKit

/-- A text of bytes. -/
def tx (l : List UInt8) : Value := .string ⟨l.toArray⟩
/-- What the table of operations holds. -/
structure OpT (w : World) : Prop where
  nm : ∀ k : Nat, k < 17 → w.cell? ⟨17, k * 2, none⟩ = some (.string ⟨(nmN k).toArray⟩)
  ar : ∀ k : Nat, k < 17 → w.cell? ⟨17, k * 2 + 1, none⟩ = some (.int .i64 (arN k : Nat))
theorem OpT.kept {w w' : World} (h : OpT w) (k : Kept (fun _ => False) w w') : OpT w' :=
  ⟨fun i hi => k.cell (h.nm i hi) (fun f => f), fun i hi => k.cell (h.ar i hi) (fun f => f)⟩
set_option maxRecDepth 20000 in
theorem isOp_any (op : Int) (w : World) :
    Calls Tryd.prog 77 #[.int .i64 op] w fun e w' => e = .returned (.bool (isO op)) ∧ w' = w := by
  unfold isO
  by_cases h0 : 0 ≤ op
  · by_cases h1 : op < 17
    · go_enter Tryd.func77, Tryd.ntmps77
      go_wp2
      go_ret
      exact ⟨by simp [h0, h1], rfl⟩
    · go_enter Tryd.func77, Tryd.ntmps77
      go_wp2
      go_ret
      exact ⟨by simp [h1], rfl⟩
  · go_enter Tryd.func77, Tryd.ntmps77
    go_wp2
    go_ret
    exact ⟨by rw [decide_eq_false (by omega : ¬ 0 ≤ op)]; rfl, rfl⟩
/-- What Args answers. -/
def arV (op : Int) : Value := if isO op then .tuple #[.int .i64 (arN op : Nat), .bool true] else .tuple #[.int .i64 0, .bool false]
theorem arV_in {op : Int} (h : isO op = true) : arV op = .tuple #[.int .i64 (arN op : Nat), .bool true] := by rw [arV, if_pos h]
theorem arV_out {op : Int} (h : isO op = false) : arV op = .tuple #[.int .i64 0, .bool false] := by rw [arV, if_neg (by simp [h])]
set_option maxRecDepth 20000 in
set_option maxHeartbeats 2000000 in
theorem args_any (op : Int) (w : World) (hT : OpT w) :
    Calls Tryd.prog 62 #[.int .i64 op] w fun e w' => e = .returned (arV op) ∧ w' = w := by
  have HC := fun w => hideI (isOp_any op w)
  cases hO : isO op with
  | true =>
    rw [arV_in hO]
    obtain ⟨h0, h1⟩ := isO_iff.1 hO
    obtain ⟨k, rfl⟩ : ∃ k : Nat, op = k := ⟨op.toNat, by omega⟩
    have x1 := hT.ar k (by omega)
    rw [hO] at HC
    have hk : k < 17 := by omega
    generalize arN (k : Int) = n at *
    clear hT hO h0
    go_enter Tryd.func62, Tryd.ntmps62
    go_wp2_with (go_at_call 77; refine (HC _).out.mono ?_; rintro e W ⟨rfl, rfl⟩)
    go_ret2
    exact ⟨rfl, rfl⟩
  | false =>
    rw [arV_out hO]
    rw [hO] at HC
    clear hT hO
    go_enter Tryd.func62, Tryd.ntmps62
    go_wp2_with (go_at_call 77; refine (HC _).out.mono ?_; rintro e W ⟨rfl, rfl⟩)
    go_ret2
    exact ⟨rfl, rfl⟩
/-- What Name answers. -/
def nmV (op : Int) : Value := if isO op then .tuple #[.string ⟨(nmN op).toArray⟩, .bool true] else .tuple #[.string ⟨#[]⟩, .bool false]
theorem nmV_in {op : Int} (h : isO op = true) : nmV op = .tuple #[.string ⟨(nmN op).toArray⟩, .bool true] := by rw [nmV, if_pos h]
theorem nmV_out {op : Int} (h : isO op = false) : nmV op = .tuple #[.string ⟨#[]⟩, .bool false] := by rw [nmV, if_neg (by simp [h])]
/-- An instruction as a value, as cells. -/
def inV (x : In) : Value := .agg #[.int .i64 x.op, .int .u64 x.a, .int .u64 x.b]
set_option maxRecDepth 20000 in
set_option maxHeartbeats 2000000 in
/-- operands: a new row of two, of which as many are told as the operation has. -/
theorem operands_any (op : Int) (x y : Nat) (w : World) (hT : OpT w) (hO : isO op = true) :
    Calls Tryd.prog 46 #[.agg #[.int .i64 op, .int .u64 x, .int .u64 y]] w fun e w' => (∃ g, w.heap.size ≤ g ∧ e = .returned (.slice (some ⟨g, 0, none⟩) (arN op) 2) ∧ w'.cell? ⟨g, 0, none⟩ = some (.int .u64 x) ∧ w'.cell? ⟨g, 1, none⟩ = some (.int .u64 y) ∧ w'.heap[g]? = some (.cells #[.int .u64 x, .int .u64 y] 131 (0, 0))) ∧ Kept (fun _ => False) w w' := by
  obtain ⟨h0, h1⟩ := isO_iff.1 hO
  obtain ⟨k, rfl⟩ : ∃ k : Nat, op = k := ⟨op.toNat, by omega⟩
  have KA := Kept.alloc w (.cells #[.int .i64 k, .int .u64 x, .int .u64 y] 48)
  have KB := KA.trans (Kept.alloc _ (.cells #[.int .u64 x, .int .u64 y] 131)) (fun _ f => f.elim)
  have x1 := (hT.kept KB).ar k (by omega)
  have hk : k < 17 := by omega
  have hn := arN_le (k : Int)
  have HKB := hideI KB
  generalize arN (k : Int) = n at *
  have hsl : ∀ W, (Instr.sliceAt 131 (.pointer (some ⟨w.heap.size + 1, 0, none⟩)) none (some (.int .i64 (n : Int))) none).run Tryd.prog W = .ok (.slice (some ⟨w.heap.size + 1, 0, none⟩) n 2) W := fun W => by
    have hal : Tryd.prog.arrayLen 131 = 2 := by simp [Program.arrayLen, Tryd.underlying131]
    rw [run_sliceAt_array_h W 131 ⟨w.heap.size + 1, 0, none⟩ (by simp [Program.arrayLen, Program.elem, Tryd.underlying131]) .i64 (n : Int) (by omega) (by rw [hal]; omega)]
    go_simp
  clear hT hO h0 KA KB
  go_enter Tryd.func46, Tryd.ntmps46
  go_wp2
  go_ret
  refine ⟨⟨w.heap.size + 1, by omega, rfl, ?_, ?_, ?_⟩, HKB.out⟩
  · rw [show w.heap.size + 1 = (w.alloc (.cells #[.int .i64 (k : Int), .int .u64 (x : Int), .int .u64 (y : Int)] 48)).heap.size from (by simp), World.cell?_alloc_new]
    rfl
  · rw [show w.heap.size + 1 = (w.alloc (.cells #[.int .i64 (k : Int), .int .u64 (x : Int), .int .u64 (y : Int)] 48)).heap.size from (by simp), World.cell?_alloc_new]
    rfl
  · rw [show w.heap.size + 1 = (w.alloc (.cells #[.int .i64 (k : Int), .int .u64 (x : Int), .int .u64 (y : Int)] 48)).heap.size from (by simp)]
    exact heap_alloc_new _ _
theorem OpT.lt {w : World} (h : OpT w) : 17 < w.heap.size := World.block_lt_of_cell? w _ (h.nm 0 (by omega))
theorem OpT.keptF {F : Nat → Prop} {w w' : World} (h : OpT w) (k : Kept F w w') (hF : ¬ F 17) : OpT w' :=
  ⟨fun i hi => k.cell (h.nm i hi) hF, fun i hi => k.cell (h.ar i hi) hF⟩
theorem WStep.far {w w' : World} {bw g : Nat} {v v' : Value} (S : WStep w w' bw v v') (hg : ¬ WF bw v g) (hlt : g < w.heap.size) : ¬ WF bw v' g := by
  intro f
  rcases f with f | f
  · exact hg (.inl f)
  · rcases S.new g f with h | h
    · exact hg (.inr h)
    · omega
set_option maxRecDepth 20000 in
set_option maxHeartbeats 4000000 in
theorem hasBytes_any (x : In) (w : World) (hT : OpT w) :
    Calls Tryd.prog 35 #[inV x] w fun e w' => e = .returned (.bool (okI x)) ∧ Kept (fun _ => False) w w' := by
  obtain ⟨op, a, b⟩ := x
  unfold inV
  simp only
  have KA := Kept.alloc w (.cells #[.int .i64 op, .int .u64 a, .int .u64 b] 48)
  have HA := hideI (args_any op _ (hT.kept KA))
  have HK := hideI KA
  clear KA hT
  cases hO : isO op with
  | false =>
    rw [arV_out hO] at HA
    have hk : okI ⟨op, a, b⟩ = false := by simp [okI, hO]
    rw [hk]
    clear hO hk
    go_enter Tryd.func35, Tryd.ntmps35
    go_wp2_with (go_at_call 62; refine HA.out.mono ?_; rintro e W ⟨rfl, rfl⟩)
    go_ret
    exact ⟨rfl, HK.out⟩
  | true =>
    rw [arV_in hO] at HA
    have hk : okI ⟨op, a, b⟩ = ((decide (1 ≤ arN op) || decide (a = 0)) && (decide (2 ≤ arN op) || decide (b = 0))) := by simp [okI, hO]
    rw [hk]
    have hn := arN_le op
    have hp : ((a : Int) == 0) = decide (a = 0) := by
      rw [Bool.eq_iff_iff, beq_iff_eq, decide_eq_true_iff]; omega
    have hq : ((b : Int) == 0) = decide (b = 0) := by
      rw [Bool.eq_iff_iff, beq_iff_eq, decide_eq_true_iff]; omega
    generalize decide (a = 0) = da at *
    generalize decide (b = 0) = db at *
    generalize (a : Int) = p at *
    generalize (b : Int) = q at *
    generalize arN op = n at *
    clear hO hk
    obtain rfl | rfl | rfl : n = 0 ∨ n = 1 ∨ n = 2 := by omega
    · rw [show ((0 : Nat) : Int) = 0 from rfl] at HA
      clear hn
      cases da <;> cases db
      all_goals go_enter Tryd.func35, Tryd.ntmps35
      all_goals go_wp2_with (go_at_call 62; refine HA.out.mono ?_; rintro e W ⟨rfl, rfl⟩)
      all_goals go_ret
      all_goals exact ⟨rfl, HK.out⟩
    · rw [show ((1 : Nat) : Int) = 1 from rfl] at HA
      clear hn
      cases da <;> cases db
      all_goals go_enter Tryd.func35, Tryd.ntmps35
      all_goals go_wp2_with (go_at_call 62; refine HA.out.mono ?_; rintro e W ⟨rfl, rfl⟩)
      all_goals go_ret
      all_goals exact ⟨rfl, HK.out⟩
    · rw [show ((2 : Nat) : Int) = 2 from rfl] at HA
      clear hn
      cases da <;> cases db
      all_goals go_enter Tryd.func35, Tryd.ntmps35
      all_goals go_wp2_with (go_at_call 62; refine HA.out.mono ?_; rintro e W ⟨rfl, rfl⟩)
      all_goals go_ret
      all_goals exact ⟨rfl, HK.out⟩
end Go.Proofs.YtdklkpbadopkaaaDoor
