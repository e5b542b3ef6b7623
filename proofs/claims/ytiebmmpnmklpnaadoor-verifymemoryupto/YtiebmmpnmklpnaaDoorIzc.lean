import Derived.Test.YtiebmmpnmklpnaaDoorIza
import Derived.Test.YtiebmmpnmklpnaaDoorIzb
namespace Go.Proofs.YtiebmmpnmklpnaaDoor
open Go.ChangeShapes Go.WideShapes Go.ChangeAt Go.RowKit

/-- A text of bytes. -/
def tx (l : List UInt8) : Value := .string ⟨l.toArray⟩
/-- What the table of operations holds. -/
structure OpT (w : World) : Prop where
  nm : ∀ k : Nat, k < 17 → w.cell? ⟨25, k * 2, none⟩ = some (.string ⟨(nmN k).toArray⟩)
  ar : ∀ k : Nat, k < 17 → w.cell? ⟨25, k * 2 + 1, none⟩ = some (.int .i64 (arN k : Nat))
theorem OpT.kept {w w' : World} (h : OpT w) (k : Kept (fun _ => False) w w') : OpT w' :=
  ⟨fun i hi => k.cell (h.nm i hi) (fun f => f), fun i hi => k.cell (h.ar i hi) (fun f => f)⟩
set_option maxRecDepth 20000 in
theorem isOp_any (op : Int) (w : World) :
    Calls Tryd.prog 58 #[.int .i64 op] w fun e w' => e = .returned (.bool (isO op)) ∧ w' = w := by
  unfold isO
  by_cases h0 : 0 ≤ op
  · by_cases h1 : op < 17
    · go_enter Tryd.func58, Tryd.ntmps58
      go_wp2
      go_ret
      exact ⟨by simp [h0, h1], rfl⟩
    · go_enter Tryd.func58, Tryd.ntmps58
      go_wp2
      go_ret
      exact ⟨by simp [h1], rfl⟩
  · go_enter Tryd.func58, Tryd.ntmps58
    go_wp2
    go_ret
    exact ⟨by rw [decide_eq_false (by omega : ¬ 0 ≤ op)]; rfl, rfl⟩
/-- What Args answers. -/
def arV (op : Int) : Value := if isO op then .tuple #[.int .i64 (arN op : Nat), .bool true] else .tuple #[.int .i64 0, .bool false]
theorem arV_in {op : Int} (h : isO op = true) : arV op = .tuple #[.int .i64 (arN op : Nat), .bool true] := by rw [arV, if_pos h]
theorem arV_out {op : Int} (h : isO op = false) : arV op = .tuple #[.int .i64 0, .bool false] := by rw [arV, if_neg (by simp [h])]
set_option maxRecDepth 20000 in
set_option maxHeartbeats 2000000 in
theorem args_any (op : Int) (w : World) (hT : OpT w) :
    Calls Tryd.prog 55 #[.int .i64 op] w fun e w' => e = .returned (arV op) ∧ w' = w := by
  have HC := fun w => hideI (isOp_any op w)
  cases hO : isO op with
  | true =>
    rw [arV_in hO]
    obtain ⟨h0, h1⟩ := isO_iff.1 hO
    obtain ⟨k, rfl⟩ : ∃ k : Nat, op = k := ⟨op.toNat, by omega⟩
    have x1 := hT.ar k (by omega)
    rw [hO] at HC
    have hk : k < 17 := by omega
    generalize arN (k : Int) = n at *
    clear hT hO h0
    go_enter Tryd.func55, Tryd.ntmps55
    go_wp2_with (go_at_call 58; refine (HC _).out.mono ?_; rintro e W ⟨rfl, rfl⟩)
    go_ret2
    exact ⟨rfl, rfl⟩
  | false =>
    rw [arV_out hO]
    rw [hO] at HC
    clear hT hO
    go_enter Tryd.func55, Tryd.ntmps55
    go_wp2_with (go_at_call 58; refine (HC _).out.mono ?_; rintro e W ⟨rfl, rfl⟩)
    go_ret2
    exact ⟨rfl, rfl⟩
/-- What Name answers. -/
def nmV (op : Int) : Value := if isO op then .tuple #[.string ⟨(nmN op).toArray⟩, .bool true] else .tuple #[.string ⟨#[]⟩, .bool false]
theorem nmV_in {op : Int} (h : isO op = true) : nmV op = .tuple #[.string ⟨(nmN op).toArray⟩, .bool true] := by rw [nmV, if_pos h]
theorem nmV_out {op : Int} (h : isO op = false) : nmV op = .tuple #[.string ⟨#[]⟩, .bool false] := by rw [nmV, if_neg (by simp [h])]
/-- An instruction as a value, as cells. -/
def inV (x : In) : Value := .agg #[.int .i64 x.op, .int .u64 x.a, .int .u64 x.b]
theorem OpT.lt {w : World} (h : OpT w) : 25 < w.heap.size := World.block_lt_of_cell? w _ (h.nm 0 (by omega))
theorem OpT.keptF {F : Nat → Prop} {w w' : World} (h : OpT w) (k : Kept F w w') (hF : ¬ F 25) : OpT w' :=
  ⟨fun i hi => k.cell (h.nm i hi) hF, fun i hi => k.cell (h.ar i hi) hF⟩
theorem WStep.far {w w' : World} {bw g : Nat} {v v' : Value} (S : WStep w w' bw v v') (hg : ¬ WF bw v g) (hlt : g < w.heap.size) : ¬ WF bw v' g := by
  intro f
  rcases f with f | f
  · exact hg (.inl f)
  · rcases S.new g f with h | h
    · exact hg (.inr h)
    · omega
end Go.Proofs.YtiebmmpnmklpnaaDoor
