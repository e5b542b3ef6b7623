import Derived.Test.YtjmmdklgkcbihaaDoorKwi
import Derived.Test.YtjmmdklgkcbihaaDoorMrg1
namespace Go.Proofs.YtjmmdklgkcbihaaDoor
open Go.ChangeShapes Go.WideShapes Go.ChangeAt Go.RowKit

/-- An Op that came in, as the law's put wants it. -/
structure OpD.AtK (w : World) (o : OpD) : Prop where
  op : o.At w
  lz : o.la = none → o.lc = 0
  nb : o.B.length ≤ 1048576
  ns : o.s.size ≤ 1048576
  nl : o.L.length ≤ 1048576
theorem OpD.AtK.later {w w' : World} {o : OpD} (h : o.AtK w) (k : Kept (fun _ => False) w w') : o.AtK w' := by
  refine ⟨⟨?_, h.op.n0, h.op.n1⟩, h.lz, h.nb, h.ns, h.nl⟩
  exact h.op.op.kept k (fun _ _ _ f => f) (fun _ _ _ f => f)
/-- What an Op puts. -/
def kout (o : OpD) : List Int :=
  if o.kd = 1 then [o.nn % 256] else if o.kd = 2 then uvb o.U else if o.kd = 3 then uvb (zig o.ii).toNat else if o.kd = 4 then le 4 o.U else if o.kd = 5 then le 8 o.U else if o.kd = 7 then uvb o.s.size ++ sb o.s else if o.kd = 6 then o.B else if o.kd = 8 then rbo o.L else if o.kd = 9 then pbo o.L else []
set_option maxRecDepth 20000 in
set_option maxHeartbeats 4000000 in
/-- The law's put of a kind that putList is asked for. -/
theorem put_restK (kd : Int) (sec : Bool) (nn : Int) (U : Nat) (ii : Int) (bv : Value) (s : ByteArray) (lv : Value) (bw : Nat) (v : Value) (xs X : List Int) (w : World)
    (hk1 : kd ≠ 1) (hk2 : kd ≠ 2) (hk3 : kd ≠ 3) (hk4 : kd ≠ 4) (hk5 : kd ≠ 5) (hk6 : kd ≠ 6) (hk7 : kd ≠ 7)
    (hC : ∀ W, Kept (fun _ => False) w W → Calls Tryd.prog 40 #[.pointer (some ⟨bw, 0, none⟩), .agg #[.int .i64 kd, .bool sec, .int .i64 nn, .int .u64 (U : Int), .int .i64 ii, bv, .string s, lv]] W fun e w' => ∃ va, e = .returned (.tuple #[va, .bool true]) ∧ PutK W w' bw v xs X va) :
    Calls Tryd.prog 11 #[.pointer (some ⟨bw, 0, none⟩), .agg #[.int .i64 kd, .bool sec, .int .i64 nn, .int .u64 (U : Int), .int .i64 ii, bv, .string s, lv]] w fun e w' => ∃ va, e = .returned (.tuple #[va, .bool true]) ∧ PutK w w' bw v xs X va := by
  obtain ⟨W0, hW0⟩ : ∃ W0, W0 = w.alloc (.cells #[.int .i64 kd, .bool sec, .int .i64 nn, .int .u64 (U : Int), .int .i64 ii, bv, .string s, lv] 37) := ⟨_, rfl⟩
  have k0 : Kept (fun _ => False) w W0 := by rw [hW0]; exact Kept.alloc w _
  have hb : W0.heap[w.heap.size]? = some (.cells #[.int .i64 kd, .bool sec, .int .i64 nn, .int .u64 (U : Int), .int .i64 ii, bv, .string s, lv] 37 (0, 0)) := by rw [hW0]; exact heap_alloc_new w _
  have c0 : W0.cell? ⟨w.heap.size, 0, none⟩ = some (.int .i64 kd) := by rw [cell_of_row _ _ _ _ _ _ hb]; rfl
  have c1 : W0.cell? ⟨w.heap.size, 1, none⟩ = some (.bool sec) := by rw [cell_of_row _ _ _ _ _ _ hb]; rfl
  have c2 : W0.cell? ⟨w.heap.size, 2, none⟩ = some (.int .i64 nn) := by rw [cell_of_row _ _ _ _ _ _ hb]; rfl
  have c3 : W0.cell? ⟨w.heap.size, 3, none⟩ = some (.int .u64 (U : Int)) := by rw [cell_of_row _ _ _ _ _ _ hb]; rfl
  have c4 : W0.cell? ⟨w.heap.size, 4, none⟩ = some (.int .i64 ii) := by rw [cell_of_row _ _ _ _ _ _ hb]; rfl
  have c5 : W0.cell? ⟨w.heap.size, 5, none⟩ = some bv := by rw [cell_of_row _ _ _ _ _ _ hb]; rfl
  have c6 : W0.cell? ⟨w.heap.size, 6, none⟩ = some (.string s) := by rw [cell_of_row _ _ _ _ _ _ hb]; rfl
  have c7 : W0.cell? ⟨w.heap.size, 7, none⟩ = some lv := by rw [cell_of_row _ _ _ _ _ _ hb]; rfl
  have CL := hideH (hC W0 k0)
  have HK0 := hideH k0
  have d1 : (kd == 1) = false := by rw [beq_eq_false_iff_ne]; exact hk1
  have d2 : (kd == 2) = false := by rw [beq_eq_false_iff_ne]; exact hk2
  have d3 : (kd == 3) = false := by rw [beq_eq_false_iff_ne]; exact hk3
  have d4 : (kd == 4) = false := by rw [beq_eq_false_iff_ne]; exact hk4
  have d5 : (kd == 5) = false := by rw [beq_eq_false_iff_ne]; exact hk5
  have d6 : (kd == 6) = false := by rw [beq_eq_false_iff_ne]; exact hk6
  have d7 : (kd == 7) = false := by rw [beq_eq_false_iff_ne]; exact hk7
  rw [hW0] at c0 c1 c2 c3 c4 c5 c6 c7
  clear hb k0 hC
  go_enter Tryd.func11, Tryd.ntmps11
  go_wp2_with (go_at_call 40; refine StpH.go ?_)
  rw [← hW0]
  refine ⟨?_⟩
  refine CL.out.mono ?_
  clear CL
  rintro e W1 ⟨va, rfl, hP⟩
  have HP : Hid (PutK w W1 bw v xs X va) := hideH (by
    obtain ⟨⟨v1, hw, st, hf⟩, ow⟩ := hP
    exact PutK.of3 hw ⟨(HK0.out.mono (fun _ f => f.elim)).trans st.kept (fun _ e => .inl e), fun k e => (st.new k e).imp id (fun q => Nat.le_trans HK0.out.size q)⟩ ow HK0.out.size hf)
  clear hP
  go_wp2_with fail
  go_ret2
  exact ⟨_, rfl, HP.out⟩
/-- The law's put of any Op. -/
theorem put_allK (o : OpD) (bw : Nat) (v : Value) (xs : List Int) (ad : Nat → Addr) (w : World) (h : Wr w bw v xs) (hx : xs.length ≤ 70368744177664) (hA : o.AtK w) (hfar : o.B ≠ [] → ∀ a, o.ba = some a → ¬ WF bw v a.block) (hE : ∀ W2, Kept (WF bw v) w W2 → Es8K W2 ad) :
    Calls Tryd.prog 11 #[.pointer (some ⟨bw, 0, none⟩), .agg #[.int .i64 o.kd, .bool o.sec, .int .i64 o.nn, .int .u64 (o.U : Int), .int .i64 o.ii, .slice o.ba o.B.length o.bc, .string o.s, .slice o.la o.L.length o.lc]] w fun e w' => ∃ va, e = .returned (.tuple #[va, .bool true]) ∧ PutK w w' bw v xs (kout o) va := by
  unfold kout
  by_cases q1 : o.kd = 1
  · rw [if_pos q1, q1]
    exact put_1K _ _ _ _ _ _ _ bw v xs w h hx
  rw [if_neg q1]
  by_cases q2 : o.kd = 2
  · rw [if_pos q2, q2]
    exact put_2K _ _ _ _ _ _ _ bw v xs w h hx hA.op.op.u
  rw [if_neg q2]
  by_cases q3 : o.kd = 3
  · rw [if_pos q3, q3]
    exact put_3K _ _ _ _ _ _ _ bw v xs w h hx hA.op.op.i0 hA.op.op.i1
  rw [if_neg q3]
  by_cases q4 : o.kd = 4
  · rw [if_pos q4, q4]
    exact put_4K _ _ _ _ _ _ _ bw v xs w h hx hA.op.op.u
  rw [if_neg q4]
  by_cases q5 : o.kd = 5
  · rw [if_pos q5, q5]
    exact put_5K _ _ _ _ _ _ _ bw v xs w h hx hA.op.op.u
  rw [if_neg q5]
  by_cases q7 : o.kd = 7
  · rw [if_pos q7, q7]
    exact put_7K _ _ _ _ _ _ _ bw v xs w h hx hA.op.op.ns
  rw [if_neg q7]
  by_cases q6 : o.kd = 6
  · rw [if_pos q6, q6]
    exact put_6K _ _ _ _ o.ba o.B.length o.bc o.B _ _ bw v xs w h hx rfl hA.op.op.b hA.op.op.bn hfar hA.nb
  rw [if_neg q6]
  refine put_restK o.kd o.sec o.nn o.U o.ii _ o.s _ bw v xs _ w q1 q2 q3 q4 q5 q6 q7 (fun W k => ?_)
  have hW := h.kept k (fun _ _ f => f)
  have hAW := hA.later k
  have hEW : ∀ W2, Kept (WF bw v) W W2 → Es8K W2 ad := fun W2 k2 => hE W2 ((k.mono (fun _ f => f.elim)).trans k2 (fun _ e => .inl e))
  by_cases q8 : o.kd = 8
  · rw [if_pos q8, q8]
    exact putl_8K _ _ _ _ _ _ o.la o.L.length o.lc o.L bw v xs ad W hW hx rfl hAW.op.op.l hA.lz hA.op.op.li hA.nl hEW
  rw [if_neg q8]
  by_cases q9 : o.kd = 9
  · rw [if_pos q9, q9]
    exact putl_9K _ _ _ _ _ _ o.la o.L.length o.lc o.L bw v xs ad W hW hx rfl hAW.op.op.l hA.lz hA.op.op.li hA.nl hEW
  rw [if_neg q9]
  exact putl_xK _ _ _ _ _ _ o.la o.L.length o.lc o.L bw v xs W hW rfl hAW.op.op.l hA.lz hA.nl o.kd q8 q9
end Go.Proofs.YtjmmdklgkcbihaaDoor
