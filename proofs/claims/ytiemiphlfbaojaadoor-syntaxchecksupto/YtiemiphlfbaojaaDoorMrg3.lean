import Derived.Test.YtiemiphlfbaojaaDoorMrg2
import Derived.Test.YtiemiphlfbaojaaDoorLyd
import Derived.Deep.Upon
namespace Go.Proofs.YtiemiphlfbaojaaDoor
open Go.ChangeShapes Go.WideShapes Go.ChangeAt Go.RowKit
variable {w : World}

/-! The document's rows of tokens: its functions. -/
def lxC (y : Tn) : Array Value := #[.int .i64 y.k, .string y.t, .int .i64 y.n, .int .i64 y.a, .int .i64 y.e]
theorem boxes3 (w : World) (x y z : Array Value) (t u v : TypeId) : Kept (fun _ => False) w (((w.alloc (.cells x t)).alloc (.cells y u)).alloc (.cells z v)) ∧ (((w.alloc (.cells x t)).alloc (.cells y u)).alloc (.cells z v)).heap[w.heap.size]? = some (.cells x t (0, 0)) ∧ (((w.alloc (.cells x t)).alloc (.cells y u)).alloc (.cells z v)).heap[w.heap.size + 1]? = some (.cells y u (0, 0)) ∧ (((w.alloc (.cells x t)).alloc (.cells y u)).alloc (.cells z v)).heap[w.heap.size + 2]? = some (.cells z v (0, 0)) ∧ (((w.alloc (.cells x t)).alloc (.cells y u)).alloc (.cells z v)).heap.size = w.heap.size + 3 := by
  have KA := Kept.alloc w (.cells x t)
  have KB := Kept.alloc (w.alloc (.cells x t)) (.cells y u)
  have KC := Kept.alloc ((w.alloc (.cells x t)).alloc (.cells y u)) (.cells z v)
  have s1 : (w.alloc (.cells x t)).heap.size = w.heap.size + 1 := by simp
  have s2 : ((w.alloc (.cells x t)).alloc (.cells y u)).heap.size = w.heap.size + 2 := by simp
  refine ⟨(KA.trans KB (fun _ f => f.elim)).trans KC (fun _ f => f.elim), ?_, ?_, ?_, by simp⟩
  · exact (KB.trans KC (fun _ f => f.elim)).heap (heap_alloc_new w _) (fun f => f)
  · have := KC.heap (heap_alloc_new (w.alloc (.cells x t)) (.cells y u)) (fun f => f)
    rw [s1] at this
    exact this
  · have := heap_alloc_new ((w.alloc (.cells x t)).alloc (.cells y u)) (.cells z v)
    rw [s2] at this
    exact this
theorem load_row3 {W : World} {g : Nat} {x0 x1 x2 : Value} (h : W.heap[g]? = some (.cells #[x0, x1, x2] 57 (0, 0))) : (loadVar 57 ⟨g, 0, none⟩).run Tryd.prog W = .ok (.agg #[x0, x1, x2]) W :=
  run_loadVar_row W g 57 57 #[x0, x1, x2] (0, 0) _ h Tryd.underlying57 rfl (by kernel_rfl)
theorem row3_put {W : World} {g : Nat} {x0 x1 x2 v0 v1 v2 : Value} {t : TypeId} (h : W.heap[g]? = some (.cells #[x0, x1, x2] t (0, 0))) : (((W.setCell ⟨g, 0, none⟩ v0).setCell ⟨g, 1, none⟩ v1).setCell ⟨g, 2, none⟩ v2).heap[g]? = some (.cells #[v0, v1, v2] t (0, 0)) := by
  have h0 := heap_setCell_same _ g 0 _ t v0 h
  have h1 := heap_setCell_same _ g 1 _ t v1 h0
  have h2 := heap_setCell_same _ g 2 _ t v2 h1
  simpa using h2
theorem row3_keptG {W : World} {g : Nat} {v0 v1 v2 : Value} : Kept (fun i => i = g) W (((W.setCell ⟨g, 0, none⟩ v0).setCell ⟨g, 1, none⟩ v1).setCell ⟨g, 2, none⟩ v2) := by
  have H : ∀ (V : World) (o : Nat) (v : Value), Kept (fun i => i = g) W V → Kept (fun i => i = g) W (V.setCell ⟨g, o, none⟩ v) := fun V o v k => k.trans (Kept.setCell V ⟨g, o, none⟩ v) (fun i e => .inl e)
  exact H _ _ _ (H _ _ _ (H _ _ _ (Kept.refl _ _)))
theorem row3_cells {W : World} {g : Nat} {x0 x1 x2 : Value} {t : TypeId} (z : W.heap[g]? = some (.cells #[x0, x1, x2] t (0, 0))) : W.cell? ⟨g, 0, none⟩ = some x0 ∧ W.cell? ⟨g, 1, none⟩ = some x1 ∧ W.cell? ⟨g, 2, none⟩ = some x2 ∧ (∀ i, W.frozen? ⟨g, i, none⟩ = false) := by
  refine ⟨?_, ?_, ?_, fun i => ?_⟩ <;> simp [World.cell?, World.frozen?, z]
theorem results_cellW {fn : Func} {p u : Tmp} {ty : TypeId} (h : fn.results = #[.cell p ty, .tmp u]) (tmps : Array Value) (P : Program) (w : World) (g : Nat) (cs : Array Value)
    (hp : tmps.getD p undef = .pointer (some ⟨g, 0, none⟩)) (hld : (loadVar ty ⟨g, 0, none⟩).run P w = .ok (.agg cs) w) :
    (results fn tmps).run P w = .ok (.tuple #[.agg cs, tmps.getD u undef]) w := by
  have hp' : tmps[p]?.getD undef = .pointer (some ⟨g, 0, none⟩) := by simpa using hp
  simp [results, h, hp', asAddr, hld, Result.andThen]
/-- The open groups, as they lie. -/
def OpV (w : World) (v : Value) (op : List Bool) : Prop := ∃ a n c, v = .slice a n c ∧ n = op.length ∧ n ≤ c ∧ (op ≠ [] → ∃ g o, a = some ⟨g, o, none⟩ ∧ ∀ j b, op[j]? = some b → w.cell? ⟨g, o + j, none⟩ = some (.bool b))
theorem OpV.past {F : Nat → Prop} {w w' : World} {v : Value} {op : List Bool} (h : OpV w v op) (k : Kept F w w') (hF : ∀ i, F i → w.heap.size ≤ i) : OpV w' v op := by
  obtain ⟨a, n, c, e, h1, h2, h3⟩ := h
  refine ⟨a, n, c, e, h1, h2, fun hne => ?_⟩
  obtain ⟨g, o, e2, hc⟩ := h3 hne
  refine ⟨g, o, e2, fun j b hb => k.cell (hc j b hb) (fun f => ?_)⟩
  have := hF _ f
  have := World.block_lt_of_cell? w _ (hc j b hb)
  simp only at *
  omega
theorem OpV.later {w w' : World} {v : Value} {op : List Bool} (h : OpV w v op) (k : Kept (fun _ => False) w w') : OpV w' v op := h.past k (fun _ f => f.elim)
set_option maxRecDepth 20000 in
set_option maxHeartbeats 4000000 in
theorem isStarR_any (y : Tn) (w : World) : Calls Tryd.prog 40 #[.agg (lxC y)] w fun e w' => e = .returned (.bool (isSt y)) ∧ Kept (fun _ => False) w w' := by
  obtain ⟨k, t, n, a, e⟩ := y
  unfold lxC isSt
  dsimp only
  have KA := hideL (Kept.alloc w (.cells #[.int .i64 k, .string t, .int .i64 n, .int .i64 a, .int .i64 e] 59))
  cases hk : (k == 2) with
  | false =>
    go_enter Tryd.func40, Tryd.ntmps40
    go_wp2_with fail
    go_ret
    exact ⟨rfl, KA.out⟩
  | true =>
    cases ht : (t.toList == [42])
    all_goals
      go_enter Tryd.func40, Tryd.ntmps40
      go_wp2_with fail
      go_ret
      exact ⟨rfl, KA.out⟩
def atV (x : Option Nat) : Int := match x with
  | none => -1
  | some a => (a : Int)
set_option maxRecDepth 20000 in
set_option maxHeartbeats 4000000 in
theorem atom_any (y : Tn) (fld : Bool) (w : World) : Calls Tryd.prog 62 #[.agg (lxC y), .bool fld] w fun e w' => e = .returned (.int .i64 (atV (atomF y fld))) ∧ Kept (fun _ => False) w w' := by
  have CS := hideL (fun W => isStarR_any y W)
  have K1 : ∀ k : Nat, isK k y = (y.k == (k : Int)) := fun _ => rfl
  have e1 := K1 1
  have e2 := K1 2
  have e3 := K1 3
  have e8 := K1 8
  have e10 := K1 10
  have e12 := K1 12
  unfold atomF
  cases q1 : isK 1 y with
  | true =>
    rw [q1] at e1
    cases fld
    all_goals
      obtain ⟨k, t, n, a, e⟩ := y
      unfold lxC at *
      dsimp only at *
      have b1 : (k == 1) = true := e1.symm
      have KA := hideL (Kept.alloc w (.cells #[.int .i64 k, .string t, .int .i64 n, .int .i64 a, .int .i64 e] 59))
      clear e1 e2 e3 e8 e10 e12 K1 CS q1
      go_enter Tryd.func62, Tryd.ntmps62
      go_wp2_with fail
      go_ret
      exact ⟨rfl, KA.out⟩
  | false =>
    rw [q1] at e1
    cases q2 : isK 2 y with
    | true =>
      rw [q2] at e2
      have HZ : Hid (∀ B, isSt y = B → (if (B && !fld) = true then 6 else 9) = (if (isSt y && !fld) = true then 6 else 9)) := hideL (fun B hB => by rw [hB])
      cases qs : isSt y
      all_goals
        rw [qs] at CS
        cases fld
        all_goals
          obtain ⟨k, t, n, a, e⟩ := y
          unfold lxC at *
          dsimp only at *
          have b1 : (k == 1) = false := e1.symm
          have b2 : (k == 2) = true := e2.symm
          have KA := hideL (Kept.alloc w (.cells #[.int .i64 k, .string t, .int .i64 n, .int .i64 a, .int .i64 e] 59))
          clear e1 e2 e3 e8 e10 e12 K1 q1 q2 qs HZ
          go_enter Tryd.func62, Tryd.ntmps62
          go_wp2_with (go_at_call 40; refine (CS.out _).mono ?_; clear CS; rintro x W1 ⟨rfl, k1⟩; have K2 := hideL (KA.out.trans k1 (fun _ f => f.elim)); clear k1)
          go_ret
          exact ⟨rfl, K2.out⟩
    | false =>
      rw [q2] at e2
      cases q3 : isK 3 y <;> rw [q3] at e3 <;> cases q8 : isK 8 y <;> rw [q8] at e8 <;> cases q10 : isK 10 y <;> rw [q10] at e10 <;> cases q12 : isK 12 y <;> rw [q12] at e12
      all_goals
        obtain ⟨k, t, n, a, e⟩ := y
        unfold lxC at *
        dsimp only at *
        have b1 : (k == 1) = false := e1.symm
        have b2 : (k == 2) = false := e2.symm
        have b3 := e3.symm
        have b8 := e8.symm
        have b10 := e10.symm
        have b12 := e12.symm
        have KA := hideL (Kept.alloc w (.cells #[.int .i64 k, .string t, .int .i64 n, .int .i64 a, .int .i64 e] 59))
        clear e1 e2 e3 e8 e10 e12 K1 CS q1 q2 q3 q8 q10 q12
        go_enter Tryd.func62, Tryd.ntmps62
        go_wp2_with fail
        all_goals go_ret
        all_goals exact ⟨rfl, KA.out⟩
end Go.Proofs.YtiemiphlfbaojaaDoor
namespace Go.Proofs.YtiemiphlfbaojaaDoor
open Go.ChangeShapes Go.WideShapes Go.ChangeAt Go.RowKit
variable {w : World}
theorem Tryd.infoBo : (Tryd.prog.info? 4).map (fun i => (i.zero, i.size, i.bytes)) = some (some (.bool false), 1, 1) := by kernel_rfl
theorem isK_otherW {y : Tn} {k j : Nat} (h : isK k y = true) (hj : j ≠ k) : isK j y = false := by
  unfold isK at *
  simp only [beq_iff_eq] at h
  simp only [beq_eq_false_iff_ne]
  omega
def bv (l : List Bool) : List Value := l.map (fun b => .bool b)
def BoolsAt (w : World) (a : Option Addr) (l : List Bool) : Prop := l ≠ [] → ∃ g o, a = some ⟨g, o, none⟩ ∧ ∀ j b, l[j]? = some b → w.cell? ⟨g, o + j, none⟩ = some (.bool b)
theorem BoolsAt.later {w w' : World} {a : Option Addr} {l : List Bool} (h : BoolsAt w a l) (k : Kept (fun _ => False) w w') : BoolsAt w' a l := fun hne => by
  obtain ⟨g, o, e, hc⟩ := h hne
  exact ⟨g, o, e, fun j b hb => k.cell (hc j b hb) (fun f => f)⟩
theorem bools_one (w : World) (x : Bool) (t : TypeId) : BoolsAt (w.alloc (.cells #[.bool x] t)) (some ⟨w.heap.size, 0, none⟩) [x] := fun _ => ⟨_, 0, rfl, fun j b hb => by
  match j, hb with
  | 0, hb => simp at hb; subst hb; rw [World.cell?_alloc_new]; rfl⟩
theorem Gro.roomW {w0 w : World} {e : TypeId} {sz : Nat} {a : Option Addr} {n c : Nat} {xs : List Value} (h : Gro w0 w e sz (.slice a n c) n xs) : n ≤ c := by
  rcases h.own.2 with ⟨e1, e2⟩ | ⟨g, cap, cur, e1, _, _, hn, _⟩
  · omega
  · injection e1 with _ _ e3
    omega
theorem Gro.opv {w0 w : World} {a : Option Addr} {n c : Nat} {l : List Bool} (h : Gro w0 w 4 1 (.slice a n c) n (bv l)) (hn : n = l.length) : OpV w (.slice a n c) l := by
  refine ⟨a, n, c, rfl, hn, h.roomW, fun hne => ?_⟩
  have hp : 0 < n := by rw [hn]; exact List.length_pos_iff.2 hne
  obtain ⟨g, rfl, _, hc⟩ := h.cell hp
  refine ⟨g, 0, rfl, fun j b hb => ?_⟩
  rw [Nat.zero_add]
  exact hc j _ (by unfold bv; rw [List.getElem?_map, hb]; rfl)
theorem BoolsAt.past {F : Nat → Prop} {w w' : World} {z : Nat} {l : List Bool} (h : BoolsAt w (some ⟨z, 0, none⟩) l) (k : Kept F w w') (hz : ¬ F z) : BoolsAt w' (some ⟨z, 0, none⟩) l := fun hne => by
  obtain ⟨g, o, e, hc⟩ := h hne
  injection e with e
  injection e with e1 e2 _
  subst e1 e2
  exact ⟨z, 0, rfl, fun j b hb => k.cell (hc j b hb) hz⟩
/-- Open groups in memory from lo on. -/
def OpG (w : World) (v : Value) (op : List Bool) (lo : Nat) : Prop := ∃ a n c, v = .slice a n c ∧ n = op.length ∧ n ≤ c ∧ (op ≠ [] → ∃ g o, a = some ⟨g, o, none⟩ ∧ lo ≤ g ∧ ∀ j b, op[j]? = some b → w.cell? ⟨g, o + j, none⟩ = some (.bool b))
theorem OpG.past {F : Nat → Prop} {w w' : World} {v : Value} {op : List Bool} {lo : Nat} (h : OpG w v op lo) (k : Kept F w w') (hF : ∀ i, F i → i < lo) : OpG w' v op lo := by
  obtain ⟨a, n, c, e, h1, h2, h3⟩ := h
  refine ⟨a, n, c, e, h1, h2, fun hne => ?_⟩
  obtain ⟨g, o, e2, hl, hc⟩ := h3 hne
  refine ⟨g, o, e2, hl, fun j b hb => k.cell (hc j b hb) (fun f => ?_)⟩
  have := hF _ f
  simp only at this
  omega
theorem OpG.low {w : World} {v : Value} {op : List Bool} {lo lo' : Nat} (h : OpG w v op lo) (hl : lo' ≤ lo) : OpG w v op lo' := by
  obtain ⟨a, n, c, e, h1, h2, h3⟩ := h
  refine ⟨a, n, c, e, h1, h2, fun hne => ?_⟩
  obtain ⟨g, o, e2, hg, hc⟩ := h3 hne
  exact ⟨g, o, e2, Nat.le_trans hl hg, hc⟩
theorem OpG.opv {w : World} {v : Value} {op : List Bool} {lo : Nat} (h : OpG w v op lo) : OpV w v op := by
  obtain ⟨a, n, c, e, h1, h2, h3⟩ := h
  refine ⟨a, n, c, e, h1, h2, fun hne => ?_⟩
  obtain ⟨g, o, e2, _, hc⟩ := h3 hne
  exact ⟨g, o, e2, hc⟩
theorem Gro.opg {w0 w : World} {a : Option Addr} {n c : Nat} {l : List Bool} (h : Gro w0 w 4 1 (.slice a n c) n (bv l)) (hn : n = l.length) : OpG w (.slice a n c) l w0.heap.size := by
  refine ⟨a, n, c, rfl, hn, h.roomW, fun hne => ?_⟩
  have hp : 0 < n := by rw [hn]; exact List.length_pos_iff.2 hne
  obtain ⟨g, rfl, hlo, hc⟩ := h.cell hp
  refine ⟨g, 0, rfl, hlo, fun j b hb => ?_⟩
  rw [Nat.zero_add]
  exact hc j _ (by unfold bv; rw [List.getElem?_map, hb]; rfl)
theorem OpV.bools {w : World} {a : Option Addr} {n c : Nat} {op : List Bool} (h : OpV w (.slice a n c) op) : BoolsAt w a op ∧ n = op.length ∧ n ≤ c := by
  obtain ⟨a', n', c', e, h1, h2, h3⟩ := h
  injection e with e1 e2 e3
  subst e1 e2 e3
  exact ⟨h3, h1, h2⟩
theorem two_set (V : World) (g o1 o2 : Nat) (v1 v2 : Value) : Kept (fun i => i = g) V ((V.setCell ⟨g, o1, none⟩ v1).setCell ⟨g, o2, none⟩ v2) := by
  have H : ∀ (U : World) (o : Nat) (v : Value), Kept (fun i => i = g) V U → Kept (fun i => i = g) V (U.setCell ⟨g, o, none⟩ v) := fun U o v k => k.trans (Kept.setCell U ⟨g, o, none⟩ v) (fun i e => .inl e)
  exact H _ _ _ (H _ _ _ (Kept.refl _ _))
def BgS (g : Nat) (sg : Bool) (V : World) : Prop := V.cell? ⟨g, 1, none⟩ = some (.bool sg)
def bgnPost (w : World) (op : List Bool) (e : Ending) (w' : World) : Prop := ∃ ga gn gc, e = .returned (.tuple #[.agg #[.int .i64 0, .bool false, .slice ga gn gc], .bool true]) ∧ OpG w' (.slice ga gn gc) op w.heap.size ∧ Kept (fun _ => False) w w'
/-- 'append(s, x...)' of bools, none or more, as one operation. -/
theorem wp_catB {w0 W : World} {o : Oper} {act : Act} {K : Act → World → Prop} {Q : Exit → Act → World → Prop} (s x : Operand)
    (ho : o.op = .call { callee := .builtin .append, args := #[s, x], argTypes := #[55, 55] })
    (v : Value) (n : Nat) (xs : List Bool) (hs : act.eval s = v) (hG : Gro w0 W 4 1 v n (bv xs)) (a : Option Addr) (m c : Nat) (hx : act.eval x = .slice a m c) (ys : List Bool) (hm : m = ys.length) (hI : BoolsAt W a ys) (hb : n + m ≤ 1099511627776) (N : Nat) (hN : n + m = N)
    (h : ∀ (va : Option Addr) (vc : Nat) W', Gro w0 W' 4 1 (.slice va N vc) N (bv (xs ++ ys)) → Kept (fun i => v.ownBlock = some i) W W' → K (act.put o.dst (.slice va N vc)) W') : o.wp Tryd.prog act W K Q := by
  subst hN
  obtain ⟨i0, hi, hz0, hz1, hz2⟩ := info_partsL Tryd.infoBo
  by_cases h0 : m = 0
  · obtain rfl : ys = [] := List.length_eq_zero_iff.1 (by omega)
    subst h0
    obtain ⟨sa, sc, rfl⟩ := hG.shape
    have hrun := run_append_nothing (P := Tryd.prog) W 55 55 o.type 4 i0 Tryd.underlying55 hi sa n sc hG.roomW (.slice a 0 c) ⟨.inl ⟨_, Tryd.underlying55⟩, fun _ => rfl, by cases a <;> simp [Builtin.firstCells, loadCells, loadCellsFrom], by cases a <;> simp [Builtin.firstCells, loadCells, loadCellsFrom], by simp, by simp⟩
    have h9 := h sa sc W (by rw [List.append_nil]; exact hG) (Kept.refl _ _)
    unfold Oper.wp
    simp [execOp, ho, resolve, invoke, builtin, hs, hx, hrun, Result.andThen]
    exact h9
  · obtain ⟨b, off, rfl, hc⟩ := hI (by intro e; rw [e] at hm; simp at hm; omega)
    refine wp_append_own W s x 55 ho w0.heap.size 4 i0 (.bool false) 1 1 Tryd.underlying55 hi hz0 hz1 hz2 rfl (by decide) v n (bv xs) hs hG.own ⟨b, off, none⟩ m c (bv ys) hx (by unfold bv; rw [List.length_map]; omega) (fun j u hu => ?_) (by intro u hu; obtain ⟨y, _, rfl⟩ := List.mem_map.1 hu; rfl) (by unfold maxLen; omega) (by omega) hG.kept.size ?_
    · unfold bv at hu
      rw [List.getElem?_map] at hu
      obtain ⟨y, hy, rfl⟩ := Option.map_eq_some_iff.1 hu
      rw [Go.WideShapes.add_plain]
      exact hc j y hy
    · intro v' W' ho2 hg2 _
      have q : Gro w0 W' 4 1 v' (n + m) (bv xs ++ bv ys) := ⟨ho2, hG.kept.trans (Kept.grown hg2) (fun i hi => .inr (hG.own.lt i hi).1)⟩
      obtain ⟨a', c', rfl⟩ := q.shape
      exact h a' c' W' (by unfold bv at q ⊢; rw [List.map_append]; exact q) (Kept.grown hg2)
set_option maxRecDepth 20000 in
set_option maxHeartbeats 4000000 in
theorem begun_not (r : Rs) (y : Tn) (oa : Option Addr) (on oc : Nat) (fld : Bool) (w : World) (h6 : (isK 6 y && !fld) = true) : Calls Tryd.prog 39 #[.agg #[.int .i64 (r.at' : Int), .bool r.sg, .slice oa on oc], .agg (lxC y), .bool fld] w fun e w' => e = .returned (.tuple #[.agg #[.int .i64 1, .bool r.sg, .slice oa on oc], .bool true]) ∧ Kept (fun _ => False) w w' := by
  rw [Bool.and_eq_true] at h6
  obtain ⟨h6, hf⟩ := h6
  obtain rfl : fld = false := by cases fld <;> simp_all
  have b6 : (y.k == 6) = true := h6
  obtain ⟨a, sg, op⟩ := r
  obtain ⟨k, t, n, ya, e⟩ := y
  unfold lxC at *
  dsimp only at *
  clear h6 hf
  go_enter Tryd.func39, Tryd.ntmps39
  go_wp2_with fail
  refine bodyPost_ret (results_cellW rfl _ _ _ (w.heap.size + 1 + 1) _ rfl (load_row3 (by exact (boxes3 w _ _ _ _ _ _).2.2.2.1))) rfl ?_
  exact ⟨rfl, (boxes3 w _ _ _ _ _ _).1⟩
set_option maxRecDepth 20000 in
set_option maxHeartbeats 4000000 in
theorem begun_none (r : Rs) (y : Tn) (oa : Option Addr) (on oc : Nat) (fld : Bool) (w : World) (h6 : (isK 6 y && !fld) = false) (hat : atomF y fld = none) : Calls Tryd.prog 39 #[.agg #[.int .i64 (r.at' : Int), .bool r.sg, .slice oa on oc], .agg (lxC y), .bool fld] w fun e w' => e = .returned (.tuple #[.agg #[.int .i64 (r.at' : Int), .bool r.sg, .slice oa on oc], .bool false]) ∧ Kept (fun _ => False) w w' := by
  have h8 : isK 8 y = isK 8 y := rfl
  have CA := hideL (fun W => atom_any y fld W)
  rw [hat] at CA
  unfold atV at CA
  obtain ⟨a, sg, op⟩ := r
  obtain ⟨k, t, n, ya, e⟩ := y
  unfold lxC at *
  obtain ⟨KB, h0, h1, h2, hz⟩ := boxes3 w #[.int .i64 (a : Int), .bool sg, .slice oa on oc] #[.int .i64 k, .string t, .int .i64 n, .int .i64 ya, .int .i64 e] #[.int .i64 0, .bool false, .slice none 0 0] 57 59 57
  have HK := hideL KB
  have H0 := hideL h0
  have H1 := hideL h1
  have H2 := hideL h2
  have b6 : (k == 6) = true → fld = true := fun q => by
    have : (isK 6 ⟨k, t, n, ya, e⟩ && !fld) = false := h6
    have q2 : isK 6 ⟨k, t, n, ya, e⟩ = true := q
    rw [q2] at this
    cases fld <;> simp_all
  dsimp only at *
  clear KB h0 h1 h2 hz h6 h8 hat
  cases q6 : (k == 6)
  all_goals
    first | (have hfl : fld = true := b6 (by exact q6); subst hfl) | skip
    clear b6
    go_enter Tryd.func39, Tryd.ntmps39
    go_wp2_with (go_at_call 62; refine Stp13.go ?_)
    generalize ((w.alloc (.cells #[.int .i64 (a : Int), .bool sg, .slice oa on oc] 57)).alloc (.cells #[.int .i64 k, .string t, .int .i64 n, .int .i64 ya, .int .i64 e] 59)).alloc (.cells #[.int .i64 0, .bool false, .slice none 0 0] 57) = WB at *
    refine ⟨?_⟩
    refine (CA.out _).mono ?_
    rintro x W1 ⟨rfl, k1⟩
    have G0 := hideL (k1.heap H0.out (fun f => f))
    have G1 := hideL (k1.heap H1.out (fun f => f))
    have G2 := hideL (k1.heap H2.out (fun f => f))
    have K1 := hideL (HK.out.trans k1 (fun _ f => f.elim))
    clear k1 H0 H1 H2 HK CA
    generalize hge : w.heap.size = g9 at G0 G1 G2 ⊢
    have HG9 : Hid (w.heap.size = g9) := hideL hge
    clear hge
    obtain ⟨g8, hg8⟩ : ∃ g8, g8 = g9 + 1 := ⟨_, rfl⟩
    rw [← hg8] at G1 ⊢
    obtain ⟨g7, hg7⟩ : ∃ g7, g7 = g8 + 1 := ⟨_, rfl⟩
    have hg72 : g9 + 2 = g7 := by omega
    rw [hg72] at G2
    rw [← hg7]
    have n97 : ¬ g9 = g7 := by omega
    have n79 : ¬ g7 = g9 := by omega
    have HGG : Hid (g8 = g9 + 1 ∧ g7 = g9 + 2) := hideL (by omega)
    clear hg8 hg7 hg72
    obtain ⟨c0, c1, c2, cf⟩ := row3_cells G0.out
    have f0 := cf 0
    have f1 := cf 1
    have f2 := cf 2
    obtain ⟨d0, d1, d2, df⟩ := row3_cells G2.out
    have e0 := df 0
    have e1 := df 1
    have e2 := df 2
    obtain ⟨x0, x1, x2, x3, x4, xf⟩ := rowS_cells5 G1.out
    clear xf x1 x2 x3 x4 cf df
    go_wp2_with fail
    refine bodyPost_ret (results_cellW rfl _ _ _ g7 _ rfl (load_row3 (by exact row3_put G2.out))) rfl ?_
    exact ⟨rfl, K1.out.trans row3_keptG (fun i e => .inr (by have := HG9.out; have := HGG.out; omega))⟩
set_option maxRecDepth 20000 in
set_option maxHeartbeats 4000000 in
theorem begun_plain (r : Rs) (y : Tn) (oa : Option Addr) (on oc : Nat) (fld : Bool) (w : World) (h6 : (isK 6 y && !fld) = false) (z : Nat) (hat : atomF y fld = some z) (h8 : isK 8 y = false) : Calls Tryd.prog 39 #[.agg #[.int .i64 (r.at' : Int), .bool r.sg, .slice oa on oc], .agg (lxC y), .bool fld] w fun e w' => e = .returned (.tuple #[.agg #[.int .i64 (z : Int), .bool r.sg, .slice oa on oc], .bool true]) ∧ Kept (fun _ => False) w w' := by
  have hz0 : ¬ (z : Int) < 0 := by omega
  have CA := hideL (fun W => atom_any y fld W)
  rw [hat] at CA
  unfold atV at CA
  obtain ⟨a, sg, op⟩ := r
  obtain ⟨k, t, n, ya, e⟩ := y
  unfold lxC at *
  have b8 : (k == 8) = false := h8
  obtain ⟨KB, h0, h1, h2, hz⟩ := boxes3 w #[.int .i64 (a : Int), .bool sg, .slice oa on oc] #[.int .i64 k, .string t, .int .i64 n, .int .i64 ya, .int .i64 e] #[.int .i64 0, .bool false, .slice none 0 0] 57 59 57
  have HK := hideL KB
  have H0 := hideL h0
  have H1 := hideL h1
  have H2 := hideL h2
  have b6 : (k == 6) = true → fld = true := fun q => by
    have : (isK 6 ⟨k, t, n, ya, e⟩ && !fld) = false := h6
    have q2 : isK 6 ⟨k, t, n, ya, e⟩ = true := q
    rw [q2] at this
    cases fld <;> simp_all
  dsimp only at *
  clear KB h0 h1 h2 hz h6 h8 hat
  cases q6 : (k == 6)
  all_goals
    first | (have hfl : fld = true := b6 (by exact q6); subst hfl) | skip
    clear b6
    go_enter Tryd.func39, Tryd.ntmps39
    go_wp2_with (go_at_call 62; refine Stp13.go ?_)
    generalize ((w.alloc (.cells #[.int .i64 (a : Int), .bool sg, .slice oa on oc] 57)).alloc (.cells #[.int .i64 k, .string t, .int .i64 n, .int .i64 ya, .int .i64 e] 59)).alloc (.cells #[.int .i64 0, .bool false, .slice none 0 0] 57) = WB at *
    refine ⟨?_⟩
    refine (CA.out _).mono ?_
    rintro x W1 ⟨rfl, k1⟩
    have G0 := hideL (k1.heap H0.out (fun f => f))
    have G1 := hideL (k1.heap H1.out (fun f => f))
    have G2 := hideL (k1.heap H2.out (fun f => f))
    have K1 := hideL (HK.out.trans k1 (fun _ f => f.elim))
    clear k1 H0 H1 H2 HK CA
    generalize hge : w.heap.size = g9 at G0 G1 G2 ⊢
    have HG9 : Hid (w.heap.size = g9) := hideL hge
    clear hge
    obtain ⟨g8, hg8⟩ : ∃ g8, g8 = g9 + 1 := ⟨_, rfl⟩
    rw [← hg8] at G1 ⊢
    obtain ⟨g7, hg7⟩ : ∃ g7, g7 = g8 + 1 := ⟨_, rfl⟩
    have hg72 : g9 + 2 = g7 := by omega
    rw [hg72] at G2
    rw [← hg7]
    have n97 : ¬ g9 = g7 := by omega
    have n79 : ¬ g7 = g9 := by omega
    have HGG : Hid (g8 = g9 + 1 ∧ g7 = g9 + 2) := hideL (by omega)
    clear hg8 hg7 hg72
    obtain ⟨c0, c1, c2, cf⟩ := row3_cells G0.out
    have f0 := cf 0
    have f1 := cf 1
    have f2 := cf 2
    obtain ⟨d0, d1, d2, df⟩ := row3_cells G2.out
    have e0 := df 0
    have e1 := df 1
    have e2 := df 2
    obtain ⟨x0, x1, x2, x3, x4, xf⟩ := rowS_cells5 G1.out
    clear xf x1 x2 x3 x4 cf df
    go_wp2_with fail
    have G3 : (W1.setCell ⟨g9, 0, none⟩ (.int .i64 (z : Int))).heap[g7]? = some (.cells #[.int .i64 0, .bool false, .slice none 0 0] 57 (0, 0)) := ((Kept.setCell W1 ⟨g9, 0, none⟩ (.int .i64 (z : Int))).mono (fun i (e : i = g9) => .inl e)).heap G2.out n79
    have KS : Kept (fun i => i = g9) W1 (W1.setCell ⟨g9, 0, none⟩ (.int .i64 (z : Int))) := (Kept.setCell _ _ _).mono (fun i e => .inl e)
    refine bodyPost_ret (results_cellW rfl _ _ _ g7 _ rfl (load_row3 (by exact row3_put G3))) rfl ?_
    exact ⟨rfl, (K1.out.trans KS (fun i e => .inr (by have := HG9.out; omega))).trans row3_keptG (fun i e => .inr (by have := HG9.out; have := HGG.out; omega))⟩
set_option maxRecDepth 20000 in
set_option maxHeartbeats 4000000 in
theorem begun_open (r : Rs) (y : Tn) (oa : Option Addr) (on oc : Nat) (fld : Bool) (w : World) (h8 : isK 8 y = true) (hO : OpV w (.slice oa on oc) r.op) (hb : on ≤ 1000000000000) : Calls Tryd.prog 39 #[.agg #[.int .i64 (r.at' : Int), .bool r.sg, .slice oa on oc], .agg (lxC y), .bool fld] w (bgnPost w (r.op ++ [r.sg])) := by
  have hat : atomF y fld = some 0 := by unfold atomF; rw [isK_otherW h8 (j := 1) (by decide), isK_otherW h8 (j := 2) (by decide), isK_otherW h8 (j := 3) (by decide), h8]; rfl
  have h6 : isK 6 y = false := isK_otherW h8 (by decide)
  obtain ⟨hO1, hO2, hO3⟩ := hO.bools
  have CA := hideL (fun W => atom_any y fld W)
  rw [hat] at CA
  unfold atV at CA
  obtain ⟨a, sg, op⟩ := r
  obtain ⟨k, t, n, ya, e⟩ := y
  unfold lxC at *
  have b8 : (k == 8) = true := h8
  obtain ⟨KB, h0, h1, h2, hz⟩ := boxes3 w #[.int .i64 (a : Int), .bool sg, .slice oa on oc] #[.int .i64 k, .string t, .int .i64 n, .int .i64 ya, .int .i64 e] #[.int .i64 0, .bool false, .slice none 0 0] 57 59 57
  have HK := hideL KB
  have H0 := hideL h0
  have H1 := hideL h1
  have H2 := hideL h2
  have q6 : (k == 6) = false := h6
  have HOL : Hid (on = op.length) := hideL hO2
  have HOB0 : Hid (BoolsAt w oa op) := hideL hO1
  have HON : Hid (on + 1 = (([] ++ op) ++ [sg]).length) := hideL (by simp; exact hO2)
  have HP : Hid (∀ ga gn gc w', OpG w' (.slice ga gn gc) (op ++ [sg]) w.heap.size → Kept (fun _ => False) w w' → bgnPost w (op ++ [sg]) (.returned (.tuple #[.agg #[.int .i64 0, .bool false, .slice ga gn gc], .bool true])) w') := hideL (fun ga gn gc w' x z => ⟨ga, gn, gc, rfl, x, z⟩)
  dsimp only at *
  generalize bgnPost w (op ++ [sg]) = QQ at *
  clear KB h0 h1 h2 hz h6 h8 hat hO hO1 hO2 hO3
  all_goals
    go_enter Tryd.func39, Tryd.ntmps39
    go_wp2_with (go_at_call 62; refine Stp13.go ?_)
    generalize ((w.alloc (.cells #[.int .i64 (a : Int), .bool sg, .slice oa on oc] 57)).alloc (.cells #[.int .i64 k, .string t, .int .i64 n, .int .i64 ya, .int .i64 e] 59)).alloc (.cells #[.int .i64 0, .bool false, .slice none 0 0] 57) = WB at *
    refine ⟨?_⟩
    refine (CA.out _).mono ?_
    rintro x W1 ⟨rfl, k1⟩
    have G0 := hideL (k1.heap H0.out (fun f => f))
    have G1 := hideL (k1.heap H1.out (fun f => f))
    have G2 := hideL (k1.heap H2.out (fun f => f))
    have K1 := hideL (HK.out.trans k1 (fun _ f => f.elim))
    clear k1 H0 H1 H2 HK CA
    generalize hge : w.heap.size = g9 at G0 G1 G2 ⊢
    have HG9 : Hid (w.heap.size = g9) := hideL hge
    clear hge
    obtain ⟨g8, hg8⟩ : ∃ g8, g8 = g9 + 1 := ⟨_, rfl⟩
    rw [← hg8] at G1 ⊢
    obtain ⟨g7, hg7⟩ : ∃ g7, g7 = g8 + 1 := ⟨_, rfl⟩
    have hg72 : g9 + 2 = g7 := by omega
    rw [hg72] at G2
    rw [← hg7]
    have n97 : ¬ g9 = g7 := by omega
    have n79 : ¬ g7 = g9 := by omega
    have HGG : Hid (g8 = g9 + 1 ∧ g7 = g9 + 2) := hideL (by omega)
    clear hg8 hg7 hg72
    obtain ⟨c0, c1, c2, cf⟩ := row3_cells G0.out
    have f0 := cf 0
    have f1 := cf 1
    have f2 := cf 2
    obtain ⟨d0, d1, d2, df⟩ := row3_cells G2.out
    have e0 := df 0
    have e1 := df 1
    have e2 := df 2
    obtain ⟨x0, x1, x2, x3, x4, xf⟩ := rowS_cells5 G1.out
    clear xf x1 x2 x3 x4 cf df
    go_wp2_with fail
    have HOB := hideL ((HOB0.out.later K1.out).later (Kept.drew W1))
    have HR0 := hideL ((Kept.drew W1).heap G0.out (fun f => f))
    have HZ0 := hideL ((Kept.drew W1).heap G2.out (fun f => f))
    have HLO : Hid (g9 < W1.drew.heap.size ∧ g7 < W1.drew.heap.size) := hideL ⟨(Array.getElem?_eq_some_iff.mp HR0.out).1, (Array.getElem?_eq_some_iff.mp HZ0.out).1⟩
    refine wp_region_held (S := BgS g9 sg) (by kernel_rfl) ?_
    change wpAnyH _ _ _ _ _ _ _ _ (World.drew _)
    have hS : BgS g9 sg W1.drew := (row3_cells HR0.out).2.1
    have kV : Kept (fun _ => False) W1.drew W1.drew := Kept.refl _ _
    clear c0 c1 c2 f0 f1 f2 d0 d1 d2 e0 e1 e2 x0 HOB0
    generalize hVV : W1.drew = V0 at *
    have HVV := hideL hVV
    clear hVV
    refine takeZ (i := 1) (d := 28) (v := .pointer (some ⟨g9, 2, none⟩)) rfl rfl (by kernel_rfl) (by kernel_rfl) (by kernel_rfl) (fun _ _ _ h => h) (Or.inl ⟨by rfl, fun W hW => ?_⟩) hS ?_
    · (go_simp)
    simp only [Act.put, List.setIfInBounds_toArray, List.set_cons_zero, List.set_cons_succ]
    refine takeZ (i := 4) (d := 31) (v := .pointer (some ⟨g9, 1, none⟩)) rfl rfl (by kernel_rfl) (by kernel_rfl) (by kernel_rfl) (fun _ _ _ h => h) (Or.inl ⟨by rfl, fun W hW => ?_⟩) hS ?_
    · (go_simp)
    simp only [Act.put, List.setIfInBounds_toArray, List.set_cons_zero, List.set_cons_succ]
    refine takeZ (i := 5) (d := 32) (v := .bool sg) rfl rfl (by kernel_rfl) (by kernel_rfl) (by kernel_rfl) (fun _ _ _ h => h) (Or.inl ⟨by rfl, fun W hW => ?_⟩) hS ?_
    · (have hW2 : W.cell? ⟨g9, 1, none⟩ = some (.bool sg) := hW; go_simp)
    simp only [Act.put, List.setIfInBounds_toArray, List.set_cons_zero, List.set_cons_succ]
    refine wpAnyH_all (rs := [0, 2, 6]) (by kernel_rfl) (by simp) ?_
    intro i' hi'
    obtain rfl | rfl | rfl : i' = 0 ∨ i' = 2 ∨ i' = 6 := by simpa using hi'
    · unfold wpOp
      go_simp
      have kA : Kept (fun _ => False) V0 (V0.alloc (.cells #[] 4)) := Kept.alloc _ _
      have hsz : V0.heap.size < (V0.alloc (.cells #[] 4)).heap.size := by simp
      have gE := gro_empty V0 V0 4 1 kV
      have kV := kV.trans kA (fun _ f => f.elim)
      have hS : BgS g9 sg _ := (row3_cells (kV.heap HR0.out (fun f => f))).2.1
      first | refine Or.inl ⟨hS, ?_⟩ | refine ⟨hS, ?_⟩ | (change wpAnyH _ _ _ _ _ _ _ _ _) | refine Or.inl ?_
      obtain ⟨z0, hz0⟩ : ∃ z0, z0 = V0.heap.size := ⟨_, rfl⟩
      rw [← hz0] at gE ⊢
      have hs0 : z0 < (V0.alloc (.cells #[] 4)).heap.size := by omega
      clear hz0
      clear hsz kA
      generalize V0.alloc (.cells #[] 4) = V1 at *
      refine wpAnyH_all (rs := [2, 6]) (by kernel_rfl) (by simp) ?_
      intro i' hi'
      obtain rfl | rfl : i' = 2 ∨ i' = 6 := by simpa using hi'
      · obtain ⟨-, p1, p2, -⟩ := row3_cells (kV.heap HR0.out (fun f => f))
        have hS : BgS g9 sg V1 := p1
        unfold wpOp
        go_simp
        first | refine Or.inl ⟨hS, ?_⟩ | refine ⟨hS, ?_⟩ | (change wpAnyH _ _ _ _ _ _ _ _ _) | refine Or.inl ?_
        clear p1 p2
        refine wpAnyH_all (rs := [3, 6]) (by kernel_rfl) (by simp) ?_
        intro i' hi'
        obtain rfl | rfl : i' = 3 ∨ i' = 6 := by simpa using hi'
        · refine wpOp_inL rfl rfl ?_
          refine wp_catB (w0 := V0) (.tmp 27) (.tmp 29) rfl (.slice (some ⟨z0, 0, none⟩) 0 0) 0 [] rfl gE oa on oc rfl op HOL.out (HOB.out.later kV) (by omega) on (Nat.zero_add _) ?_
          intro va vc V2 gT kT
          have kV := gT.kept
          have hS : BgS g9 sg _ := (row3_cells (kV.heap HR0.out (fun f => f))).2.1
          refine ⟨hS, ?_⟩
          simp only [Act.put]
          try simp only [List.setIfInBounds_toArray]
          clear gE kT
          refine wpAnyH_all (rs := [6]) (by kernel_rfl) (by simp) ?_
          intro i' hi'
          obtain rfl : i' = 6 := by simpa using hi'
          unfold wpOp
          go_simp
          have kA : Kept (fun _ => False) V2 (V2.alloc (.cells #[.bool sg] 4)) := Kept.alloc _ _
          have hsz : V2.heap.size < (V2.alloc (.cells #[.bool sg] 4)).heap.size := by simp
          have bS := bools_one V2 sg 4
          have kV := kV.trans kA (fun _ f => f.elim)
          have gT := gT.later kA
          have hS : BgS g9 sg _ := (row3_cells (kV.heap HR0.out (fun f => f))).2.1
          first | refine Or.inl ⟨hS, ?_⟩ | refine ⟨hS, ?_⟩ | (change wpAnyH _ _ _ _ _ _ _ _ _) | refine Or.inl ?_
          obtain ⟨z1, hz1⟩ : ∃ z1, z1 = V2.heap.size := ⟨_, rfl⟩
          rw [← hz1] at bS ⊢
          have hs1 : z1 < (V2.alloc (.cells #[.bool sg] 4)).heap.size := by omega
          clear hz1
          clear hsz kA
          generalize V2.alloc (.cells #[.bool sg] 4) = V3 at *
          refine wpAnyH_all (rs := [7]) (by kernel_rfl) (by simp) ?_
          intro i' hi'
          obtain rfl : i' = 7 := by simpa using hi'
          refine wpOp_inL rfl rfl ?_
          refine wp_catB (w0 := V0) (.tmp 30) (.tmp 33) rfl (.slice va on vc) on ([] ++ op) rfl gT (some ⟨z1, 0, none⟩) 1 1 rfl [sg] rfl bS (by omega) (on + 1) rfl ?_
          intro ga gc V4 gY kY
          have kV := gY.kept
          have hS : BgS g9 sg _ := (row3_cells (kV.heap HR0.out (fun f => f))).2.1
          refine ⟨hS, ?_⟩
          simp only [Act.put]
          try simp only [List.setIfInBounds_toArray]
          clear gT kY bS
          refine takeZ (i := 8) (d := 35) (v := .pointer (some ⟨g9, 2, none⟩)) rfl rfl (by kernel_rfl) (by kernel_rfl) (by kernel_rfl) (fun _ _ _ h => h) (Or.inl ⟨by rfl, fun W hW => ?_⟩) hS ?_
          · (go_simp)
          simp only [Act.put]
          refine wpAnyH_all (rs := [9]) (by kernel_rfl) (by simp) ?_
          intro i' hi'
          obtain rfl : i' = 9 := by simpa using hi'
          have hR := kV.heap HR0.out (fun f => f)
          have h7 := kV.heap HZ0.out (fun f => f)
          obtain ⟨p0, p1, p2, pf⟩ := row3_cells hR
          have pf2 := pf 2
          unfold wpOp
          go_simp
          have hE : (V4.setCell ⟨g9, 2, none⟩ (.slice ga (on + 1) gc)).heap[g9]? = some (.cells #[.int .i64 (a : Int), .bool sg, .slice ga (on + 1) gc] 57 (0, 0)) := by
            have := heap_setCell_same V4 g9 2 _ _ (.slice ga (on + 1) gc) hR
            simpa using this
          have KS : Kept (fun i => i = g9) V4 (V4.setCell ⟨g9, 2, none⟩ (.slice ga (on + 1) gc)) := (Kept.setCell _ _ _).mono (fun i e => .inl e)
          have h7 := KS.heap h7 n79
          have oV := (gY.opg HON.out).past KS (fun i e => by have := HLO.out; omega)
          have hS : BgS g9 sg _ := (row3_cells hE).2.1
          first | refine Or.inl ⟨hS, ?_⟩ | refine ⟨hS, ?_⟩ | (change wpAnyH _ _ _ _ _ _ _ _ _) | refine Or.inl ?_
          have kE := (kV.mono (fun _ f => f.elim)).trans KS (fun i e => .inl e)
          clear p0 p1 p2 pf pf2 hR KS
          generalize V4.setCell ⟨g9, 2, none⟩ (.slice ga (on + 1) gc) = VE at *
          refine wpAnyH_done (by kernel_rfl) ?_ _
          have HE := hideL hE
          have H7 := hideL h7
          have HOV := hideL oV
          have KE := hideL kE
          clear hE h7 oV kE gY kV hS
          obtain ⟨c0, c1, c2, cf⟩ := row3_cells HE.out
          have f0 := cf 0
          have f1 := cf 1
          have f2 := cf 2
          obtain ⟨d0, d1, d2, df⟩ := row3_cells H7.out
          have e0 := df 0
          have e1 := df 1
          have e2 := df 2
          clear cf df
          go_wp2_with fail
          have KS2 : Kept (fun i => i = g9) VE ((VE.setCell ⟨g9, 1, none⟩ (.bool false)).setCell ⟨g9, 0, none⟩ (.int .i64 0)) := two_set _ _ _ _ _ _
          have h72 := KS2.heap H7.out n79
          refine bodyPost_ret (results_cellW rfl _ _ _ g7 _ rfl (load_row3 (by exact row3_put h72))) rfl ?_
          exact HP.out ga (on + 1) gc _ (OpG.low ((HOV.out.past KS2 (fun i e => by have := HLO.out; omega)).past row3_keptG (fun i e => by have := HLO.out; omega)) (by have := HLO.out; have := HG9.out; omega)) (((K1.out.trans (by rw [← HVV.out]; exact Kept.drew _ : Kept (fun _ => False) W1 V0) (fun _ f => f.elim)).trans KE.out (fun i e => .inr (by have := HG9.out; omega))).trans KS2 (fun i e => .inr (by have := HG9.out; omega)) |>.trans row3_keptG (fun i e => .inr (by have := HG9.out; have := HGG.out; omega)))
        · unfold wpOp
          go_simp
          have kA : Kept (fun _ => False) V1 (V1.alloc (.cells #[.bool sg] 4)) := Kept.alloc _ _
          have hsz : V1.heap.size < (V1.alloc (.cells #[.bool sg] 4)).heap.size := by simp
          have bS := bools_one V1 sg 4
          have kV := kV.trans kA (fun _ f => f.elim)
          have gE := gE.later kA
          have hS : BgS g9 sg _ := (row3_cells (kV.heap HR0.out (fun f => f))).2.1
          first | refine Or.inl ⟨hS, ?_⟩ | refine ⟨hS, ?_⟩ | (change wpAnyH _ _ _ _ _ _ _ _ _) | refine Or.inl ?_
          obtain ⟨z1, hz1⟩ : ∃ z1, z1 = V1.heap.size := ⟨_, rfl⟩
          rw [← hz1] at bS ⊢
          have hzz : ¬ z0 = z1 := by omega
          clear hz1
          clear hsz kA
          generalize V1.alloc (.cells #[.bool sg] 4) = V2 at *
          refine wpAnyH_all (rs := [3]) (by kernel_rfl) (by simp) ?_
          intro i' hi'
          obtain rfl : i' = 3 := by simpa using hi'
          refine wpOp_inL rfl rfl ?_
          refine wp_catB (w0 := V0) (.tmp 27) (.tmp 29) rfl (.slice (some ⟨z0, 0, none⟩) 0 0) 0 [] rfl gE oa on oc rfl op HOL.out (HOB.out.later kV) (by omega) on (Nat.zero_add _) ?_
          intro va vc V3 gT kT
          have kV := gT.kept
          have bS := bS.past kT (fun e => hzz (by simp [Value.ownBlock] at e; exact e))
          have hS : BgS g9 sg _ := (row3_cells (kV.heap HR0.out (fun f => f))).2.1
          refine ⟨hS, ?_⟩
          simp only [Act.put]
          try simp only [List.setIfInBounds_toArray]
          clear gE kT
          refine wpAnyH_all (rs := [7]) (by kernel_rfl) (by simp) ?_
          intro i' hi'
          obtain rfl : i' = 7 := by simpa using hi'
          refine wpOp_inL rfl rfl ?_
          refine wp_catB (w0 := V0) (.tmp 30) (.tmp 33) rfl (.slice va on vc) on ([] ++ op) rfl gT (some ⟨z1, 0, none⟩) 1 1 rfl [sg] rfl bS (by omega) (on + 1) rfl ?_
          intro ga gc V4 gY kY
          have kV := gY.kept
          have hS : BgS g9 sg _ := (row3_cells (kV.heap HR0.out (fun f => f))).2.1
          refine ⟨hS, ?_⟩
          simp only [Act.put]
          try simp only [List.setIfInBounds_toArray]
          clear gT kY bS
          refine takeZ (i := 8) (d := 35) (v := .pointer (some ⟨g9, 2, none⟩)) rfl rfl (by kernel_rfl) (by kernel_rfl) (by kernel_rfl) (fun _ _ _ h => h) (Or.inl ⟨by rfl, fun W hW => ?_⟩) hS ?_
          · (go_simp)
          simp only [Act.put]
          refine wpAnyH_all (rs := [9]) (by kernel_rfl) (by simp) ?_
          intro i' hi'
          obtain rfl : i' = 9 := by simpa using hi'
          have hR := kV.heap HR0.out (fun f => f)
          have h7 := kV.heap HZ0.out (fun f => f)
          obtain ⟨p0, p1, p2, pf⟩ := row3_cells hR
          have pf2 := pf 2
          unfold wpOp
          go_simp
          have hE : (V4.setCell ⟨g9, 2, none⟩ (.slice ga (on + 1) gc)).heap[g9]? = some (.cells #[.int .i64 (a : Int), .bool sg, .slice ga (on + 1) gc] 57 (0, 0)) := by
            have := heap_setCell_same V4 g9 2 _ _ (.slice ga (on + 1) gc) hR
            simpa using this
          have KS : Kept (fun i => i = g9) V4 (V4.setCell ⟨g9, 2, none⟩ (.slice ga (on + 1) gc)) := (Kept.setCell _ _ _).mono (fun i e => .inl e)
          have h7 := KS.heap h7 n79
          have oV := (gY.opg HON.out).past KS (fun i e => by have := HLO.out; omega)
          have hS : BgS g9 sg _ := (row3_cells hE).2.1
          first | refine Or.inl ⟨hS, ?_⟩ | refine ⟨hS, ?_⟩ | (change wpAnyH _ _ _ _ _ _ _ _ _) | refine Or.inl ?_
          have kE := (kV.mono (fun _ f => f.elim)).trans KS (fun i e => .inl e)
          clear p0 p1 p2 pf pf2 hR KS
          generalize V4.setCell ⟨g9, 2, none⟩ (.slice ga (on + 1) gc) = VE at *
          refine wpAnyH_done (by kernel_rfl) ?_ _
          have HE := hideL hE
          have H7 := hideL h7
          have HOV := hideL oV
          have KE := hideL kE
          clear hE h7 oV kE gY kV hS
          obtain ⟨c0, c1, c2, cf⟩ := row3_cells HE.out
          have f0 := cf 0
          have f1 := cf 1
          have f2 := cf 2
          obtain ⟨d0, d1, d2, df⟩ := row3_cells H7.out
          have e0 := df 0
          have e1 := df 1
          have e2 := df 2
          clear cf df
          go_wp2_with fail
          have KS2 : Kept (fun i => i = g9) VE ((VE.setCell ⟨g9, 1, none⟩ (.bool false)).setCell ⟨g9, 0, none⟩ (.int .i64 0)) := two_set _ _ _ _ _ _
          have h72 := KS2.heap H7.out n79
          refine bodyPost_ret (results_cellW rfl _ _ _ g7 _ rfl (load_row3 (by exact row3_put h72))) rfl ?_
          exact HP.out ga (on + 1) gc _ (OpG.low ((HOV.out.past KS2 (fun i e => by have := HLO.out; omega)).past row3_keptG (fun i e => by have := HLO.out; omega)) (by have := HLO.out; have := HG9.out; omega)) (((K1.out.trans (by rw [← HVV.out]; exact Kept.drew _ : Kept (fun _ => False) W1 V0) (fun _ f => f.elim)).trans KE.out (fun i e => .inr (by have := HG9.out; omega))).trans KS2 (fun i e => .inr (by have := HG9.out; omega)) |>.trans row3_keptG (fun i e => .inr (by have := HG9.out; have := HGG.out; omega)))
      · unfold wpOp
        go_simp
        have kA : Kept (fun _ => False) V1 (V1.alloc (.cells #[.bool sg] 4)) := Kept.alloc _ _
        have hsz : V1.heap.size < (V1.alloc (.cells #[.bool sg] 4)).heap.size := by simp
        have bS := bools_one V1 sg 4
        have kV := kV.trans kA (fun _ f => f.elim)
        have gE := gE.later kA
        have hS : BgS g9 sg _ := (row3_cells (kV.heap HR0.out (fun f => f))).2.1
        first | refine Or.inl ⟨hS, ?_⟩ | refine ⟨hS, ?_⟩ | (change wpAnyH _ _ _ _ _ _ _ _ _) | refine Or.inl ?_
        obtain ⟨z1, hz1⟩ : ∃ z1, z1 = V1.heap.size := ⟨_, rfl⟩
        rw [← hz1] at bS ⊢
        have hzz : ¬ z0 = z1 := by omega
        clear hz1
        clear hsz kA
        generalize V1.alloc (.cells #[.bool sg] 4) = V2 at *
        refine wpAnyH_all (rs := [2]) (by kernel_rfl) (by simp) ?_
        intro i' hi'
        obtain rfl : i' = 2 := by simpa using hi'
        obtain ⟨-, p1, p2, -⟩ := row3_cells (kV.heap HR0.out (fun f => f))
        have hS : BgS g9 sg V2 := p1
        unfold wpOp
        go_simp
        first | refine Or.inl ⟨hS, ?_⟩ | refine ⟨hS, ?_⟩ | (change wpAnyH _ _ _ _ _ _ _ _ _) | refine Or.inl ?_
        clear p1 p2
        refine wpAnyH_all (rs := [3]) (by kernel_rfl) (by simp) ?_
        intro i' hi'
        obtain rfl : i' = 3 := by simpa using hi'
        refine wpOp_inL rfl rfl ?_
        refine wp_catB (w0 := V0) (.tmp 27) (.tmp 29) rfl (.slice (some ⟨z0, 0, none⟩) 0 0) 0 [] rfl gE oa on oc rfl op HOL.out (HOB.out.later kV) (by omega) on (Nat.zero_add _) ?_
        intro va vc V3 gT kT
        have kV := gT.kept
        have bS := bS.past kT (fun e => hzz (by simp [Value.ownBlock] at e; exact e))
        have hS : BgS g9 sg _ := (row3_cells (kV.heap HR0.out (fun f => f))).2.1
        refine ⟨hS, ?_⟩
        simp only [Act.put]
        try simp only [List.setIfInBounds_toArray]
        clear gE kT
        refine wpAnyH_all (rs := [7]) (by kernel_rfl) (by simp) ?_
        intro i' hi'
        obtain rfl : i' = 7 := by simpa using hi'
        refine wpOp_inL rfl rfl ?_
        refine wp_catB (w0 := V0) (.tmp 30) (.tmp 33) rfl (.slice va on vc) on ([] ++ op) rfl gT (some ⟨z1, 0, none⟩) 1 1 rfl [sg] rfl bS (by omega) (on + 1) rfl ?_
        intro ga gc V4 gY kY
        have kV := gY.kept
        have hS : BgS g9 sg _ := (row3_cells (kV.heap HR0.out (fun f => f))).2.1
        refine ⟨hS, ?_⟩
        simp only [Act.put]
        try simp only [List.setIfInBounds_toArray]
        clear gT kY bS
        refine takeZ (i := 8) (d := 35) (v := .pointer (some ⟨g9, 2, none⟩)) rfl rfl (by kernel_rfl) (by kernel_rfl) (by kernel_rfl) (fun _ _ _ h => h) (Or.inl ⟨by rfl, fun W hW => ?_⟩) hS ?_
        · (go_simp)
        simp only [Act.put]
        refine wpAnyH_all (rs := [9]) (by kernel_rfl) (by simp) ?_
        intro i' hi'
        obtain rfl : i' = 9 := by simpa using hi'
        have hR := kV.heap HR0.out (fun f => f)
        have h7 := kV.heap HZ0.out (fun f => f)
        obtain ⟨p0, p1, p2, pf⟩ := row3_cells hR
        have pf2 := pf 2
        unfold wpOp
        go_simp
        have hE : (V4.setCell ⟨g9, 2, none⟩ (.slice ga (on + 1) gc)).heap[g9]? = some (.cells #[.int .i64 (a : Int), .bool sg, .slice ga (on + 1) gc] 57 (0, 0)) := by
          have := heap_setCell_same V4 g9 2 _ _ (.slice ga (on + 1) gc) hR
          simpa using this
        have KS : Kept (fun i => i = g9) V4 (V4.setCell ⟨g9, 2, none⟩ (.slice ga (on + 1) gc)) := (Kept.setCell _ _ _).mono (fun i e => .inl e)
        have h7 := KS.heap h7 n79
        have oV := (gY.opg HON.out).past KS (fun i e => by have := HLO.out; omega)
        have hS : BgS g9 sg _ := (row3_cells hE).2.1
        first | refine Or.inl ⟨hS, ?_⟩ | refine ⟨hS, ?_⟩ | (change wpAnyH _ _ _ _ _ _ _ _ _) | refine Or.inl ?_
        have kE := (kV.mono (fun _ f => f.elim)).trans KS (fun i e => .inl e)
        clear p0 p1 p2 pf pf2 hR KS
        generalize V4.setCell ⟨g9, 2, none⟩ (.slice ga (on + 1) gc) = VE at *
        refine wpAnyH_done (by kernel_rfl) ?_ _
        have HE := hideL hE
        have H7 := hideL h7
        have HOV := hideL oV
        have KE := hideL kE
        clear hE h7 oV kE gY kV hS
        obtain ⟨c0, c1, c2, cf⟩ := row3_cells HE.out
        have f0 := cf 0
        have f1 := cf 1
        have f2 := cf 2
        obtain ⟨d0, d1, d2, df⟩ := row3_cells H7.out
        have e0 := df 0
        have e1 := df 1
        have e2 := df 2
        clear cf df
        go_wp2_with fail
        have KS2 : Kept (fun i => i = g9) VE ((VE.setCell ⟨g9, 1, none⟩ (.bool false)).setCell ⟨g9, 0, none⟩ (.int .i64 0)) := two_set _ _ _ _ _ _
        have h72 := KS2.heap H7.out n79
        refine bodyPost_ret (results_cellW rfl _ _ _ g7 _ rfl (load_row3 (by exact row3_put h72))) rfl ?_
        exact HP.out ga (on + 1) gc _ (OpG.low ((HOV.out.past KS2 (fun i e => by have := HLO.out; omega)).past row3_keptG (fun i e => by have := HLO.out; omega)) (by have := HLO.out; have := HG9.out; omega)) (((K1.out.trans (by rw [← HVV.out]; exact Kept.drew _ : Kept (fun _ => False) W1 V0) (fun _ f => f.elim)).trans KE.out (fun i e => .inr (by have := HG9.out; omega))).trans KS2 (fun i e => .inr (by have := HG9.out; omega)) |>.trans row3_keptG (fun i e => .inr (by have := HG9.out; have := HGG.out; omega)))
    · obtain ⟨-, p1, p2, -⟩ := row3_cells (kV.heap HR0.out (fun f => f))
      have hS : BgS g9 sg V0 := p1
      unfold wpOp
      go_simp
      first | refine Or.inl ⟨hS, ?_⟩ | refine ⟨hS, ?_⟩ | (change wpAnyH _ _ _ _ _ _ _ _ _) | refine Or.inl ?_
      clear p1 p2
      refine wpAnyH_all (rs := [0, 6]) (by kernel_rfl) (by simp) ?_
      intro i' hi'
      obtain rfl | rfl : i' = 0 ∨ i' = 6 := by simpa using hi'
      · unfold wpOp
        go_simp
        have kA : Kept (fun _ => False) V0 (V0.alloc (.cells #[] 4)) := Kept.alloc _ _
        have hsz : V0.heap.size < (V0.alloc (.cells #[] 4)).heap.size := by simp
        have gE := gro_empty V0 V0 4 1 kV
        have kV := kV.trans kA (fun _ f => f.elim)
        have hS : BgS g9 sg _ := (row3_cells (kV.heap HR0.out (fun f => f))).2.1
        first | refine Or.inl ⟨hS, ?_⟩ | refine ⟨hS, ?_⟩ | (change wpAnyH _ _ _ _ _ _ _ _ _) | refine Or.inl ?_
        obtain ⟨z0, hz0⟩ : ∃ z0, z0 = V0.heap.size := ⟨_, rfl⟩
        rw [← hz0] at gE ⊢
        have hs0 : z0 < (V0.alloc (.cells #[] 4)).heap.size := by omega
        clear hz0
        clear hsz kA
        generalize V0.alloc (.cells #[] 4) = V1 at *
        refine wpAnyH_all (rs := [3, 6]) (by kernel_rfl) (by simp) ?_
        intro i' hi'
        obtain rfl | rfl : i' = 3 ∨ i' = 6 := by simpa using hi'
        · refine wpOp_inL rfl rfl ?_
          refine wp_catB (w0 := V0) (.tmp 27) (.tmp 29) rfl (.slice (some ⟨z0, 0, none⟩) 0 0) 0 [] rfl gE oa on oc rfl op HOL.out (HOB.out.later kV) (by omega) on (Nat.zero_add _) ?_
          intro va vc V2 gT kT
          have kV := gT.kept
          have hS : BgS g9 sg _ := (row3_cells (kV.heap HR0.out (fun f => f))).2.1
          refine ⟨hS, ?_⟩
          simp only [Act.put]
          try simp only [List.setIfInBounds_toArray]
          clear gE kT
          refine wpAnyH_all (rs := [6]) (by kernel_rfl) (by simp) ?_
          intro i' hi'
          obtain rfl : i' = 6 := by simpa using hi'
          unfold wpOp
          go_simp
          have kA : Kept (fun _ => False) V2 (V2.alloc (.cells #[.bool sg] 4)) := Kept.alloc _ _
          have hsz : V2.heap.size < (V2.alloc (.cells #[.bool sg] 4)).heap.size := by simp
          have bS := bools_one V2 sg 4
          have kV := kV.trans kA (fun _ f => f.elim)
          have gT := gT.later kA
          have hS : BgS g9 sg _ := (row3_cells (kV.heap HR0.out (fun f => f))).2.1
          first | refine Or.inl ⟨hS, ?_⟩ | refine ⟨hS, ?_⟩ | (change wpAnyH _ _ _ _ _ _ _ _ _) | refine Or.inl ?_
          obtain ⟨z1, hz1⟩ : ∃ z1, z1 = V2.heap.size := ⟨_, rfl⟩
          rw [← hz1] at bS ⊢
          have hs1 : z1 < (V2.alloc (.cells #[.bool sg] 4)).heap.size := by omega
          clear hz1
          clear hsz kA
          generalize V2.alloc (.cells #[.bool sg] 4) = V3 at *
          refine wpAnyH_all (rs := [7]) (by kernel_rfl) (by simp) ?_
          intro i' hi'
          obtain rfl : i' = 7 := by simpa using hi'
          refine wpOp_inL rfl rfl ?_
          refine wp_catB (w0 := V0) (.tmp 30) (.tmp 33) rfl (.slice va on vc) on ([] ++ op) rfl gT (some ⟨z1, 0, none⟩) 1 1 rfl [sg] rfl bS (by omega) (on + 1) rfl ?_
          intro ga gc V4 gY kY
          have kV := gY.kept
          have hS : BgS g9 sg _ := (row3_cells (kV.heap HR0.out (fun f => f))).2.1
          refine ⟨hS, ?_⟩
          simp only [Act.put]
          try simp only [List.setIfInBounds_toArray]
          clear gT kY bS
          refine takeZ (i := 8) (d := 35) (v := .pointer (some ⟨g9, 2, none⟩)) rfl rfl (by kernel_rfl) (by kernel_rfl) (by kernel_rfl) (fun _ _ _ h => h) (Or.inl ⟨by rfl, fun W hW => ?_⟩) hS ?_
          · (go_simp)
          simp only [Act.put]
          refine wpAnyH_all (rs := [9]) (by kernel_rfl) (by simp) ?_
          intro i' hi'
          obtain rfl : i' = 9 := by simpa using hi'
          have hR := kV.heap HR0.out (fun f => f)
          have h7 := kV.heap HZ0.out (fun f => f)
          obtain ⟨p0, p1, p2, pf⟩ := row3_cells hR
          have pf2 := pf 2
          unfold wpOp
          go_simp
          have hE : (V4.setCell ⟨g9, 2, none⟩ (.slice ga (on + 1) gc)).heap[g9]? = some (.cells #[.int .i64 (a : Int), .bool sg, .slice ga (on + 1) gc] 57 (0, 0)) := by
            have := heap_setCell_same V4 g9 2 _ _ (.slice ga (on + 1) gc) hR
            simpa using this
          have KS : Kept (fun i => i = g9) V4 (V4.setCell ⟨g9, 2, none⟩ (.slice ga (on + 1) gc)) := (Kept.setCell _ _ _).mono (fun i e => .inl e)
          have h7 := KS.heap h7 n79
          have oV := (gY.opg HON.out).past KS (fun i e => by have := HLO.out; omega)
          have hS : BgS g9 sg _ := (row3_cells hE).2.1
          first | refine Or.inl ⟨hS, ?_⟩ | refine ⟨hS, ?_⟩ | (change wpAnyH _ _ _ _ _ _ _ _ _) | refine Or.inl ?_
          have kE := (kV.mono (fun _ f => f.elim)).trans KS (fun i e => .inl e)
          clear p0 p1 p2 pf pf2 hR KS
          generalize V4.setCell ⟨g9, 2, none⟩ (.slice ga (on + 1) gc) = VE at *
          refine wpAnyH_done (by kernel_rfl) ?_ _
          have HE := hideL hE
          have H7 := hideL h7
          have HOV := hideL oV
          have KE := hideL kE
          clear hE h7 oV kE gY kV hS
          obtain ⟨c0, c1, c2, cf⟩ := row3_cells HE.out
          have f0 := cf 0
          have f1 := cf 1
          have f2 := cf 2
          obtain ⟨d0, d1, d2, df⟩ := row3_cells H7.out
          have e0 := df 0
          have e1 := df 1
          have e2 := df 2
          clear cf df
          go_wp2_with fail
          have KS2 : Kept (fun i => i = g9) VE ((VE.setCell ⟨g9, 1, none⟩ (.bool false)).setCell ⟨g9, 0, none⟩ (.int .i64 0)) := two_set _ _ _ _ _ _
          have h72 := KS2.heap H7.out n79
          refine bodyPost_ret (results_cellW rfl _ _ _ g7 _ rfl (load_row3 (by exact row3_put h72))) rfl ?_
          exact HP.out ga (on + 1) gc _ (OpG.low ((HOV.out.past KS2 (fun i e => by have := HLO.out; omega)).past row3_keptG (fun i e => by have := HLO.out; omega)) (by have := HLO.out; have := HG9.out; omega)) (((K1.out.trans (by rw [← HVV.out]; exact Kept.drew _ : Kept (fun _ => False) W1 V0) (fun _ f => f.elim)).trans KE.out (fun i e => .inr (by have := HG9.out; omega))).trans KS2 (fun i e => .inr (by have := HG9.out; omega)) |>.trans row3_keptG (fun i e => .inr (by have := HG9.out; have := HGG.out; omega)))
        · unfold wpOp
          go_simp
          have kA : Kept (fun _ => False) V1 (V1.alloc (.cells #[.bool sg] 4)) := Kept.alloc _ _
          have hsz : V1.heap.size < (V1.alloc (.cells #[.bool sg] 4)).heap.size := by simp
          have bS := bools_one V1 sg 4
          have kV := kV.trans kA (fun _ f => f.elim)
          have gE := gE.later kA
          have hS : BgS g9 sg _ := (row3_cells (kV.heap HR0.out (fun f => f))).2.1
          first | refine Or.inl ⟨hS, ?_⟩ | refine ⟨hS, ?_⟩ | (change wpAnyH _ _ _ _ _ _ _ _ _) | refine Or.inl ?_
          obtain ⟨z1, hz1⟩ : ∃ z1, z1 = V1.heap.size := ⟨_, rfl⟩
          rw [← hz1] at bS ⊢
          have hzz : ¬ z0 = z1 := by omega
          clear hz1
          clear hsz kA
          generalize V1.alloc (.cells #[.bool sg] 4) = V2 at *
          refine wpAnyH_all (rs := [3]) (by kernel_rfl) (by simp) ?_
          intro i' hi'
          obtain rfl : i' = 3 := by simpa using hi'
          refine wpOp_inL rfl rfl ?_
          refine wp_catB (w0 := V0) (.tmp 27) (.tmp 29) rfl (.slice (some ⟨z0, 0, none⟩) 0 0) 0 [] rfl gE oa on oc rfl op HOL.out (HOB.out.later kV) (by omega) on (Nat.zero_add _) ?_
          intro va vc V3 gT kT
          have kV := gT.kept
          have bS := bS.past kT (fun e => hzz (by simp [Value.ownBlock] at e; exact e))
          have hS : BgS g9 sg _ := (row3_cells (kV.heap HR0.out (fun f => f))).2.1
          refine ⟨hS, ?_⟩
          simp only [Act.put]
          try simp only [List.setIfInBounds_toArray]
          clear gE kT
          refine wpAnyH_all (rs := [7]) (by kernel_rfl) (by simp) ?_
          intro i' hi'
          obtain rfl : i' = 7 := by simpa using hi'
          refine wpOp_inL rfl rfl ?_
          refine wp_catB (w0 := V0) (.tmp 30) (.tmp 33) rfl (.slice va on vc) on ([] ++ op) rfl gT (some ⟨z1, 0, none⟩) 1 1 rfl [sg] rfl bS (by omega) (on + 1) rfl ?_
          intro ga gc V4 gY kY
          have kV := gY.kept
          have hS : BgS g9 sg _ := (row3_cells (kV.heap HR0.out (fun f => f))).2.1
          refine ⟨hS, ?_⟩
          simp only [Act.put]
          try simp only [List.setIfInBounds_toArray]
          clear gT kY bS
          refine takeZ (i := 8) (d := 35) (v := .pointer (some ⟨g9, 2, none⟩)) rfl rfl (by kernel_rfl) (by kernel_rfl) (by kernel_rfl) (fun _ _ _ h => h) (Or.inl ⟨by rfl, fun W hW => ?_⟩) hS ?_
          · (go_simp)
          simp only [Act.put]
          refine wpAnyH_all (rs := [9]) (by kernel_rfl) (by simp) ?_
          intro i' hi'
          obtain rfl : i' = 9 := by simpa using hi'
          have hR := kV.heap HR0.out (fun f => f)
          have h7 := kV.heap HZ0.out (fun f => f)
          obtain ⟨p0, p1, p2, pf⟩ := row3_cells hR
          have pf2 := pf 2
          unfold wpOp
          go_simp
          have hE : (V4.setCell ⟨g9, 2, none⟩ (.slice ga (on + 1) gc)).heap[g9]? = some (.cells #[.int .i64 (a : Int), .bool sg, .slice ga (on + 1) gc] 57 (0, 0)) := by
            have := heap_setCell_same V4 g9 2 _ _ (.slice ga (on + 1) gc) hR
            simpa using this
          have KS : Kept (fun i => i = g9) V4 (V4.setCell ⟨g9, 2, none⟩ (.slice ga (on + 1) gc)) := (Kept.setCell _ _ _).mono (fun i e => .inl e)
          have h7 := KS.heap h7 n79
          have oV := (gY.opg HON.out).past KS (fun i e => by have := HLO.out; omega)
          have hS : BgS g9 sg _ := (row3_cells hE).2.1
          first | refine Or.inl ⟨hS, ?_⟩ | refine ⟨hS, ?_⟩ | (change wpAnyH _ _ _ _ _ _ _ _ _) | refine Or.inl ?_
          have kE := (kV.mono (fun _ f => f.elim)).trans KS (fun i e => .inl e)
          clear p0 p1 p2 pf pf2 hR KS
          generalize V4.setCell ⟨g9, 2, none⟩ (.slice ga (on + 1) gc) = VE at *
          refine wpAnyH_done (by kernel_rfl) ?_ _
          have HE := hideL hE
          have H7 := hideL h7
          have HOV := hideL oV
          have KE := hideL kE
          clear hE h7 oV kE gY kV hS
          obtain ⟨c0, c1, c2, cf⟩ := row3_cells HE.out
          have f0 := cf 0
          have f1 := cf 1
          have f2 := cf 2
          obtain ⟨d0, d1, d2, df⟩ := row3_cells H7.out
          have e0 := df 0
          have e1 := df 1
          have e2 := df 2
          clear cf df
          go_wp2_with fail
          have KS2 : Kept (fun i => i = g9) VE ((VE.setCell ⟨g9, 1, none⟩ (.bool false)).setCell ⟨g9, 0, none⟩ (.int .i64 0)) := two_set _ _ _ _ _ _
          have h72 := KS2.heap H7.out n79
          refine bodyPost_ret (results_cellW rfl _ _ _ g7 _ rfl (load_row3 (by exact row3_put h72))) rfl ?_
          exact HP.out ga (on + 1) gc _ (OpG.low ((HOV.out.past KS2 (fun i e => by have := HLO.out; omega)).past row3_keptG (fun i e => by have := HLO.out; omega)) (by have := HLO.out; have := HG9.out; omega)) (((K1.out.trans (by rw [← HVV.out]; exact Kept.drew _ : Kept (fun _ => False) W1 V0) (fun _ f => f.elim)).trans KE.out (fun i e => .inr (by have := HG9.out; omega))).trans KS2 (fun i e => .inr (by have := HG9.out; omega)) |>.trans row3_keptG (fun i e => .inr (by have := HG9.out; have := HGG.out; omega)))
      · unfold wpOp
        go_simp
        have kA : Kept (fun _ => False) V0 (V0.alloc (.cells #[.bool sg] 4)) := Kept.alloc _ _
        have hsz : V0.heap.size < (V0.alloc (.cells #[.bool sg] 4)).heap.size := by simp
        have bS := bools_one V0 sg 4
        have kV := kV.trans kA (fun _ f => f.elim)
        have hS : BgS g9 sg _ := (row3_cells (kV.heap HR0.out (fun f => f))).2.1
        first | refine Or.inl ⟨hS, ?_⟩ | refine ⟨hS, ?_⟩ | (change wpAnyH _ _ _ _ _ _ _ _ _) | refine Or.inl ?_
        obtain ⟨z1, hz1⟩ : ∃ z1, z1 = V0.heap.size := ⟨_, rfl⟩
        rw [← hz1] at bS ⊢
        have hs1 : z1 < (V0.alloc (.cells #[.bool sg] 4)).heap.size := by omega
        clear hz1
        clear hsz kA
        generalize V0.alloc (.cells #[.bool sg] 4) = V1 at *
        refine wpAnyH_all (rs := [0]) (by kernel_rfl) (by simp) ?_
        intro i' hi'
        obtain rfl : i' = 0 := by simpa using hi'
        unfold wpOp
        go_simp
        have kA : Kept (fun _ => False) V1 (V1.alloc (.cells #[] 4)) := Kept.alloc _ _
        have hsz : V1.heap.size < (V1.alloc (.cells #[] 4)).heap.size := by simp
        have gE := gro_empty V0 V1 4 1 kV
        have kV := kV.trans kA (fun _ f => f.elim)
        have bS := bS.later kA
        have hS : BgS g9 sg _ := (row3_cells (kV.heap HR0.out (fun f => f))).2.1
        first | refine Or.inl ⟨hS, ?_⟩ | refine ⟨hS, ?_⟩ | (change wpAnyH _ _ _ _ _ _ _ _ _) | refine Or.inl ?_
        obtain ⟨z0, hz0⟩ : ∃ z0, z0 = V1.heap.size := ⟨_, rfl⟩
        rw [← hz0] at gE ⊢
        have hzz : ¬ z0 = z1 := by omega
        clear hz0
        clear hsz kA
        generalize V1.alloc (.cells #[] 4) = V2 at *
        refine wpAnyH_all (rs := [3]) (by kernel_rfl) (by simp) ?_
        intro i' hi'
        obtain rfl : i' = 3 := by simpa using hi'
        refine wpOp_inL rfl rfl ?_
        refine wp_catB (w0 := V0) (.tmp 27) (.tmp 29) rfl (.slice (some ⟨z0, 0, none⟩) 0 0) 0 [] rfl gE oa on oc rfl op HOL.out (HOB.out.later kV) (by omega) on (Nat.zero_add _) ?_
        intro va vc V3 gT kT
        have kV := gT.kept
        have bS := bS.past kT (fun e => hzz (by simp [Value.ownBlock] at e; exact e))
        have hS : BgS g9 sg _ := (row3_cells (kV.heap HR0.out (fun f => f))).2.1
        refine ⟨hS, ?_⟩
        simp only [Act.put]
        try simp only [List.setIfInBounds_toArray]
        clear gE kT
        refine wpAnyH_all (rs := [7]) (by kernel_rfl) (by simp) ?_
        intro i' hi'
        obtain rfl : i' = 7 := by simpa using hi'
        refine wpOp_inL rfl rfl ?_
        refine wp_catB (w0 := V0) (.tmp 30) (.tmp 33) rfl (.slice va on vc) on ([] ++ op) rfl gT (some ⟨z1, 0, none⟩) 1 1 rfl [sg] rfl bS (by omega) (on + 1) rfl ?_
        intro ga gc V4 gY kY
        have kV := gY.kept
        have hS : BgS g9 sg _ := (row3_cells (kV.heap HR0.out (fun f => f))).2.1
        refine ⟨hS, ?_⟩
        simp only [Act.put]
        try simp only [List.setIfInBounds_toArray]
        clear gT kY bS
        refine takeZ (i := 8) (d := 35) (v := .pointer (some ⟨g9, 2, none⟩)) rfl rfl (by kernel_rfl) (by kernel_rfl) (by kernel_rfl) (fun _ _ _ h => h) (Or.inl ⟨by rfl, fun W hW => ?_⟩) hS ?_
        · (go_simp)
        simp only [Act.put]
        refine wpAnyH_all (rs := [9]) (by kernel_rfl) (by simp) ?_
        intro i' hi'
        obtain rfl : i' = 9 := by simpa using hi'
        have hR := kV.heap HR0.out (fun f => f)
        have h7 := kV.heap HZ0.out (fun f => f)
        obtain ⟨p0, p1, p2, pf⟩ := row3_cells hR
        have pf2 := pf 2
        unfold wpOp
        go_simp
        have hE : (V4.setCell ⟨g9, 2, none⟩ (.slice ga (on + 1) gc)).heap[g9]? = some (.cells #[.int .i64 (a : Int), .bool sg, .slice ga (on + 1) gc] 57 (0, 0)) := by
          have := heap_setCell_same V4 g9 2 _ _ (.slice ga (on + 1) gc) hR
          simpa using this
        have KS : Kept (fun i => i = g9) V4 (V4.setCell ⟨g9, 2, none⟩ (.slice ga (on + 1) gc)) := (Kept.setCell _ _ _).mono (fun i e => .inl e)
        have h7 := KS.heap h7 n79
        have oV := (gY.opg HON.out).past KS (fun i e => by have := HLO.out; omega)
        have hS : BgS g9 sg _ := (row3_cells hE).2.1
        first | refine Or.inl ⟨hS, ?_⟩ | refine ⟨hS, ?_⟩ | (change wpAnyH _ _ _ _ _ _ _ _ _) | refine Or.inl ?_
        have kE := (kV.mono (fun _ f => f.elim)).trans KS (fun i e => .inl e)
        clear p0 p1 p2 pf pf2 hR KS
        generalize V4.setCell ⟨g9, 2, none⟩ (.slice ga (on + 1) gc) = VE at *
        refine wpAnyH_done (by kernel_rfl) ?_ _
        have HE := hideL hE
        have H7 := hideL h7
        have HOV := hideL oV
        have KE := hideL kE
        clear hE h7 oV kE gY kV hS
        obtain ⟨c0, c1, c2, cf⟩ := row3_cells HE.out
        have f0 := cf 0
        have f1 := cf 1
        have f2 := cf 2
        obtain ⟨d0, d1, d2, df⟩ := row3_cells H7.out
        have e0 := df 0
        have e1 := df 1
        have e2 := df 2
        clear cf df
        go_wp2_with fail
        have KS2 : Kept (fun i => i = g9) VE ((VE.setCell ⟨g9, 1, none⟩ (.bool false)).setCell ⟨g9, 0, none⟩ (.int .i64 0)) := two_set _ _ _ _ _ _
        have h72 := KS2.heap H7.out n79
        refine bodyPost_ret (results_cellW rfl _ _ _ g7 _ rfl (load_row3 (by exact row3_put h72))) rfl ?_
        exact HP.out ga (on + 1) gc _ (OpG.low ((HOV.out.past KS2 (fun i e => by have := HLO.out; omega)).past row3_keptG (fun i e => by have := HLO.out; omega)) (by have := HLO.out; have := HG9.out; omega)) (((K1.out.trans (by rw [← HVV.out]; exact Kept.drew _ : Kept (fun _ => False) W1 V0) (fun _ f => f.elim)).trans KE.out (fun i e => .inr (by have := HG9.out; omega))).trans KS2 (fun i e => .inr (by have := HG9.out; omega)) |>.trans row3_keptG (fun i e => .inr (by have := HG9.out; have := HGG.out; omega)))
    · unfold wpOp
      go_simp
      have kA : Kept (fun _ => False) V0 (V0.alloc (.cells #[.bool sg] 4)) := Kept.alloc _ _
      have hsz : V0.heap.size < (V0.alloc (.cells #[.bool sg] 4)).heap.size := by simp
      have bS := bools_one V0 sg 4
      have kV := kV.trans kA (fun _ f => f.elim)
      have hS : BgS g9 sg _ := (row3_cells (kV.heap HR0.out (fun f => f))).2.1
      first | refine Or.inl ⟨hS, ?_⟩ | refine ⟨hS, ?_⟩ | (change wpAnyH _ _ _ _ _ _ _ _ _) | refine Or.inl ?_
      obtain ⟨z1, hz1⟩ : ∃ z1, z1 = V0.heap.size := ⟨_, rfl⟩
      rw [← hz1] at bS ⊢
      have hs1 : z1 < (V0.alloc (.cells #[.bool sg] 4)).heap.size := by omega
      clear hz1
      clear hsz kA
      generalize V0.alloc (.cells #[.bool sg] 4) = V1 at *
      refine wpAnyH_all (rs := [0, 2]) (by kernel_rfl) (by simp) ?_
      intro i' hi'
      obtain rfl | rfl : i' = 0 ∨ i' = 2 := by simpa using hi'
      · unfold wpOp
        go_simp
        have kA : Kept (fun _ => False) V1 (V1.alloc (.cells #[] 4)) := Kept.alloc _ _
        have hsz : V1.heap.size < (V1.alloc (.cells #[] 4)).heap.size := by simp
        have gE := gro_empty V0 V1 4 1 kV
        have kV := kV.trans kA (fun _ f => f.elim)
        have bS := bS.later kA
        have hS : BgS g9 sg _ := (row3_cells (kV.heap HR0.out (fun f => f))).2.1
        first | refine Or.inl ⟨hS, ?_⟩ | refine ⟨hS, ?_⟩ | (change wpAnyH _ _ _ _ _ _ _ _ _) | refine Or.inl ?_
        obtain ⟨z0, hz0⟩ : ∃ z0, z0 = V1.heap.size := ⟨_, rfl⟩
        rw [← hz0] at gE ⊢
        have hzz : ¬ z0 = z1 := by omega
        clear hz0
        clear hsz kA
        generalize V1.alloc (.cells #[] 4) = V2 at *
        refine wpAnyH_all (rs := [2]) (by kernel_rfl) (by simp) ?_
        intro i' hi'
        obtain rfl : i' = 2 := by simpa using hi'
        obtain ⟨-, p1, p2, -⟩ := row3_cells (kV.heap HR0.out (fun f => f))
        have hS : BgS g9 sg V2 := p1
        unfold wpOp
        go_simp
        first | refine Or.inl ⟨hS, ?_⟩ | refine ⟨hS, ?_⟩ | (change wpAnyH _ _ _ _ _ _ _ _ _) | refine Or.inl ?_
        clear p1 p2
        refine wpAnyH_all (rs := [3]) (by kernel_rfl) (by simp) ?_
        intro i' hi'
        obtain rfl : i' = 3 := by simpa using hi'
        refine wpOp_inL rfl rfl ?_
        refine wp_catB (w0 := V0) (.tmp 27) (.tmp 29) rfl (.slice (some ⟨z0, 0, none⟩) 0 0) 0 [] rfl gE oa on oc rfl op HOL.out (HOB.out.later kV) (by omega) on (Nat.zero_add _) ?_
        intro va vc V3 gT kT
        have kV := gT.kept
        have bS := bS.past kT (fun e => hzz (by simp [Value.ownBlock] at e; exact e))
        have hS : BgS g9 sg _ := (row3_cells (kV.heap HR0.out (fun f => f))).2.1
        refine ⟨hS, ?_⟩
        simp only [Act.put]
        try simp only [List.setIfInBounds_toArray]
        clear gE kT
        refine wpAnyH_all (rs := [7]) (by kernel_rfl) (by simp) ?_
        intro i' hi'
        obtain rfl : i' = 7 := by simpa using hi'
        refine wpOp_inL rfl rfl ?_
        refine wp_catB (w0 := V0) (.tmp 30) (.tmp 33) rfl (.slice va on vc) on ([] ++ op) rfl gT (some ⟨z1, 0, none⟩) 1 1 rfl [sg] rfl bS (by omega) (on + 1) rfl ?_
        intro ga gc V4 gY kY
        have kV := gY.kept
        have hS : BgS g9 sg _ := (row3_cells (kV.heap HR0.out (fun f => f))).2.1
        refine ⟨hS, ?_⟩
        simp only [Act.put]
        try simp only [List.setIfInBounds_toArray]
        clear gT kY bS
        refine takeZ (i := 8) (d := 35) (v := .pointer (some ⟨g9, 2, none⟩)) rfl rfl (by kernel_rfl) (by kernel_rfl) (by kernel_rfl) (fun _ _ _ h => h) (Or.inl ⟨by rfl, fun W hW => ?_⟩) hS ?_
        · (go_simp)
        simp only [Act.put]
        refine wpAnyH_all (rs := [9]) (by kernel_rfl) (by simp) ?_
        intro i' hi'
        obtain rfl : i' = 9 := by simpa using hi'
        have hR := kV.heap HR0.out (fun f => f)
        have h7 := kV.heap HZ0.out (fun f => f)
        obtain ⟨p0, p1, p2, pf⟩ := row3_cells hR
        have pf2 := pf 2
        unfold wpOp
        go_simp
        have hE : (V4.setCell ⟨g9, 2, none⟩ (.slice ga (on + 1) gc)).heap[g9]? = some (.cells #[.int .i64 (a : Int), .bool sg, .slice ga (on + 1) gc] 57 (0, 0)) := by
          have := heap_setCell_same V4 g9 2 _ _ (.slice ga (on + 1) gc) hR
          simpa using this
        have KS : Kept (fun i => i = g9) V4 (V4.setCell ⟨g9, 2, none⟩ (.slice ga (on + 1) gc)) := (Kept.setCell _ _ _).mono (fun i e => .inl e)
        have h7 := KS.heap h7 n79
        have oV := (gY.opg HON.out).past KS (fun i e => by have := HLO.out; omega)
        have hS : BgS g9 sg _ := (row3_cells hE).2.1
        first | refine Or.inl ⟨hS, ?_⟩ | refine ⟨hS, ?_⟩ | (change wpAnyH _ _ _ _ _ _ _ _ _) | refine Or.inl ?_
        have kE := (kV.mono (fun _ f => f.elim)).trans KS (fun i e => .inl e)
        clear p0 p1 p2 pf pf2 hR KS
        generalize V4.setCell ⟨g9, 2, none⟩ (.slice ga (on + 1) gc) = VE at *
        refine wpAnyH_done (by kernel_rfl) ?_ _
        have HE := hideL hE
        have H7 := hideL h7
        have HOV := hideL oV
        have KE := hideL kE
        clear hE h7 oV kE gY kV hS
        obtain ⟨c0, c1, c2, cf⟩ := row3_cells HE.out
        have f0 := cf 0
        have f1 := cf 1
        have f2 := cf 2
        obtain ⟨d0, d1, d2, df⟩ := row3_cells H7.out
        have e0 := df 0
        have e1 := df 1
        have e2 := df 2
        clear cf df
        go_wp2_with fail
        have KS2 : Kept (fun i => i = g9) VE ((VE.setCell ⟨g9, 1, none⟩ (.bool false)).setCell ⟨g9, 0, none⟩ (.int .i64 0)) := two_set _ _ _ _ _ _
        have h72 := KS2.heap H7.out n79
        refine bodyPost_ret (results_cellW rfl _ _ _ g7 _ rfl (load_row3 (by exact row3_put h72))) rfl ?_
        exact HP.out ga (on + 1) gc _ (OpG.low ((HOV.out.past KS2 (fun i e => by have := HLO.out; omega)).past row3_keptG (fun i e => by have := HLO.out; omega)) (by have := HLO.out; have := HG9.out; omega)) (((K1.out.trans (by rw [← HVV.out]; exact Kept.drew _ : Kept (fun _ => False) W1 V0) (fun _ f => f.elim)).trans KE.out (fun i e => .inr (by have := HG9.out; omega))).trans KS2 (fun i e => .inr (by have := HG9.out; omega)) |>.trans row3_keptG (fun i e => .inr (by have := HG9.out; have := HGG.out; omega)))
      · obtain ⟨-, p1, p2, -⟩ := row3_cells (kV.heap HR0.out (fun f => f))
        have hS : BgS g9 sg V1 := p1
        unfold wpOp
        go_simp
        first | refine Or.inl ⟨hS, ?_⟩ | refine ⟨hS, ?_⟩ | (change wpAnyH _ _ _ _ _ _ _ _ _) | refine Or.inl ?_
        clear p1 p2
        refine wpAnyH_all (rs := [0]) (by kernel_rfl) (by simp) ?_
        intro i' hi'
        obtain rfl : i' = 0 := by simpa using hi'
        unfold wpOp
        go_simp
        have kA : Kept (fun _ => False) V1 (V1.alloc (.cells #[] 4)) := Kept.alloc _ _
        have hsz : V1.heap.size < (V1.alloc (.cells #[] 4)).heap.size := by simp
        have gE := gro_empty V0 V1 4 1 kV
        have kV := kV.trans kA (fun _ f => f.elim)
        have bS := bS.later kA
        have hS : BgS g9 sg _ := (row3_cells (kV.heap HR0.out (fun f => f))).2.1
        first | refine Or.inl ⟨hS, ?_⟩ | refine ⟨hS, ?_⟩ | (change wpAnyH _ _ _ _ _ _ _ _ _) | refine Or.inl ?_
        obtain ⟨z0, hz0⟩ : ∃ z0, z0 = V1.heap.size := ⟨_, rfl⟩
        rw [← hz0] at gE ⊢
        have hzz : ¬ z0 = z1 := by omega
        clear hz0
        clear hsz kA
        generalize V1.alloc (.cells #[] 4) = V2 at *
        refine wpAnyH_all (rs := [3]) (by kernel_rfl) (by simp) ?_
        intro i' hi'
        obtain rfl : i' = 3 := by simpa using hi'
        refine wpOp_inL rfl rfl ?_
        refine wp_catB (w0 := V0) (.tmp 27) (.tmp 29) rfl (.slice (some ⟨z0, 0, none⟩) 0 0) 0 [] rfl gE oa on oc rfl op HOL.out (HOB.out.later kV) (by omega) on (Nat.zero_add _) ?_
        intro va vc V3 gT kT
        have kV := gT.kept
        have bS := bS.past kT (fun e => hzz (by simp [Value.ownBlock] at e; exact e))
        have hS : BgS g9 sg _ := (row3_cells (kV.heap HR0.out (fun f => f))).2.1
        refine ⟨hS, ?_⟩
        simp only [Act.put]
        try simp only [List.setIfInBounds_toArray]
        clear gE kT
        refine wpAnyH_all (rs := [7]) (by kernel_rfl) (by simp) ?_
        intro i' hi'
        obtain rfl : i' = 7 := by simpa using hi'
        refine wpOp_inL rfl rfl ?_
        refine wp_catB (w0 := V0) (.tmp 30) (.tmp 33) rfl (.slice va on vc) on ([] ++ op) rfl gT (some ⟨z1, 0, none⟩) 1 1 rfl [sg] rfl bS (by omega) (on + 1) rfl ?_
        intro ga gc V4 gY kY
        have kV := gY.kept
        have hS : BgS g9 sg _ := (row3_cells (kV.heap HR0.out (fun f => f))).2.1
        refine ⟨hS, ?_⟩
        simp only [Act.put]
        try simp only [List.setIfInBounds_toArray]
        clear gT kY bS
        refine takeZ (i := 8) (d := 35) (v := .pointer (some ⟨g9, 2, none⟩)) rfl rfl (by kernel_rfl) (by kernel_rfl) (by kernel_rfl) (fun _ _ _ h => h) (Or.inl ⟨by rfl, fun W hW => ?_⟩) hS ?_
        · (go_simp)
        simp only [Act.put]
        refine wpAnyH_all (rs := [9]) (by kernel_rfl) (by simp) ?_
        intro i' hi'
        obtain rfl : i' = 9 := by simpa using hi'
        have hR := kV.heap HR0.out (fun f => f)
        have h7 := kV.heap HZ0.out (fun f => f)
        obtain ⟨p0, p1, p2, pf⟩ := row3_cells hR
        have pf2 := pf 2
        unfold wpOp
        go_simp
        have hE : (V4.setCell ⟨g9, 2, none⟩ (.slice ga (on + 1) gc)).heap[g9]? = some (.cells #[.int .i64 (a : Int), .bool sg, .slice ga (on + 1) gc] 57 (0, 0)) := by
          have := heap_setCell_same V4 g9 2 _ _ (.slice ga (on + 1) gc) hR
          simpa using this
        have KS : Kept (fun i => i = g9) V4 (V4.setCell ⟨g9, 2, none⟩ (.slice ga (on + 1) gc)) := (Kept.setCell _ _ _).mono (fun i e => .inl e)
        have h7 := KS.heap h7 n79
        have oV := (gY.opg HON.out).past KS (fun i e => by have := HLO.out; omega)
        have hS : BgS g9 sg _ := (row3_cells hE).2.1
        first | refine Or.inl ⟨hS, ?_⟩ | refine ⟨hS, ?_⟩ | (change wpAnyH _ _ _ _ _ _ _ _ _) | refine Or.inl ?_
        have kE := (kV.mono (fun _ f => f.elim)).trans KS (fun i e => .inl e)
        clear p0 p1 p2 pf pf2 hR KS
        generalize V4.setCell ⟨g9, 2, none⟩ (.slice ga (on + 1) gc) = VE at *
        refine wpAnyH_done (by kernel_rfl) ?_ _
        have HE := hideL hE
        have H7 := hideL h7
        have HOV := hideL oV
        have KE := hideL kE
        clear hE h7 oV kE gY kV hS
        obtain ⟨c0, c1, c2, cf⟩ := row3_cells HE.out
        have f0 := cf 0
        have f1 := cf 1
        have f2 := cf 2
        obtain ⟨d0, d1, d2, df⟩ := row3_cells H7.out
        have e0 := df 0
        have e1 := df 1
        have e2 := df 2
        clear cf df
        go_wp2_with fail
        have KS2 : Kept (fun i => i = g9) VE ((VE.setCell ⟨g9, 1, none⟩ (.bool false)).setCell ⟨g9, 0, none⟩ (.int .i64 0)) := two_set _ _ _ _ _ _
        have h72 := KS2.heap H7.out n79
        refine bodyPost_ret (results_cellW rfl _ _ _ g7 _ rfl (load_row3 (by exact row3_put h72))) rfl ?_
        exact HP.out ga (on + 1) gc _ (OpG.low ((HOV.out.past KS2 (fun i e => by have := HLO.out; omega)).past row3_keptG (fun i e => by have := HLO.out; omega)) (by have := HLO.out; have := HG9.out; omega)) (((K1.out.trans (by rw [← HVV.out]; exact Kept.drew _ : Kept (fun _ => False) W1 V0) (fun _ f => f.elim)).trans KE.out (fun i e => .inr (by have := HG9.out; omega))).trans KS2 (fun i e => .inr (by have := HG9.out; omega)) |>.trans row3_keptG (fun i e => .inr (by have := HG9.out; have := HGG.out; omega)))
end Go.Proofs.YtiemiphlfbaojaaDoor
namespace Go.Proofs.YtiemiphlfbaojaaDoor
open Go.ChangeShapes Go.WideShapes Go.ChangeAt Go.RowKit
variable {w : World}
/-- What a function of a row answers: the row's open groups are those that came in, or new. -/
def rwPost (w : World) (v0 : Value) (op0 : List Bool) (y : Tn) (x : Option Rs) (e : Ending) (w' : World) : Prop :=
  Kept (fun _ => False) w w' ∧ ((x = none ∧ ∃ (a : Int) (sg : Bool) (va : Option Addr) (vn vc : Nat), e = .returned (.tuple #[.agg #[.int .i64 a, .bool sg, .slice va vn vc], .bool false])) ∨ (∃ (q : Rs) (va : Option Addr) (vn vc : Nat), x = some q ∧ e = .returned (.tuple #[.agg #[.int .i64 (q.at' : Int), .bool q.sg, .slice va vn vc], .bool true]) ∧ ((.slice va vn vc = v0 ∧ q.op = op0) ∨ OpG w' (.slice va vn vc) q.op w.heap.size) ∧ (isK 8 y = false → isK 9 y = false → .slice va vn vc = v0 ∧ q.op = op0)))
theorem rw_form {w WB W1 : World} {v0 : Value} {op0 : List Bool} {y : Tn} {x : Option Rs} {e : Ending} (b2 : Nat) (h : rwPost WB v0 op0 y x e W1) (K : Kept (fun _ => False) w WB) (hb : w.heap.size ≤ b2) (hb2 : b2 < WB.heap.size) :
    ∃ (a : Int) (sg : Bool) (va : Option Addr) (vn vc : Nat) (B : Bool), e = .returned (.tuple #[.agg #[.int .i64 a, .bool sg, .slice va vn vc], .bool B]) ∧ Kept (fun _ => False) WB W1 ∧ ∀ W2, Kept (fun i => i = b2) W1 W2 → rwPost w v0 op0 y x (.returned (.tuple #[.agg #[.int .i64 a, .bool sg, .slice va vn vc], .bool B])) W2 := by
  obtain ⟨hk, h⟩ := h
  have K2 : ∀ W2, Kept (fun i => i = b2) W1 W2 → Kept (fun _ => False) w W2 := fun W2 k2 => (K.trans hk (fun _ f => f.elim)).trans k2 (fun i e => .inr (by omega))
  rcases h with ⟨hx, a, sg, va, vn, vc, rfl⟩ | ⟨q, va, vn, vc, hx, rfl, ho, hv⟩
  · exact ⟨a, sg, va, vn, vc, false, rfl, hk, fun W2 k2 => ⟨K2 W2 k2, .inl ⟨hx, a, sg, va, vn, vc, rfl⟩⟩⟩
  · refine ⟨_, _, va, vn, vc, true, rfl, hk, fun W2 k2 => ⟨K2 W2 k2, .inr ⟨q, va, vn, vc, hx, rfl, ?_, hv⟩⟩⟩
    rcases ho with ho | ho
    · exact .inl ho
    · exact .inr ((ho.past k2 (fun i e => by omega)).low K.size)
theorem rw_same {w w' : World} {v0 : Value} {op0 : List Bool} {y : Tn} {a : Nat} {sg : Bool} {va : Option Addr} {vn vc : Nat} (k : Kept (fun _ => False) w w') (hv : .slice va vn vc = v0) : rwPost w v0 op0 y (some ⟨a, sg, op0⟩) (.returned (.tuple #[.agg #[.int .i64 (a : Int), .bool sg, .slice va vn vc], .bool true])) w' :=
  ⟨k, .inr ⟨⟨a, sg, op0⟩, va, vn, vc, rfl, rfl, .inl ⟨hv, rfl⟩, fun _ _ => ⟨hv, rfl⟩⟩⟩
theorem rw_none {w w' : World} {v0 : Value} {op0 : List Bool} {y : Tn} {a : Int} {sg : Bool} {va : Option Addr} {vn vc : Nat} (k : Kept (fun _ => False) w w') : rwPost w v0 op0 y none (.returned (.tuple #[.agg #[.int .i64 a, .bool sg, .slice va vn vc], .bool false])) w' :=
  ⟨k, .inl ⟨rfl, a, sg, va, vn, vc, rfl⟩⟩
theorem begun_any (r : Rs) (y : Tn) (oa : Option Addr) (on oc : Nat) (fld : Bool) (w : World) (hO : OpV w (.slice oa on oc) r.op) (hb : on ≤ 1000000000000) : Calls Tryd.prog 39 #[.agg #[.int .i64 (r.at' : Int), .bool r.sg, .slice oa on oc], .agg (lxC y), .bool fld] w (rwPost w (.slice oa on oc) r.op y (begunF r y fld)) := by
  cases h6 : (isK 6 y && !fld) with
  | true =>
    refine (begun_not r y oa on oc fld w h6).mono ?_
    rintro e w' ⟨rfl, k⟩
    have e1 : begunF r y fld = some ⟨1, r.sg, r.op⟩ := by unfold begunF; rw [h6]; rfl
    rw [e1]
    exact rw_same k rfl
  | false =>
    have e1 : begunF r y fld = (atomF y fld).map (fun a => if isK 8 y then ⟨a, false, r.op ++ [r.sg]⟩ else ⟨a, r.sg, r.op⟩) := by unfold begunF; rw [h6]; rfl
    cases hat : atomF y fld with
    | none =>
      refine (begun_none r y oa on oc fld w h6 hat).mono ?_
      rintro e w' ⟨rfl, k⟩
      rw [e1, hat]
      exact rw_none k
    | some z =>
      cases h8 : isK 8 y with
      | false =>
        refine (begun_plain r y oa on oc fld w h6 z hat h8).mono ?_
        rintro e w' ⟨rfl, k⟩
        rw [e1, hat, h8]
        exact rw_same k rfl
      | true =>
        have hz : z = 0 := by
          unfold atomF at hat
          rw [isK_otherW h8 (j := 1) (by decide), isK_otherW h8 (j := 2) (by decide), isK_otherW h8 (j := 3) (by decide), h8] at hat
          exact (Option.some.inj hat).symm
        subst hz
        refine (begun_open r y oa on oc fld w h8 hO hb).mono ?_
        rintro e w' ⟨ga, gn, gc, rfl, ho, k⟩
        rw [e1, hat, h8]
        exact ⟨k, .inr ⟨⟨0, false, r.op ++ [r.sg]⟩, ga, gn, gc, rfl, rfl, .inr ho, fun q _ => by (rw [h8] at q; cases q)⟩⟩
set_option maxRecDepth 20000 in
set_option maxHeartbeats 4000000 in
theorem clauseR_any (r : Rs) (y : Tn) (oa : Option Addr) (on oc : Nat) (w : World) (hO : OpV w (.slice oa on oc) r.op) (hb : on ≤ 1000000000000) : Calls Tryd.prog 38 #[.agg #[.int .i64 (r.at' : Int), .bool r.sg, .slice oa on oc], .agg (lxC y)] w (rwPost w (.slice oa on oc) r.op y (clauseF r y)) := by
  cases hs : (isK 15 y || isK 16 y) with
  | true =>
    have e1 : clauseF r y = some ⟨1, true, r.op⟩ := by unfold clauseF; rw [hs]; rfl
    rw [e1]
    have HP : Hid (∀ w', Kept (fun _ => False) w w' → rwPost w (.slice oa on oc) r.op y (some ⟨1, true, r.op⟩) (.returned (.tuple #[.agg #[.int .i64 1, .bool true, .slice oa on oc], .bool true])) w') := hideL (fun w' k => rw_same k rfl)
    generalize rwPost w (.slice oa on oc) r.op y (some ⟨1, true, r.op⟩) = QQ at *
    have b15 : isK 15 y = (y.k == 15) := rfl
    have b16 : isK 16 y = (y.k == 16) := rfl
    obtain ⟨k, t, n, ya, e⟩ := y
    obtain ⟨a, sg, op⟩ := r
    unfold lxC at *
    dsimp only at *
    rw [b15, b16] at hs
    clear b15 b16 hO hb e1
    cases q15 : (k == 15)
    · rw [q15] at hs
      have q16 : (k == 16) = true := hs
      clear hs
      go_enter Tryd.func38, Tryd.ntmps38
      go_wp2_with fail
      refine bodyPost_ret (results_cellW rfl _ _ _ (w.heap.size + 1 + 1) _ rfl (load_row3 (by exact (boxes3 w _ _ _ _ _ _).2.2.2.1))) rfl ?_
      exact HP.out _ (boxes3 w _ _ _ _ _ _).1
    · clear hs
      go_enter Tryd.func38, Tryd.ntmps38
      go_wp2_with fail
      refine bodyPost_ret (results_cellW rfl _ _ _ (w.heap.size + 1 + 1) _ rfl (load_row3 (by exact (boxes3 w _ _ _ _ _ _).2.2.2.1))) rfl ?_
      exact HP.out _ (boxes3 w _ _ _ _ _ _).1
  | false =>
    have e1 : clauseF r y = begunF ⟨r.at', false, r.op⟩ y false := by unfold clauseF; rw [hs]; rfl
    rw [e1]
    have CB := hideL (fun W (hW : OpV W (.slice oa on oc) r.op) => begun_any ⟨r.at', false, r.op⟩ y oa on oc false W hW hb)
    have b15 : isK 15 y = (y.k == 15) := rfl
    have b16 : isK 16 y = (y.k == 16) := rfl
    rw [Bool.or_eq_false_iff] at hs
    rw [b15, b16] at hs
    obtain ⟨q15, q16⟩ := hs
    generalize hX : begunF ⟨r.at', false, r.op⟩ y false = X at *
    have HF := hideL (fun (WB W1 : World) (e : Ending) (b2 : Nat) (h : rwPost WB (.slice oa on oc) r.op y X e W1) (K : Kept (fun _ => False) w WB) h1 h2 => rw_form (w := w) b2 h K h1 h2)
    generalize rwPost w (.slice oa on oc) r.op y X = QQ at *
    have HO := hideL hO
    obtain ⟨k, t, n, ya, e⟩ := y
    obtain ⟨a, sg, op⟩ := r
    unfold lxC at *
    dsimp only at *
    obtain ⟨KB, -, -, h2, hz⟩ := boxes3 w #[.int .i64 (a : Int), .bool false, .slice oa on oc] #[.int .i64 k, .string t, .int .i64 n, .int .i64 ya, .int .i64 e] #[.int .i64 0, .bool false, .slice none 0 0] 57 59 57
    have HKB := hideL KB
    have H2 := hideL h2
    have HZ := hideL hz
    clear b15 b16 e1 hX hO hb KB h2 hz
    go_enter Tryd.func38, Tryd.ntmps38
    go_wp2_with (go_at_call 39; refine Stp13.go ?_)
    generalize ((w.alloc (.cells #[.int .i64 (a : Int), .bool false, .slice oa on oc] 57)).alloc (.cells #[.int .i64 k, .string t, .int .i64 n, .int .i64 ya, .int .i64 e] 59)).alloc (.cells #[.int .i64 0, .bool false, .slice none 0 0] 57) = WB at *
    refine ⟨?_⟩
    refine (CB.out WB (HO.out.later HKB.out)).mono ?_
    intro x W1 h
    obtain ⟨a9, sg9, va, vn, vc, B, rfl, k1, hQ⟩ := HF.out _ _ _ (w.heap.size + 2) h HKB.out (by omega) (by have := HZ.out; omega)
    have HQ := hideL hQ
    have G2 := hideL (k1.heap H2.out (fun f => f))
    clear h hQ k1 CB HF H2 HZ HKB HO
    generalize w.heap.size + 1 + 1 = g7 at *
    obtain ⟨d0, d1, d2, df⟩ := row3_cells G2.out
    have e0 := df 0
    have e1 := df 1
    have e2 := df 2
    clear df
    go_wp2_with fail
    refine bodyPost_ret (results_cellW rfl _ _ _ g7 _ rfl (load_row3 (by exact row3_put G2.out))) rfl ?_
    exact HQ.out _ row3_keptG
end Go.Proofs.YtiemiphlfbaojaaDoor
namespace Go.Proofs.YtiemiphlfbaojaaDoor
open Go.ChangeShapes Go.WideShapes Go.ChangeAt Go.RowKit
variable {w : World}
theorem kq {y : Tn} {k : Nat} (b : Bool) (h : isK k y = b) : (y.k == (k : Int)) = b := h
set_option maxRecDepth 20000 in
set_option maxHeartbeats 4000000 in
theorem behind_boost (r : Rs) (y : Tn) (oa : Option Addr) (on oc : Nat) (w : World) (h : (isK 18 y || isK 19 y) = true) : Calls Tryd.prog 42 #[.agg #[.int .i64 (r.at' : Int), .bool r.sg, .slice oa on oc], .agg (lxC y)] w (rwPost w (.slice oa on oc) r.op y (behindF r y)) := by
  have e1 : behindF r y = some ⟨9, r.sg, r.op⟩ := by unfold behindF; rw [h]; rfl
  rw [e1]
  have HP : Hid (∀ w', Kept (fun _ => False) w w' → rwPost w (.slice oa on oc) r.op y (some ⟨9, r.sg, r.op⟩) (.returned (.tuple #[.agg #[.int .i64 9, .bool r.sg, .slice oa on oc], .bool true])) w') := hideL (fun w' k => rw_same k rfl)
  generalize rwPost w (.slice oa on oc) r.op y (some ⟨9, r.sg, r.op⟩) = QQ at *
  cases q18 : isK 18 y
  · rw [q18] at h
    have b18 : (y.k == 18) = false := kq _ q18
    have b19 : (y.k == 19) = true := kq (k := 19) _ h
    clear q18 h e1
    obtain ⟨k, t, n, ya, e⟩ := y
    obtain ⟨a, sg, op⟩ := r
    unfold lxC at *
    dsimp only at *
    go_enter Tryd.func42, Tryd.ntmps42
    go_wp2_with fail
    refine bodyPost_ret (results_cellW rfl _ _ _ (w.heap.size + 1 + 1) _ rfl (load_row3 (by exact (boxes3 w _ _ _ _ _ _).2.2.2.1))) rfl ?_
    exact HP.out _ (boxes3 w _ _ _ _ _ _).1
  · have b18 : (y.k == 18) = true := kq _ q18
    clear q18 h e1
    obtain ⟨k, t, n, ya, e⟩ := y
    obtain ⟨a, sg, op⟩ := r
    unfold lxC at *
    dsimp only at *
    go_enter Tryd.func42, Tryd.ntmps42
    go_wp2_with fail
    refine bodyPost_ret (results_cellW rfl _ _ _ (w.heap.size + 1 + 1) _ rfl (load_row3 (by exact (boxes3 w _ _ _ _ _ _).2.2.2.1))) rfl ?_
    exact HP.out _ (boxes3 w _ _ _ _ _ _).1
set_option maxRecDepth 20000 in
set_option maxHeartbeats 4000000 in
theorem behind_join (r : Rs) (y : Tn) (oa : Option Addr) (on oc : Nat) (w : World) (j : Nat) (hj : j = 4 ∨ j = 5 ∨ j = 17) (h : isK j y = true) : Calls Tryd.prog 42 #[.agg #[.int .i64 (r.at' : Int), .bool r.sg, .slice oa on oc], .agg (lxC y)] w (rwPost w (.slice oa on oc) r.op y (behindF r y)) := by
  have n : ∀ i, i ≠ j → isK i y = false := fun i hi => isK_otherW h hi
  have e1 : behindF r y = if r.sg then none else some ⟨1, r.sg, r.op⟩ := by
    unfold behindF
    rw [n 18 (by omega), n 19 (by omega)]
    have : (isK 4 y || isK 5 y || isK 17 y) = true := by rcases hj with rfl | rfl | rfl <;> rw [h] <;> simp
    rw [this]
    rfl
  rw [e1]
  have b18 : (y.k == 18) = false := kq _ (n 18 (by omega))
  have b19 : (y.k == 19) = false := kq _ (n 19 (by omega))
  have b4 : (y.k == 4) = decide (j = 4) := by rcases hj with rfl | rfl | rfl <;> first | exact kq _ h | exact kq _ (n 4 (by omega))
  have b5 : (y.k == 5) = decide (j = 5) := by rcases hj with rfl | rfl | rfl <;> first | exact kq _ h | exact kq _ (n 5 (by omega))
  have b17 : (y.k == 17) = decide (j = 17) := by rcases hj with rfl | rfl | rfl <;> first | exact kq _ h | exact kq _ (n 17 (by omega))
  have HPN : Hid (∀ w', Kept (fun _ => False) w w' → rwPost w (.slice oa on oc) r.op y none (.returned (.tuple #[.agg #[.int .i64 1, .bool true, .slice oa on oc], .bool false])) w') := hideL (fun w' k => rw_none k)
  have HPS : Hid (∀ w', Kept (fun _ => False) w w' → rwPost w (.slice oa on oc) r.op y (some ⟨1, false, r.op⟩) (.returned (.tuple #[.agg #[.int .i64 1, .bool false, .slice oa on oc], .bool true])) w') := hideL (fun w' k => rw_same k rfl)
  cases hsg : r.sg
  all_goals
    rw [hsg] at *
    first | rw [if_pos rfl] | rw [if_neg (by decide)]
    generalize rwPost w (.slice oa on oc) r.op y = QQ at *
    clear n e1 h
    rcases hj with rfl | rfl | rfl
    all_goals
      simp only [decide_true, decide_false, Nat.reduceEqDiff] at b4 b5 b17
      obtain ⟨k, t, n, ya, e⟩ := y
      obtain ⟨a, sg, op⟩ := r
      unfold lxC at *
      dsimp only at *
      clear hsg
      go_enter Tryd.func42, Tryd.ntmps42
      go_wp2_with fail
      go_region
      go_wp2_with fail
      refine bodyPost_ret (results_cellW rfl _ _ _ (w.heap.size + 1 + 1) _ rfl (load_row3 (by exact (Kept.drew _).heap (boxes3 w _ _ _ _ _ _).2.2.2.1 (fun f => f)))) rfl ?_
      first | exact HPN.out _ ((boxes3 w _ _ _ _ _ _).1.trans (Kept.drew _) (fun _ f => f.elim)) | exact HPS.out _ ((boxes3 w _ _ _ _ _ _).1.trans (Kept.drew _) (fun _ f => f.elim))
set_option maxRecDepth 20000 in
set_option maxHeartbeats 4000000 in
theorem behind_end (r : Rs) (y : Tn) (oa : Option Addr) (on oc : Nat) (w : World) (hO : OpV w (.slice oa on oc) r.op) (h : isK 0 y = true) : Calls Tryd.prog 42 #[.agg #[.int .i64 (r.at' : Int), .bool r.sg, .slice oa on oc], .agg (lxC y)] w (rwPost w (.slice oa on oc) r.op y (behindF r y)) := by
  have n : ∀ i, i ≠ 0 → isK i y = false := fun i hi => isK_otherW h hi
  have e1 : behindF r y = if r.op.isEmpty then some ⟨14, r.sg, r.op⟩ else none := by
    unfold behindF
    rw [n 18 (by omega), n 19 (by omega), n 4 (by omega), n 5 (by omega), n 17 (by omega), n 9 (by omega), h]
    rfl
  rw [e1]
  have b18 : (y.k == 18) = false := kq _ (n 18 (by omega))
  have b19 : (y.k == 19) = false := kq _ (n 19 (by omega))
  have b4 : (y.k == 4) = false := kq _ (n 4 (by omega))
  have b5 : (y.k == 5) = false := kq _ (n 5 (by omega))
  have b17 : (y.k == 17) = false := kq _ (n 17 (by omega))
  have b9 : (y.k == 9) = false := kq _ (n 9 (by omega))
  have b0 : (y.k == 0) = true := kq (k := 0) _ h
  obtain ⟨-, hon, -⟩ := hO.bools
  have HPN : Hid (∀ w', Kept (fun _ => False) w w' → rwPost w (.slice oa on oc) r.op y none (.returned (.tuple #[.agg #[.int .i64 14, .bool r.sg, .slice oa on oc], .bool false])) w') := hideL (fun w' k => rw_none k)
  have HPS : Hid (∀ w', Kept (fun _ => False) w w' → rwPost w (.slice oa on oc) r.op y (some ⟨14, r.sg, r.op⟩) (.returned (.tuple #[.agg #[.int .i64 14, .bool r.sg, .slice oa on oc], .bool true])) w') := hideL (fun w' k => rw_same k rfl)
  have hz : ((on : Int) == 0) = r.op.isEmpty := by
    cases ho : r.op with
    | nil => rw [ho] at hon; rw [hon]; rfl
    | cons b l => rw [ho] at hon; simp only [List.length_cons] at hon; simp only [List.isEmpty_cons, beq_eq_false_iff_ne]; omega
  cases hem : r.op.isEmpty
  all_goals
    rw [hem] at hz
    first | rw [if_pos rfl] | rw [if_neg (by decide)]
    generalize rwPost w (.slice oa on oc) r.op y = QQ at *
    clear n e1 h hO hon hem
    obtain ⟨k, t, n, ya, e⟩ := y
    obtain ⟨a, sg, op⟩ := r
    unfold lxC at *
    dsimp only at *
    go_enter Tryd.func42, Tryd.ntmps42
    go_wp2_with fail
    go_region
    go_wp2_with fail
    refine bodyPost_ret (results_cellW rfl _ _ _ (w.heap.size + 1 + 1) _ rfl (load_row3 (by exact (Kept.drew _).heap (boxes3 w _ _ _ _ _ _).2.2.2.1 (fun f => f)))) rfl ?_
    first | exact HPN.out _ ((boxes3 w _ _ _ _ _ _).1.trans (Kept.drew _) (fun _ f => f.elim)) | exact HPS.out _ ((boxes3 w _ _ _ _ _ _).1.trans (Kept.drew _) (fun _ f => f.elim))
set_option maxRecDepth 20000 in
set_option maxHeartbeats 4000000 in
theorem behind_clause (r : Rs) (y : Tn) (oa : Option Addr) (on oc : Nat) (w : World) (hO : OpV w (.slice oa on oc) r.op) (hb : on ≤ 1000000000000) (h18 : isK 18 y = false) (h19 : isK 19 y = false) (h4 : isK 4 y = false) (h5 : isK 5 y = false) (h17 : isK 17 y = false) (h9 : isK 9 y = false) (h0 : isK 0 y = false) : Calls Tryd.prog 42 #[.agg #[.int .i64 (r.at' : Int), .bool r.sg, .slice oa on oc], .agg (lxC y)] w (rwPost w (.slice oa on oc) r.op y (behindF r y)) := by
  have e1 : behindF r y = clauseF r y := by
    unfold behindF
    rw [h18, h19, h4, h5, h17, h9, h0]
    rfl
  rw [e1]
  have b18 : (y.k == 18) = false := kq _ h18
  have b19 : (y.k == 19) = false := kq _ h19
  have b4 : (y.k == 4) = false := kq _ h4
  have b5 : (y.k == 5) = false := kq _ h5
  have b17 : (y.k == 17) = false := kq _ h17
  have b9 : (y.k == 9) = false := kq _ h9
  have b0 : (y.k == 0) = false := kq (k := 0) _ h0
  have CB := hideL (fun W (hW : OpV W (.slice oa on oc) r.op) => clauseR_any r y oa on oc W hW hb)
  generalize hX : clauseF r y = X at *
  have HF := hideL (fun (WB W1 : World) (e : Ending) (b2 : Nat) (h : rwPost WB (.slice oa on oc) r.op y X e W1) (K : Kept (fun _ => False) w WB) h1 h2 => rw_form (w := w) b2 h K h1 h2)
  generalize rwPost w (.slice oa on oc) r.op y X = QQ at *
  have HO := hideL hO
  obtain ⟨k, t, n, ya, e⟩ := y
  obtain ⟨a, sg, op⟩ := r
  unfold lxC at *
  dsimp only at *
  obtain ⟨KB, -, -, h2, hz⟩ := boxes3 w #[.int .i64 (a : Int), .bool sg, .slice oa on oc] #[.int .i64 k, .string t, .int .i64 n, .int .i64 ya, .int .i64 e] #[.int .i64 0, .bool false, .slice none 0 0] 57 59 57
  have HKB := hideL KB
  have H2 := hideL h2
  have HZ := hideL hz
  clear e1 h18 h19 h4 h5 h17 h9 h0 hX hO hb KB h2 hz
  go_enter Tryd.func42, Tryd.ntmps42
  go_wp2_with (go_at_call 38; refine Stp13.go ?_)
  generalize ((w.alloc (.cells #[.int .i64 (a : Int), .bool sg, .slice oa on oc] 57)).alloc (.cells #[.int .i64 k, .string t, .int .i64 n, .int .i64 ya, .int .i64 e] 59)).alloc (.cells #[.int .i64 0, .bool false, .slice none 0 0] 57) = WB at *
  refine ⟨?_⟩
  refine (CB.out WB (HO.out.later HKB.out)).mono ?_
  intro x W1 h
  obtain ⟨a9, sg9, va, vn, vc, B, rfl, k1, hQ⟩ := HF.out _ _ _ (w.heap.size + 2) h HKB.out (by omega) (by have := HZ.out; omega)
  have HQ := hideL hQ
  have G2 := hideL (k1.heap H2.out (fun f => f))
  clear h hQ k1 CB HF H2 HZ HKB HO
  generalize w.heap.size + 1 + 1 = g7 at *
  obtain ⟨d0, d1, d2, df⟩ := row3_cells G2.out
  have e0 := df 0
  have e1 := df 1
  have e2 := df 2
  clear df
  go_wp2_with fail
  refine bodyPost_ret (results_cellW rfl _ _ _ g7 _ rfl (load_row3 (by exact row3_put G2.out))) rfl ?_
  exact HQ.out _ row3_keptG
theorem wpList_catB {w0 W : World} {ops : Array Oper} {rest : List Oper} {o : Oper} {act : Act} {Q : Exit → Act → World → Prop} (hgd : o.guard = none) (s x : Operand)
    (ho : o.op = .call { callee := .builtin .append, args := #[s, x], argTypes := #[55, 55] })
    (v : Value) (n : Nat) (xs : List Bool) (hs : act.eval s = v) (hG : Gro w0 W 4 1 v n (bv xs)) (a : Option Addr) (m c : Nat) (hx : act.eval x = .slice a m c) (ys : List Bool) (hm : m = ys.length) (hI : BoolsAt W a ys) (hb : n + m ≤ 1099511627776) (N : Nat) (hN : n + m = N)
    (h : ∀ (va : Option Addr) (vc : Nat) W', Gro w0 W' 4 1 (.slice va N vc) N (bv (xs ++ ys)) → Kept (fun i => v.ownBlock = some i) W W' → wpList Tryd.prog ops Q rest (act.put o.dst (.slice va N vc)) W') : wpList Tryd.prog ops Q (o :: rest) act W :=
  wpList_plain hgd fun _ hK => wp_catB s x ho v n xs hs hG a m c hx ys hm hI hb N hN fun va vc W' h1 h2 => hK _ _ (h va vc W' h1 h2)
set_option maxRecDepth 20000 in
set_option maxHeartbeats 4000000 in
theorem behind_close0 (r : Rs) (y : Tn) (oa : Option Addr) (on oc : Nat) (w : World) (hO : OpV w (.slice oa on oc) r.op) (h : isK 9 y = true) (he : r.op.isEmpty = true) : Calls Tryd.prog 42 #[.agg #[.int .i64 (r.at' : Int), .bool r.sg, .slice oa on oc], .agg (lxC y)] w (rwPost w (.slice oa on oc) r.op y (behindF r y)) := by
  have n : ∀ i, i ≠ 9 → isK i y = false := fun i hi => isK_otherW h hi
  have e1 : behindF r y = none := by
    unfold behindF
    rw [n 18 (by omega), n 19 (by omega), n 4 (by omega), n 5 (by omega), n 17 (by omega), h, he]
    rfl
  rw [e1]
  have b18 : (y.k == 18) = false := kq _ (n 18 (by omega))
  have b19 : (y.k == 19) = false := kq _ (n 19 (by omega))
  have b4 : (y.k == 4) = false := kq _ (n 4 (by omega))
  have b5 : (y.k == 5) = false := kq _ (n 5 (by omega))
  have b17 : (y.k == 17) = false := kq _ (n 17 (by omega))
  have b9 : (y.k == 9) = true := kq (k := 9) _ h
  obtain ⟨-, hon, -⟩ := hO.bools
  obtain rfl : on = 0 := by rw [hon, List.isEmpty_iff.1 he]; rfl
  have HPN : Hid (∀ w', Kept (fun _ => False) w w' → rwPost w (.slice oa 0 oc) r.op y none (.returned (.tuple #[.agg #[.int .i64 (r.at' : Int), .bool r.sg, .slice oa 0 oc], .bool false])) w') := hideL (fun w' k => rw_none k)
  generalize rwPost w (.slice oa 0 oc) r.op y = QQ at *
  clear n e1 h hO hon he
  obtain ⟨k, t, n, ya, e⟩ := y
  obtain ⟨a, sg, op⟩ := r
  unfold lxC at *
  dsimp only at *
  go_enter Tryd.func42, Tryd.ntmps42
  go_wp2_with fail
  refine bodyPost_ret (results_cellW rfl _ _ _ (w.heap.size + 1 + 1) _ rfl (load_row3 (by exact (boxes3 w _ _ _ _ _ _).2.2.2.1))) rfl ?_
  exact HPN.out _ (boxes3 w _ _ _ _ _ _).1
end Go.Proofs.YtiemiphlfbaojaaDoor
namespace Go.Proofs.YtiemiphlfbaojaaDoor
open Go.ChangeShapes Go.WideShapes Go.ChangeAt Go.RowKit
variable {w : World}
theorem last_of {op : List Bool} (h : op.isEmpty = false) : ∃ i b, op = i ++ [b] := by
  cases op with
  | nil => cases h
  | cons x l => exact ⟨_, _, (List.dropLast_concat_getLast (List.cons_ne_nil x l)).symm⟩
set_option maxRecDepth 20000 in
set_option maxHeartbeats 4000000 in
theorem behind_close1 (a : Nat) (sg b : Bool) (init : List Bool) (y : Tn) (g o m oc : Nat) (w : World) (hm : m = init.length) (hc : m + 1 ≤ oc) (hO : BoolsAt w (some ⟨g, o, none⟩) (init ++ [b])) (hb : m ≤ 1000000000000) (h : isK 9 y = true) :
    Calls Tryd.prog 42 #[.agg #[.int .i64 (a : Int), .bool sg, .slice (some ⟨g, o, none⟩) (m + 1) oc], .agg (lxC y)] w (rwPost w (.slice (some ⟨g, o, none⟩) (m + 1) oc) (init ++ [b]) y (some ⟨8, b, init⟩)) := by
  have nk : ∀ i, i ≠ 9 → isK i y = false := fun i hi => isK_otherW h hi
  have b18 : (y.k == 18) = false := kq _ (nk 18 (by omega))
  have b19 : (y.k == 19) = false := kq _ (nk 19 (by omega))
  have b4 : (y.k == 4) = false := kq _ (nk 4 (by omega))
  have b5 : (y.k == 5) = false := kq _ (nk 5 (by omega))
  have b17 : (y.k == 17) = false := kq _ (nk 17 (by omega))
  have b9 : (y.k == 9) = true := kq (k := 9) _ h
  have HP : Hid (∀ va vc w', OpG w' (.slice va m vc) init w.heap.size → Kept (fun _ => False) w w' → rwPost w (.slice (some ⟨g, o, none⟩) (m + 1) oc) (init ++ [b]) y (some ⟨8, b, init⟩) (.returned (.tuple #[.agg #[.int .i64 8, .bool b, .slice va m vc], .bool true])) w') := hideL (fun va vc w' x z => ⟨z, .inr ⟨_, va, m, vc, rfl, rfl, .inr x, fun _ q => by (rw [h] at q; cases q)⟩⟩)
  generalize rwPost w (.slice (some ⟨g, o, none⟩) (m + 1) oc) (init ++ [b]) y (some ⟨8, b, init⟩) = QQ at *
  obtain ⟨g', o', eg, hcell⟩ := hO (by simp)
  injection eg with eg
  injection eg with eg1 eg2 _
  subst eg1 eg2
  have hlast := hcell m b (by rw [hm]; simp)
  have hinit : BoolsAt w (some ⟨g, o, none⟩) init := fun _ => ⟨g, o, rfl, fun j c hj => hcell j c (by rw [List.getElem?_append_left ((List.getElem?_eq_some_iff.1 hj).1)]; exact hj)⟩
  have HM := hideL hm
  have HI := hideL hinit
  obtain ⟨k, t, n, ya, e⟩ := y
  unfold lxC at *
  dsimp only at *
  have kb1 := (boxes3 w #[.int .i64 (a : Int), .bool sg, .slice (some ⟨g, o, none⟩) (m + 1) oc] #[.int .i64 k, .string t, .int .i64 n, .int .i64 ya, .int .i64 e] #[.int .i64 0, .bool false, .slice none 0 0] 57 59 57).1
  obtain ⟨kb2, h0, -, h2, hz⟩ := boxes3 w #[.int .i64 (a : Int), .bool b, .slice (some ⟨g, o, none⟩) (m + 1) oc] #[.int .i64 k, .string t, .int .i64 n, .int .i64 ya, .int .i64 e] #[.int .i64 0, .bool false, .slice none 0 0] 57 59 57
  have x1 := kb1.cell hlast (fun f => f)
  have HG0 : Hid (Gro (((w.alloc (.cells #[.int .i64 (a : Int), .bool b, .slice (some ⟨g, o, none⟩) (m + 1) oc] 57)).alloc (.cells #[.int .i64 k, .string t, .int .i64 n, .int .i64 ya, .int .i64 e] 59)).alloc (.cells #[.int .i64 0, .bool false, .slice none 0 0] 57)) (((w.alloc (.cells #[.int .i64 (a : Int), .bool b, .slice (some ⟨g, o, none⟩) (m + 1) oc] 57)).alloc (.cells #[.int .i64 k, .string t, .int .i64 n, .int .i64 ya, .int .i64 e] 59)).alloc (.cells #[.int .i64 0, .bool false, .slice none 0 0] 57)) 4 1 (.slice none 0 0) 0 (bv [])) := hideL (gro_nil _ _ _)
  have GE := hideL (gro_empty (((w.alloc (.cells #[.int .i64 (a : Int), .bool b, .slice (some ⟨g, o, none⟩) (m + 1) oc] 57)).alloc (.cells #[.int .i64 k, .string t, .int .i64 n, .int .i64 ya, .int .i64 e] 59)).alloc (.cells #[.int .i64 0, .bool false, .slice none 0 0] 57)) (((w.alloc (.cells #[.int .i64 (a : Int), .bool b, .slice (some ⟨g, o, none⟩) (m + 1) oc] 57)).alloc (.cells #[.int .i64 k, .string t, .int .i64 n, .int .i64 ya, .int .i64 e] 59)).alloc (.cells #[.int .i64 0, .bool false, .slice none 0 0] 57)) 4 1 (Kept.refl _ _))
  have BI := hideL ((HI.out.later kb2).later (Kept.alloc (((w.alloc (.cells #[.int .i64 (a : Int), .bool b, .slice (some ⟨g, o, none⟩) (m + 1) oc] 57)).alloc (.cells #[.int .i64 k, .string t, .int .i64 n, .int .i64 ya, .int .i64 e] 59)).alloc (.cells #[.int .i64 0, .bool false, .slice none 0 0] 57)) (.cells #[] 4)))
  have H0 := hideL h0
  have H2 := hideL h2
  have HK := hideL kb2
  have HZ := hideL hz
  have hne : ((m : Int) + 1 == 0) = false := by simp only [beq_eq_false_iff_ne]; omega
  have hmc : (m : Int) ≤ (oc : Int) := by omega
  have hcc : (m : Int) + 1 ≤ (oc : Int) := by omega
  rw [hz] at GE
  clear nk HG0 hO hcell hlast hinit hm kb1 kb2 h0 h2 hz h
  go_enter Tryd.func42, Tryd.ntmps42
  go_wp2_with (at_builtin; refine wpList_catB rfl _ _ rfl (.slice (some ⟨w.heap.size + 3, 0, none⟩) 0 0) 0 [] rfl GE.out (some ⟨g, o, none⟩) m oc (by first | rfl | simp) init HM.out BI.out (by omega) m (Nat.zero_add _) ?_; intro va vc V gT kT; have G0 := hideL (gT.kept.heap H0.out (fun f => f)); have G2 := hideL (gT.kept.heap H2.out (fun f => f)); have KV := hideL (HK.out.trans gT.kept (fun _ f => f.elim)); have HGT := hideL (gT.opg HM.out); obtain ⟨c0, c1, c2, cf⟩ := row3_cells G0.out; have f0 := cf 0; have f1 := cf 1; have f2 := cf 2; obtain ⟨d0, d1, d2, df⟩ := row3_cells G2.out; have e0 := df 0; have e1 := df 1; have e2 := df 2; clear gT kT cf df GE BI H0 H2 HK x1)
  have KS2 : Kept (fun i => i = w.heap.size) V ((V.setCell ⟨w.heap.size, 2, none⟩ (.slice va m vc)).setCell ⟨w.heap.size, 0, none⟩ (.int .i64 8)) := two_set _ _ _ _ _ _
  have h72 := KS2.heap G2.out (show ¬ w.heap.size + 2 = w.heap.size by omega)
  refine bodyPost_ret (results_cellW rfl _ _ _ (w.heap.size + 1 + 1) _ rfl (load_row3 (by exact row3_put h72))) rfl ?_
  exact HP.out va vc _ (OpG.low ((HGT.out.past KS2 (fun i e => by have := HZ.out; omega)).past row3_keptG (fun i e => by have := HZ.out; omega)) (by have := HZ.out; omega)) ((KV.out.trans KS2 (fun i e => .inr (by omega))).trans row3_keptG (fun i e => .inr (by omega)))
theorem behind_any (r : Rs) (y : Tn) (oa : Option Addr) (on oc : Nat) (w : World) (hO : OpV w (.slice oa on oc) r.op) (hb : on ≤ 1000000000000) : Calls Tryd.prog 42 #[.agg #[.int .i64 (r.at' : Int), .bool r.sg, .slice oa on oc], .agg (lxC y)] w (rwPost w (.slice oa on oc) r.op y (behindF r y)) := by
  cases h1 : (isK 18 y || isK 19 y) with
  | true => exact behind_boost r y oa on oc w h1
  | false =>
    rw [Bool.or_eq_false_iff] at h1
    cases h4 : isK 4 y with
    | true => exact behind_join r y oa on oc w 4 (.inl rfl) h4
    | false =>
      cases h5 : isK 5 y with
      | true => exact behind_join r y oa on oc w 5 (.inr (.inl rfl)) h5
      | false =>
        cases h17 : isK 17 y with
        | true => exact behind_join r y oa on oc w 17 (.inr (.inr rfl)) h17
        | false =>
          cases h9 : isK 9 y with
          | true =>
            cases he : r.op.isEmpty with
            | true => exact behind_close0 r y oa on oc w hO h9 he
            | false =>
              have e1 : behindF r y = some ⟨8, r.op.getLastD false, r.op.dropLast⟩ := by
                unfold behindF
                rw [h1.1, h1.2, h4, h5, h17, h9, he]
                rfl
              rw [e1]
              obtain ⟨init, b, ho⟩ := last_of he
              obtain ⟨hB, hn, hc⟩ := hO.bools
              rw [ho] at hB hn ⊢
              rw [List.length_append] at hn
              have hn : on = init.length + 1 := hn
              obtain ⟨g, o, rfl, _⟩ := hB (by simp)
              subst hn
              have e2 : (init ++ [b]).getLastD false = b := by simp
              have e3 : (init ++ [b]).dropLast = init := by simp
              rw [e2, e3]
              exact behind_close1 r.at' r.sg b init y g o init.length oc w rfl hc hB (by omega) h9
          | false =>
            cases h0 : isK 0 y with
            | true => exact behind_end r y oa on oc w hO h0
            | false => exact behind_clause r y oa on oc w hO hb h1.1 h1.2 h4 h5 h17 h9 h0
end Go.Proofs.YtiemiphlfbaojaaDoor
namespace Go.Proofs.YtiemiphlfbaojaaDoor
open Go.ChangeShapes Go.WideShapes Go.ChangeAt Go.RowKit
variable {w : World}
set_option maxRecDepth 20000 in
set_option maxHeartbeats 4000000 in
theorem span_10 (sg : Bool) (op : List Bool) (y : Tn) (oa : Option Addr) (on oc : Nat) (w : World) : Calls Tryd.prog 41 #[.agg #[.int .i64 10, .bool sg, .slice oa on oc], .agg (lxC y)] w (rwPost w (.slice oa on oc) op y (stepF ⟨10, sg, op⟩ y)) := by
  have HPS : Hid (∀ w', Kept (fun _ => False) w w' → rwPost w (.slice oa on oc) op y (some ⟨11, sg, op⟩) (.returned (.tuple #[.agg #[.int .i64 11, .bool sg, .slice oa on oc], .bool true])) w') := hideL (fun w' k => rw_same k rfl)
  have HPN : Hid (∀ w', Kept (fun _ => False) w w' → rwPost w (.slice oa on oc) op y (none) (.returned (.tuple #[.agg #[.int .i64 11, .bool sg, .slice oa on oc], .bool false])) w') := hideL (fun w' k => rw_none k)
  have e1 : stepF ⟨10, sg, op⟩ y = if sideB y then some ⟨11, sg, op⟩ else none := rfl
  rw [e1]
  unfold sideB
  have CS := hideL (fun W => isStarR_any y W)
  generalize rwPost w (.slice oa on oc) op y = QQ at *
  cases q1 : isK 1 y
  · cases q3 : isK 3 y
    · have b1 : (y.k == 1) = false := kq (k := 1) _ q1
      have b3 : (y.k == 3) = false := kq (k := 3) _ q3
      cases qs : isSt y
      all_goals
        rw [qs] at CS
        first | rw [if_pos (show (false || false || true) = true from rfl)] | rw [if_neg (show ¬ (false || false || false) = true by decide)]
        obtain ⟨k, t, n, ya, e⟩ := y
        unfold lxC at *
        dsimp only at *
        obtain ⟨KB, h0, -, h2, hz⟩ := boxes3 w #[.int .i64 10, .bool sg, .slice oa on oc] #[.int .i64 k, .string t, .int .i64 n, .int .i64 ya, .int .i64 e] #[.int .i64 0, .bool false, .slice none 0 0] 57 59 57
        have HK := hideL KB
        have H0 := hideL h0
        have H2 := hideL h2
        clear e1 q1 q3 qs KB h0 h2 hz
        go_enter Tryd.func41, Tryd.ntmps41
        go_wp2_with (go_at_call 40; refine Stp13.go ?_)
        generalize ((w.alloc (.cells #[.int .i64 10, .bool sg, .slice oa on oc] 57)).alloc (.cells #[.int .i64 k, .string t, .int .i64 n, .int .i64 ya, .int .i64 e] 59)).alloc (.cells #[.int .i64 0, .bool false, .slice none 0 0] 57) = WB at *
        refine ⟨?_⟩
        refine (CS.out WB).mono ?_
        rintro x W1 ⟨rfl, k1⟩
        have G0 := hideL (k1.heap H0.out (fun f => f))
        have G2 := hideL (k1.heap H2.out (fun f => f))
        have K1 := hideL (HK.out.trans k1 (fun _ f => f.elim))
        clear k1 H0 H2 HK CS
        have n97 : ¬ w.heap.size = w.heap.size + 1 + 1 := by omega
        have n79 : ¬ w.heap.size + 1 + 1 = w.heap.size := by omega
        obtain ⟨c0, c1, c2, cf⟩ := row3_cells G0.out
        have f0 := cf 0
        have f1 := cf 1
        have f2 := cf 2
        obtain ⟨d0, d1, d2, df⟩ := row3_cells G2.out
        have e0 := df 0
        have e1 := df 1
        have e2 := df 2
        clear cf df
        go_wp2_with fail
        have KS : Kept (fun i => i = w.heap.size) W1 (W1.setCell ⟨w.heap.size, 0, none⟩ (.int .i64 11)) := (Kept.setCell W1 _ _).mono (fun i e => .inl e)
        have h72 := KS.heap G2.out (show ¬ w.heap.size + 2 = w.heap.size by omega)
        refine bodyPost_ret (results_cellW rfl _ _ _ (w.heap.size + 1 + 1) _ rfl (load_row3 (by exact row3_put h72))) rfl ?_
        first | exact HPS.out _ ((K1.out.trans KS (fun i e => .inr (by omega))).trans row3_keptG (fun i e => .inr (by omega))) | exact HPN.out _ ((K1.out.trans KS (fun i e => .inr (by omega))).trans row3_keptG (fun i e => .inr (by omega)))
    · have b1 : (y.k == 1) = false := kq (k := 1) _ q1
      have b3 : (y.k == 3) = true := kq (k := 3) _ q3
      rw [show (false || true || isSt y) = true by cases isSt y <;> rfl, if_pos rfl]
      obtain ⟨k, t, n, ya, e⟩ := y
      unfold lxC at *
      dsimp only at *
      clear e1 q1 q3 CS
      go_enter Tryd.func41, Tryd.ntmps41
      go_wp2_with fail
      refine bodyPost_ret (results_cellW rfl _ _ _ (w.heap.size + 1 + 1) _ rfl (load_row3 (by exact (boxes3 w _ _ _ _ _ _).2.2.2.1))) rfl ?_
      exact HPS.out _ (boxes3 w _ _ _ _ _ _).1
  · have b1 : (y.k == 1) = true := kq (k := 1) _ q1
    rw [show (true || isK 3 y || isSt y) = true by cases isK 3 y <;> cases isSt y <;> rfl, if_pos rfl]
    obtain ⟨k, t, n, ya, e⟩ := y
    unfold lxC at *
    dsimp only at *
    clear e1 q1 CS
    go_enter Tryd.func41, Tryd.ntmps41
    go_wp2_with fail
    refine bodyPost_ret (results_cellW rfl _ _ _ (w.heap.size + 1 + 1) _ rfl (load_row3 (by exact (boxes3 w _ _ _ _ _ _).2.2.2.1))) rfl ?_
    exact HPS.out _ (boxes3 w _ _ _ _ _ _).1
set_option maxRecDepth 20000 in
set_option maxHeartbeats 4000000 in
theorem span_12 (sg : Bool) (op : List Bool) (y : Tn) (oa : Option Addr) (on oc : Nat) (w : World) : Calls Tryd.prog 41 #[.agg #[.int .i64 12, .bool sg, .slice oa on oc], .agg (lxC y)] w (rwPost w (.slice oa on oc) op y (stepF ⟨12, sg, op⟩ y)) := by
  have HPS : Hid (∀ w', Kept (fun _ => False) w w' → rwPost w (.slice oa on oc) op y (some ⟨13, sg, op⟩) (.returned (.tuple #[.agg #[.int .i64 13, .bool sg, .slice oa on oc], .bool true])) w') := hideL (fun w' k => rw_same k rfl)
  have HPN : Hid (∀ w', Kept (fun _ => False) w w' → rwPost w (.slice oa on oc) op y (none) (.returned (.tuple #[.agg #[.int .i64 13, .bool sg, .slice oa on oc], .bool false])) w') := hideL (fun w' k => rw_none k)
  have e1 : stepF ⟨12, sg, op⟩ y = if sideB y then some ⟨13, sg, op⟩ else none := rfl
  rw [e1]
  unfold sideB
  have CS := hideL (fun W => isStarR_any y W)
  generalize rwPost w (.slice oa on oc) op y = QQ at *
  cases q1 : isK 1 y
  · cases q3 : isK 3 y
    · have b1 : (y.k == 1) = false := kq (k := 1) _ q1
      have b3 : (y.k == 3) = false := kq (k := 3) _ q3
      cases qs : isSt y
      all_goals
        rw [qs] at CS
        first | rw [if_pos (show (false || false || true) = true from rfl)] | rw [if_neg (show ¬ (false || false || false) = true by decide)]
        obtain ⟨k, t, n, ya, e⟩ := y
        unfold lxC at *
        dsimp only at *
        obtain ⟨KB, h0, -, h2, hz⟩ := boxes3 w #[.int .i64 12, .bool sg, .slice oa on oc] #[.int .i64 k, .string t, .int .i64 n, .int .i64 ya, .int .i64 e] #[.int .i64 0, .bool false, .slice none 0 0] 57 59 57
        have HK := hideL KB
        have H0 := hideL h0
        have H2 := hideL h2
        clear e1 q1 q3 qs KB h0 h2 hz
        go_enter Tryd.func41, Tryd.ntmps41
        go_wp2_with (go_at_call 40; refine Stp13.go ?_)
        generalize ((w.alloc (.cells #[.int .i64 12, .bool sg, .slice oa on oc] 57)).alloc (.cells #[.int .i64 k, .string t, .int .i64 n, .int .i64 ya, .int .i64 e] 59)).alloc (.cells #[.int .i64 0, .bool false, .slice none 0 0] 57) = WB at *
        refine ⟨?_⟩
        refine (CS.out WB).mono ?_
        rintro x W1 ⟨rfl, k1⟩
        have G0 := hideL (k1.heap H0.out (fun f => f))
        have G2 := hideL (k1.heap H2.out (fun f => f))
        have K1 := hideL (HK.out.trans k1 (fun _ f => f.elim))
        clear k1 H0 H2 HK CS
        have n97 : ¬ w.heap.size = w.heap.size + 1 + 1 := by omega
        have n79 : ¬ w.heap.size + 1 + 1 = w.heap.size := by omega
        obtain ⟨c0, c1, c2, cf⟩ := row3_cells G0.out
        have f0 := cf 0
        have f1 := cf 1
        have f2 := cf 2
        obtain ⟨d0, d1, d2, df⟩ := row3_cells G2.out
        have e0 := df 0
        have e1 := df 1
        have e2 := df 2
        clear cf df
        go_wp2_with fail
        have KS : Kept (fun i => i = w.heap.size) W1 (W1.setCell ⟨w.heap.size, 0, none⟩ (.int .i64 13)) := (Kept.setCell W1 _ _).mono (fun i e => .inl e)
        have h72 := KS.heap G2.out (show ¬ w.heap.size + 2 = w.heap.size by omega)
        refine bodyPost_ret (results_cellW rfl _ _ _ (w.heap.size + 1 + 1) _ rfl (load_row3 (by exact row3_put h72))) rfl ?_
        first | exact HPS.out _ ((K1.out.trans KS (fun i e => .inr (by omega))).trans row3_keptG (fun i e => .inr (by omega))) | exact HPN.out _ ((K1.out.trans KS (fun i e => .inr (by omega))).trans row3_keptG (fun i e => .inr (by omega)))
    · have b1 : (y.k == 1) = false := kq (k := 1) _ q1
      have b3 : (y.k == 3) = true := kq (k := 3) _ q3
      rw [show (false || true || isSt y) = true by cases isSt y <;> rfl, if_pos rfl]
      obtain ⟨k, t, n, ya, e⟩ := y
      unfold lxC at *
      dsimp only at *
      clear e1 q1 q3 CS
      go_enter Tryd.func41, Tryd.ntmps41
      go_wp2_with fail
      refine bodyPost_ret (results_cellW rfl _ _ _ (w.heap.size + 1 + 1) _ rfl (load_row3 (by exact (boxes3 w _ _ _ _ _ _).2.2.2.1))) rfl ?_
      exact HPS.out _ (boxes3 w _ _ _ _ _ _).1
  · have b1 : (y.k == 1) = true := kq (k := 1) _ q1
    rw [show (true || isK 3 y || isSt y) = true by cases isK 3 y <;> cases isSt y <;> rfl, if_pos rfl]
    obtain ⟨k, t, n, ya, e⟩ := y
    unfold lxC at *
    dsimp only at *
    clear e1 q1 CS
    go_enter Tryd.func41, Tryd.ntmps41
    go_wp2_with fail
    refine bodyPost_ret (results_cellW rfl _ _ _ (w.heap.size + 1 + 1) _ rfl (load_row3 (by exact (boxes3 w _ _ _ _ _ _).2.2.2.1))) rfl ?_
    exact HPS.out _ (boxes3 w _ _ _ _ _ _).1
set_option maxRecDepth 20000 in
set_option maxHeartbeats 4000000 in
theorem span_11 (sg : Bool) (op : List Bool) (y : Tn) (oa : Option Addr) (on oc : Nat) (w : World) : Calls Tryd.prog 41 #[.agg #[.int .i64 11, .bool sg, .slice oa on oc], .agg (lxC y)] w (rwPost w (.slice oa on oc) op y (stepF ⟨11, sg, op⟩ y)) := by
  have HPS : Hid (∀ w', Kept (fun _ => False) w w' → rwPost w (.slice oa on oc) op y (some ⟨12, sg, op⟩) (.returned (.tuple #[.agg #[.int .i64 12, .bool sg, .slice oa on oc], .bool true])) w') := hideL (fun w' k => rw_same k rfl)
  have HPN : Hid (∀ w', Kept (fun _ => False) w w' → rwPost w (.slice oa on oc) op y (none) (.returned (.tuple #[.agg #[.int .i64 12, .bool sg, .slice oa on oc], .bool false])) w') := hideL (fun w' k => rw_none k)
  have e1 : stepF ⟨11, sg, op⟩ y = if isK 7 y then some ⟨12, sg, op⟩ else none := rfl
  rw [e1]
  generalize rwPost w (.slice oa on oc) op y = QQ at *
  cases q7 : isK 7 y
  all_goals
    have b7 : (y.k == 7) = _ := kq (k := 7) _ q7
    first | rw [if_pos rfl] | rw [if_neg (by decide)]
    obtain ⟨k, t, n, ya, e⟩ := y
    unfold lxC at *
    dsimp only at *
    clear e1 q7
    go_enter Tryd.func41, Tryd.ntmps41
    go_wp2_with fail
    refine bodyPost_ret (results_cellW rfl _ _ _ (w.heap.size + 1 + 1) _ rfl (load_row3 (by exact (boxes3 w _ _ _ _ _ _).2.2.2.1))) rfl ?_
    first | exact HPS.out _ (boxes3 w _ _ _ _ _ _).1 | exact HPN.out _ (boxes3 w _ _ _ _ _ _).1
set_option maxRecDepth 20000 in
set_option maxHeartbeats 4000000 in
theorem span_13 (sg : Bool) (op : List Bool) (y : Tn) (oa : Option Addr) (on oc : Nat) (w : World) : Calls Tryd.prog 41 #[.agg #[.int .i64 13, .bool sg, .slice oa on oc], .agg (lxC y)] w (rwPost w (.slice oa on oc) op y (stepF ⟨13, sg, op⟩ y)) := by
  have HPS : Hid (∀ w', Kept (fun _ => False) w w' → rwPost w (.slice oa on oc) op y (some ⟨9, sg, op⟩) (.returned (.tuple #[.agg #[.int .i64 9, .bool sg, .slice oa on oc], .bool true])) w') := hideL (fun w' k => rw_same k rfl)
  have HPN : Hid (∀ w', Kept (fun _ => False) w w' → rwPost w (.slice oa on oc) op y (none) (.returned (.tuple #[.agg #[.int .i64 9, .bool sg, .slice oa on oc], .bool false])) w') := hideL (fun w' k => rw_none k)
  have e1 : stepF ⟨13, sg, op⟩ y = if isK 11 y || isK 13 y then some ⟨9, sg, op⟩ else none := rfl
  rw [e1]
  generalize rwPost w (.slice oa on oc) op y = QQ at *
  cases q11 : isK 11 y <;> cases q13 : isK 13 y
  all_goals
    have b11 : (y.k == 11) = _ := kq (k := 11) _ q11
    have b13 : (y.k == 13) = _ := kq (k := 13) _ q13
    first | rw [if_pos (show (false || true) = true from rfl)] | rw [if_pos (show (true || false) = true from rfl)] | rw [if_pos (show (true || true) = true from rfl)] | rw [if_neg (show ¬ (false || false) = true by decide)]
    obtain ⟨k, t, n, ya, e⟩ := y
    unfold lxC at *
    dsimp only at *
    clear e1 q11 q13
    go_enter Tryd.func41, Tryd.ntmps41
    go_wp2_with fail
    all_goals refine bodyPost_ret (results_cellW rfl _ _ _ (w.heap.size + 1 + 1) _ rfl (load_row3 (by exact (boxes3 w _ _ _ _ _ _).2.2.2.1))) rfl ?_
    all_goals first | exact HPS.out _ (boxes3 w _ _ _ _ _ _).1 | exact HPN.out _ (boxes3 w _ _ _ _ _ _).1
end Go.Proofs.YtiemiphlfbaojaaDoor
namespace Go.Proofs.YtiemiphlfbaojaaDoor
open Go.ChangeShapes Go.WideShapes Go.ChangeAt Go.RowKit
variable {w : World}
theorem tok_class (y : Tn) : ((y.k == 20) = false ∧ isEd y = false ∧ isSl y = false) ∨ ((y.k == 20) = true ∧ (y.n == -1) = true ∧ ¬ (0 ≤ y.n) ∧ isEd y = true ∧ isSl y = false) ∨ ((y.k == 20) = true ∧ (y.n == -1) = false ∧ (y.n == 1) = true ∧ 0 ≤ y.n ∧ isEd y = true ∧ isSl y = true) ∨ ((y.k == 20) = true ∧ (y.n == -1) = false ∧ (y.n == 1) = false ∧ (y.n == 2) = true ∧ 0 ≤ y.n ∧ isEd y = true ∧ isSl y = true) ∨ ((y.k == 20) = true ∧ (y.n == -1) = false ∧ (y.n == 1) = false ∧ (y.n == 2) = false ∧ 0 ≤ y.n ∧ isEd y = false ∧ isSl y = true) ∨ ((y.k == 20) = true ∧ (y.n == -1) = false ∧ (y.n == 1) = false ∧ (y.n == 2) = false ∧ ¬ (0 ≤ y.n) ∧ isEd y = false ∧ isSl y = false) := by
  unfold isEd isSl
  cases q : (y.k == 20) with
  | false => exact .inl ⟨rfl, rfl, rfl⟩
  | true =>
    right
    cases m1 : (y.n == -1) with
    | true =>
      have e : y.n = -1 := by simpa using m1
      have g : ¬ (0 ≤ y.n) := by omega
      exact .inl ⟨rfl, rfl, g, rfl, by simp [g]⟩
    | false =>
      cases n1 : (y.n == 1) with
      | true =>
        have e : y.n = 1 := by simpa using n1
        have g : 0 ≤ y.n := by omega
        exact .inr (.inl ⟨rfl, rfl, rfl, g, rfl, by simp [g]⟩)
      | false =>
        cases n2 : (y.n == 2) with
        | true =>
          have e : y.n = 2 := by simpa using n2
          have g : 0 ≤ y.n := by omega
          exact .inr (.inr (.inl ⟨rfl, rfl, rfl, rfl, g, rfl, by simp [g]⟩))
        | false =>
          by_cases g : 0 ≤ y.n
          · exact .inr (.inr (.inr (.inl ⟨rfl, rfl, rfl, rfl, g, rfl, by simp [g]⟩)))
          · exact .inr (.inr (.inr (.inr ⟨rfl, rfl, rfl, rfl, g, rfl, by simp [g]⟩)))
end Go.Proofs.YtiemiphlfbaojaaDoor
