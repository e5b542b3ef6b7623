import Derived.Test.YtiemiphlfbaojaaDoorWyo
import Derived.Test.YtiemiphlfbaojaaDoorWyk
import Derived.Test.YtiemiphlfbaojaaDoorWyl
import Derived.Test.YtiemiphlfbaojaaDoorWym
import Derived.Test.YtiemiphlfbaojaaDoorAub
namespace Go.Proofs.YtiemiphlfbaojaaDoor
open Go.ChangeShapes Go.WideShapes Go.ChangeAt Go.RowKit
variable {w : World}
theorem step_any (r : Rs) (hr : r.at' < 15) (y : Tn) (oa : Option Addr) (on oc : Nat) (w : World) (hO : OpV w (.slice oa on oc) r.op) (hb : on ≤ 1000000000000) : Calls Tryd.prog 21 #[.agg #[.int .i64 (r.at' : Int), .bool r.sg, .slice oa on oc], .agg (lxC y)] w (rwPost w (.slice oa on oc) r.op y (stepF r y)) := by
  obtain ⟨a, sg, op⟩ := r
  dsimp only at *
  match a, hr with
  | 0, _ => exact step_0 sg op y oa on oc w hO hb
  | 1, _ => exact step_1 sg op y oa on oc w hO hb
  | 2, _ => exact step_2 sg op y oa on oc w hO hb
  | 3, _ => exact step_3 sg op y oa on oc w
  | 4, _ => exact step_4 sg op y oa on oc w hO hb
  | 5, _ => exact step_5 sg op y oa on oc w hO hb
  | 6, _ => exact step_6 sg op y oa on oc w hO hb
  | 7, _ => exact step_7 sg op y oa on oc w hO hb
  | 8, _ => exact step_8 sg op y oa on oc w hO hb
  | 9, _ => exact step_9 sg op y oa on oc w hO hb
  | 10, _ => exact step_10 sg op y oa on oc w hO
  | 11, _ => exact step_11 sg op y oa on oc w hO
  | 12, _ => exact step_12 sg op y oa on oc w hO
  | 13, _ => exact step_13 sg op y oa on oc w hO
  | 14, _ => exact step_14 sg op y oa on oc w
end Go.Proofs.YtiemiphlfbaojaaDoor
namespace Go.Proofs.YtiemiphlfbaojaaDoor
open Go.ChangeShapes Go.WideShapes Go.ChangeAt Go.RowKit
variable {w : World}
/-! What an opening and a closing bracket do to the open groups. -/
def px8 (a : Nat) (sg : Bool) : Option Bool := match a with
  | 0 => some false
  | 1 => some sg
  | 2 => some sg
  | 4 => some false
  | 5 => some false
  | 6 => some false
  | 7 => some false
  | 8 => some false
  | 9 => some false
  | _ => none
theorem ed_noW {y : Tn} {k : Nat} (h : isK k y = true) (hk : k ≠ 20) : isEd y = false ∧ isSl y = false := by
  have e : (y.k == 20) = false := isK_otherW (j := 20) h (fun e => hk e.symm)
  unfold isEd isSl
  rw [e]
  exact ⟨rfl, rfl⟩
theorem st_noW {y : Tn} {k : Nat} (h : isK k y = true) (hk : k ≠ 2) : isSt y = false := by
  have e : (y.k == 2) = false := isK_otherW (j := 2) h (fun e => hk e.symm)
  unfold isSt
  rw [e]
  rfl
theorem step8 (a : Nat) (sg : Bool) (op : List Bool) (y : Tn) (h : isK 8 y = true) : stepF ⟨a, sg, op⟩ y = (px8 a sg).map (fun b => ⟨0, false, op ++ [b]⟩) := by
  have n : ∀ i, i ≠ 8 → isK i y = false := fun i hi => isK_otherW h hi
  obtain ⟨hE, hS⟩ := ed_noW h (by decide)
  have hT := st_noW h (by decide)
  have at1 : ∀ fld, atomF y fld = some 0 := fun fld => by unfold atomF; rw [n 1 (by decide), n 2 (by decide), n 3 (by decide), h]; rfl
  have bg : ∀ (r : Rs) fld, begunF r y fld = some ⟨0, false, r.op ++ [r.sg]⟩ := fun r fld => by unfold begunF; rw [n 6 (by decide), at1, h]; rfl
  have cl : ∀ (r : Rs), clauseF r y = some ⟨0, false, r.op ++ [false]⟩ := fun r => by unfold clauseF; rw [n 15 (by decide), n 16 (by decide), bg]; rfl
  have bh : ∀ (r : Rs), behindF r y = some ⟨0, false, r.op ++ [false]⟩ := fun r => by unfold behindF; rw [n 18 (by decide), n 19 (by decide), n 4 (by decide), n 5 (by decide), n 17 (by decide), n 9 (by decide), n 0 (by decide), cl]; rfl
  match a with
  | 0 => show clauseF _ y = _; rw [cl]; rfl
  | 1 => show begunF _ y false = _; rw [bg]; rfl
  | 2 => show begunF _ y true = _; rw [bg]; rfl
  | 3 => show (if isSt y then _ else _) = _; rw [hT]; rfl
  | 4 => show (if isK 14 y then _ else if isEd y then _ else behindF _ y) = _; rw [n 14 (by decide), hE, bh]; rfl
  | 5 => show (if isEd y then _ else behindF _ y) = _; rw [hE, bh]; rfl
  | 6 => show (if isK 14 y then _ else behindF _ y) = _; rw [n 14 (by decide), bh]; rfl
  | 7 => show (if isSl y then _ else behindF _ y) = _; rw [hS, bh]; rfl
  | 8 => show (if isK 21 y then _ else behindF _ y) = _; rw [n 21 (by decide), bh]; rfl
  | 9 => show behindF _ y = _; rw [bh]; rfl
  | 10 => show (if sideB y then _ else _) = _; unfold sideB; rw [n 1 (by decide), n 3 (by decide), hT]; rfl
  | 11 => show (if isK 7 y then _ else _) = _; rw [n 7 (by decide)]; rfl
  | 12 => show (if sideB y then _ else _) = _; unfold sideB; rw [n 1 (by decide), n 3 (by decide), hT]; rfl
  | 13 => show (if isK 11 y || isK 13 y then _ else _) = _; rw [n 11 (by decide), n 13 (by decide)]; rfl
  | _ + 14 => rfl
def px9 (a : Nat) : Bool := match a with
  | 4 => true
  | 5 => true
  | 6 => true
  | 7 => true
  | 8 => true
  | 9 => true
  | _ => false
theorem step9 (a : Nat) (sg : Bool) (op : List Bool) (y : Tn) (h : isK 9 y = true) : stepF ⟨a, sg, op⟩ y = if px9 a && !op.isEmpty then some ⟨8, op.getLastD false, op.dropLast⟩ else none := by
  have n : ∀ i, i ≠ 9 → isK i y = false := fun i hi => isK_otherW h hi
  obtain ⟨hE, hS⟩ := ed_noW h (by decide)
  have hT := st_noW h (by decide)
  have at1 : ∀ fld, atomF y fld = none := fun fld => by unfold atomF; rw [n 1 (by decide), n 2 (by decide), n 3 (by decide), n 8 (by decide), n 10 (by decide), n 12 (by decide)]; rfl
  have bg : ∀ (r : Rs) fld, begunF r y fld = none := fun r fld => by unfold begunF; rw [n 6 (by decide), at1]; rfl
  have cl : ∀ (r : Rs), clauseF r y = none := fun r => by unfold clauseF; rw [n 15 (by decide), n 16 (by decide), bg]; rfl
  have bh : ∀ (r : Rs), behindF r y = if true && !r.op.isEmpty then some ⟨8, r.op.getLastD false, r.op.dropLast⟩ else none := fun r => by
    unfold behindF
    rw [n 18 (by decide), n 19 (by decide), n 4 (by decide), n 5 (by decide), n 17 (by decide), h]
    cases r.op.isEmpty <;> rfl
  match a with
  | 0 => show clauseF _ y = _; rw [cl]; rfl
  | 1 => show begunF _ y false = _; rw [bg]; rfl
  | 2 => show begunF _ y true = _; rw [bg]; rfl
  | 3 => show (if isSt y then _ else _) = _; rw [hT]; rfl
  | 4 => show (if isK 14 y then _ else if isEd y then _ else behindF _ y) = _; rw [n 14 (by decide), hE, bh]; rfl
  | 5 => show (if isEd y then _ else behindF _ y) = _; rw [hE, bh]; rfl
  | 6 => show (if isK 14 y then _ else behindF _ y) = _; rw [n 14 (by decide), bh]; rfl
  | 7 => show (if isSl y then _ else behindF _ y) = _; rw [hS, bh]; rfl
  | 8 => show (if isK 21 y then _ else behindF _ y) = _; rw [n 21 (by decide), bh]; rfl
  | 9 => show behindF _ y = _; rw [bh]; rfl
  | 10 => show (if sideB y then _ else _) = _; unfold sideB; rw [n 1 (by decide), n 3 (by decide), hT]; rfl
  | 11 => show (if isK 7 y then _ else _) = _; rw [n 7 (by decide)]; rfl
  | 12 => show (if sideB y then _ else _) = _; unfold sideB; rw [n 1 (by decide), n 3 (by decide), hT]; rfl
  | 13 => show (if isK 11 y || isK 13 y then _ else _) = _; rw [n 11 (by decide), n 13 (by decide)]; rfl
  | _ + 14 => rfl
/-! The open groups as a list of their own. -/
def OwB (w : World) (base : Nat) (oa : Option Addr) (on oc : Nat) (op : List Bool) : Prop := w.ownsRow base 4 1 (.slice oa on oc) on (bv op) ∧ on = op.length
theorem OwB.opv {w : World} {base : Nat} {oa : Option Addr} {on oc : Nat} {op : List Bool} (h : OwB w base oa on oc op) : OpV w (.slice oa on oc) op := by
  obtain ⟨h, hn⟩ := h
  have hr : on ≤ oc := by
    rcases h.2 with ⟨e1, e2⟩ | ⟨g, cap, cur, e1, _, _, hn, _⟩
    · omega
    · injection e1 with _ _ e3
      omega
  refine ⟨oa, on, oc, rfl, hn, hr, fun hne => ?_⟩
  rcases h.2 with ⟨_, e2⟩ | ⟨g, cap, cur, e1, hg, _⟩
  · exfalso
    have : op.length = 0 := by omega
    exact hne (List.length_eq_zero_iff.1 this)
  · injection e1 with e1 _ _
    subst e1
    refine ⟨g, 0, rfl, fun j b hb => ?_⟩
    have := h.cells (g := g) rfl j (.bool b) (by unfold bv; rw [List.getElem?_map, hb]; rfl)
    rw [Go.WideShapes.add_plain] at this
    simpa using this
theorem OwB.later {w w' : World} {base : Nat} {oa : Option Addr} {on oc : Nat} {op : List Bool} (h : OwB w base oa on oc op) (k : Kept (fun _ => False) w w') : OwB w' base oa on oc op := ⟨k.row h.1 (fun _ _ f => f), h.2⟩
theorem OwB.past {F : Nat → Prop} {w w' : World} {base : Nat} {oa : Option Addr} {on oc : Nat} {op : List Bool} (h : OwB w base oa on oc op) (k : Kept F w w') (hF : ∀ i, F i → i < base) : OwB w' base oa on oc op := ⟨k.row h.1 (fun i hi f => by have := hF i f; have := (h.1.lt i hi).1; omega), h.2⟩
theorem OwB.take {w : World} {base : Nat} {oa : Option Addr} {m oc : Nat} {init : List Bool} {b : Bool} (h : OwB w base oa (m + 1) oc (init ++ [b])) : OwB w base oa m oc init := by
  obtain ⟨h, hn⟩ := h
  have hm : m = init.length := by rw [List.length_append] at hn; simpa using hn
  refine ⟨⟨by unfold bv; rw [List.length_map, hm]; simp, ?_⟩, hm⟩
  rcases h.2 with ⟨_, e2⟩ | ⟨g, cap, cur, e1, hg, hh, hle, hc, hs, ht⟩
  · omega
  · injection e1 with e1 _ e3
    subst e1 e3
    refine .inr ⟨g, oc, cur, rfl, hg, hh, by omega, hc, hs, ?_⟩
    have e4 : bv (init ++ [b]) = bv init ++ [.bool b] := by unfold bv; simp
    rw [e4] at ht
    have e5 := congrArg (List.take (bv init).length) ht
    rw [List.take_take, List.take_left] at e5
    have e6 : (bv init).length = m * 1 := by unfold bv; rw [List.length_map, hm]; simp
    rw [e6] at e5
    rw [show min (m * 1) ((m + 1) * 1) = m * 1 by omega] at e5
    exact e5
theorem wpList_pushBo {base : Nat} {W : World} {ops : Array Oper} {rest : List Oper} {o : Oper} {act : Act} {Q : Exit → Act → World → Prop} (hgd : o.guard = none) (s x : Operand)
    (ho : o.op = .call { callee := .builtin .append, args := #[s, x], argTypes := #[55, 55] }) (oa : Option Addr) (on oc : Nat) (op : List Bool) (y : Bool) (hs : act.eval s = .slice oa on oc) (hG : OwB W base oa on oc op) (hbase : base ≤ W.heap.size) (b1 : Nat) (hb1 : b1 = W.heap.size) (hx : act.eval x = .slice (some ⟨b1, 0, none⟩) 1 1) (hb : on ≤ 1000000000000)
    (h : ∀ va vc W', OwB W' base va (on + 1) vc (op ++ [y]) → Kept (fun i => (Value.slice oa on oc).ownBlock = some i) W W' → wpList Tryd.prog ops Q rest (act.put o.dst (.slice va (on + 1) vc)) W') : wpList Tryd.prog ops Q (o :: rest) act (W.alloc (.cells #[.bool y] 4)) := by
  subst hb1
  obtain ⟨i0, hi, hz0, hz1, hz2⟩ := info_partsL Tryd.infoBo
  refine wpList_append_own _ hgd s x 55 ho base 4 i0 (.bool false) 1 1 Tryd.underlying55 hi hz0 hz1 hz2 rfl (by decide) (.slice oa on oc) on (bv op) hs (hG.1.alloc _) ⟨W.heap.size, 0, none⟩ 1 1 [.bool y] hx rfl (row_news W [.bool y] 4) (by intro u hu; simp at hu; subst hu; rfl) (by unfold maxLen; omega) (by omega) (by simp; omega) ?_
  intro v' W' ho2 hg2 _
  have e4 : bv (op ++ [y]) = bv op ++ [.bool y] := by unfold bv; simp
  have hsh : ∃ va vc, v' = .slice va (on + 1) vc := by
    rcases ho2.2 with ⟨rfl, e2⟩ | ⟨g, cap, cur, rfl, _⟩
    · omega
    · exact ⟨_, _, rfl⟩
  obtain ⟨va, vc, rfl⟩ := hsh
  exact h va vc W' ⟨by rw [e4]; exact ho2, by rw [List.length_append, ← hG.2]; rfl⟩ (((Kept.alloc W _).mono (fun _ f => f.elim)).trans (Kept.grown hg2) (fun i hi => .inl hi))
/-- What quick answers. -/
def qkPost (w : World) (base : Nat) (v0 : Value) (x : Option Rs) (e : Ending) (w' : World) : Prop :=
  Kept (fun i => v0.ownBlock = some i) w w' ∧ ((x = none ∧ ∃ (a : Int) (sg : Bool) (va : Option Addr) (vn vc : Nat), e = .returned (.tuple #[.agg #[.int .i64 a, .bool sg, .slice va vn vc], .bool false])) ∨ (∃ (q : Rs) (va : Option Addr) (vn vc : Nat), x = some q ∧ e = .returned (.tuple #[.agg #[.int .i64 (q.at' : Int), .bool q.sg, .slice va vn vc], .bool true]) ∧ OwB w' base va vn vc q.op))
set_option maxRecDepth 20000 in
set_option maxHeartbeats 4000000 in
theorem quick_other (r : Rs) (hr : r.at' < 15) (y : Tn) (oa : Option Addr) (on oc base : Nat) (w : World) (hG : OwB w base oa on oc r.op) (hb : on ≤ 900000000000) (h8 : isK 8 y = false) (h9 : isK 9 y = false) : Calls Tryd.prog 19 #[.agg #[.int .i64 (r.at' : Int), .bool r.sg, .slice oa on oc], .agg (lxC y)] w (qkPost w base (.slice oa on oc) (stepF r y)) := by
  have CB := hideL (fun W (k : Kept (fun _ => False) w W) => step_any r hr y oa on oc W ((hG.later k).opv) (by omega))
  have b8 : (y.k == 8) = false := kq (k := 8) _ h8
  have b9 : (y.k == 9) = false := kq (k := 9) _ h9
  have HF : Hid (∀ WB W1 e, Kept (fun _ => False) w WB → w.heap.size + 2 < WB.heap.size → rwPost WB (.slice oa on oc) r.op y (stepF r y) e W1 → ∃ (a : Int) (sg : Bool) (va : Option Addr) (vn vc : Nat) (B : Bool), e = .returned (.tuple #[.agg #[.int .i64 a, .bool sg, .slice va vn vc], .bool B]) ∧ Kept (fun _ => False) WB W1 ∧ ∀ W2, Kept (fun i => i = w.heap.size + 2) W1 W2 → qkPost w base (.slice oa on oc) (stepF r y) (.returned (.tuple #[.agg #[.int .i64 a, .bool sg, .slice va vn vc], .bool B])) W2) := hideL (fun WB W1 e K hs h => by
    obtain ⟨hk, h⟩ := h
    have K2 : ∀ W2, Kept (fun i => i = w.heap.size + 2) W1 W2 → Kept (fun _ => False) w W2 := fun W2 k2 => (K.trans hk (fun _ f => f.elim)).trans k2 (fun i e => .inr (by omega))
    rcases h with ⟨hx, a, sg, va, vn, vc, rfl⟩ | ⟨q, va, vn, vc, hx, rfl, _, hv⟩
    · exact ⟨a, sg, va, vn, vc, false, rfl, hk, fun W2 k2 => ⟨(K2 W2 k2).mono (fun _ f => f.elim), .inl ⟨hx, a, sg, va, vn, vc, rfl⟩⟩⟩
    · obtain ⟨hv1, hv2⟩ := hv h8 h9
      refine ⟨_, _, va, vn, vc, true, rfl, hk, fun W2 k2 => ⟨(K2 W2 k2).mono (fun _ f => f.elim), .inr ⟨q, va, vn, vc, hx, rfl, ?_⟩⟩⟩
      injection hv1 with v1 v2 v3
      subst v1 v2 v3
      rw [hv2]
      exact hG.later (K2 W2 k2))
  generalize qkPost w base (.slice oa on oc) (stepF r y) = QQ at *
  obtain ⟨k, t, n, ya, e⟩ := y
  obtain ⟨a, sg, op⟩ := r
  unfold lxC at *
  dsimp only at *
  obtain ⟨KB, -, -, h2, hz⟩ := boxes3 w #[.int .i64 (a : Int), .bool sg, .slice oa on oc] #[.int .i64 k, .string t, .int .i64 n, .int .i64 ya, .int .i64 e] #[.int .i64 0, .bool false, .slice none 0 0] 57 59 57
  have HKB := hideL KB
  have H2 := hideL h2
  have HZ := hideL hz
  clear h8 h9 hG hb hr KB h2 hz
  go_enter Tryd.func19, Tryd.ntmps19
  go_wp2_with (go_at_call 21; refine Stp13.go ?_)
  generalize ((w.alloc (.cells #[.int .i64 (a : Int), .bool sg, .slice oa on oc] 57)).alloc (.cells #[.int .i64 k, .string t, .int .i64 n, .int .i64 ya, .int .i64 e] 59)).alloc (.cells #[.int .i64 0, .bool false, .slice none 0 0] 57) = WB at *
  refine ⟨?_⟩
  refine (CB.out WB HKB.out).mono ?_
  intro x W1 h
  obtain ⟨a9, sg9, va, vn, vc, B, rfl, k1, hQ⟩ := HF.out _ _ _ HKB.out (by have := HZ.out; omega) h
  have HQ := hideL hQ
  have G2 := hideL (k1.heap H2.out (fun f => f))
  clear h hQ k1 CB HF H2 HZ HKB
  generalize w.heap.size + 1 + 1 = g7 at *
  obtain ⟨d0, d1, d2, df⟩ := row3_cells G2.out
  have e0 := df 0
  have e1 := df 1
  have e2 := df 2
  clear df
  go_wp2_with fail
  refine bodyPost_ret (results_cellW rfl _ _ _ g7 _ rfl (load_row3 (by exact row3_put G2.out))) rfl ?_
  exact HQ.out _ row3_keptG
end Go.Proofs.YtiemiphlfbaojaaDoor
namespace Go.Proofs.YtiemiphlfbaojaaDoor
open Go.ChangeShapes Go.WideShapes Go.ChangeAt Go.RowKit
variable {w : World}
theorem OwB.ne {w : World} {base i : Nat} {va : Option Addr} {vn vc : Nat} {op : List Bool} {cs : Array Value} (h : OwB w base va vn vc op) (hi : w.heap[i]? = some (.cells cs 57 (0, 0))) (j : Nat) (hj : (Value.slice va vn vc).ownBlock = some j) : j ≠ i := by
  rintro rfl
  rcases h.1.2 with ⟨e1, _⟩ | ⟨g, cap, cur, e1, _, hg, _⟩
  · rw [e1] at hj; simp [Value.ownBlock] at hj
  · rw [e1] at hj
    simp [Value.ownBlock] at hj
    subst hj
    rw [hi] at hg
    simp at hg
theorem OwB.put {w w' : World} {base i : Nat} {va : Option Addr} {vn vc : Nat} {op : List Bool} {cs : Array Value} (h : OwB w base va vn vc op) (k : Kept (fun j => j = i) w w') (hi : w.heap[i]? = some (.cells cs 57 (0, 0))) : OwB w' base va vn vc op := ⟨k.row h.1 (fun j hj f => h.ne hi j hj f), h.2⟩
theorem OwB.lt {w : World} {base : Nat} {va : Option Addr} {vn vc : Nat} {op : List Bool} (h : OwB w base va vn vc op) (j : Nat) (hj : (Value.slice va vn vc).ownBlock = some j) : j < w.heap.size := (h.1.lt j hj).2
set_option maxRecDepth 20000 in
set_option maxHeartbeats 4000000 in
theorem quick_open0 (a : Nat) (sg : Bool) (op : List Bool) (hr : a < 15) (y : Tn) (oa : Option Addr) (on oc base : Nat) (w : World) (h8 : isK 8 y = true) (hp : px8 a sg = none) : Calls Tryd.prog 19 #[.agg #[.int .i64 (a : Int), .bool sg, .slice oa on oc], .agg (lxC y)] w (qkPost w base (.slice oa on oc) (stepF ⟨a, sg, op⟩ y)) := by
  have e1 : stepF ⟨a, sg, op⟩ y = none := by rw [step8 a sg op y h8, hp]; rfl
  have e2 : stepF ⟨a, sg, []⟩ y = none := by rw [step8 a sg [] y h8, hp]; rfl
  rw [e1]
  have CB := hideL (fun W (_ : Kept (fun _ => False) w W) => step_any ⟨a, sg, []⟩ hr y none 0 0 W ⟨none, 0, 0, rfl, rfl, Nat.le_refl _, fun h => absurd rfl h⟩ (by omega))
  rw [e2] at CB
  have b8 : (y.k == 8) = true := kq (k := 8) _ h8
  have HP : Hid (∀ (a9 : Int) (sg9 : Bool) (va : Option Addr) (vn vc : Nat) w', Kept (fun _ => False) w w' → qkPost w base (.slice oa on oc) none (.returned (.tuple #[.agg #[.int .i64 a9, .bool sg9, .slice va vn vc], .bool false])) w') := hideL (fun a9 sg9 va vn vc w' k => ⟨k.mono (fun _ f => f.elim), .inl ⟨rfl, a9, sg9, va, vn, vc, rfl⟩⟩)
  have HR : Hid (∀ WB e W1, rwPost WB (.slice none 0 0) [] y none e W1 → ∃ (a : Int) (sg : Bool) (va : Option Addr) (vn vc : Nat), e = .returned (.tuple #[.agg #[.int .i64 a, .bool sg, .slice va vn vc], .bool false]) ∧ Kept (fun _ => False) WB W1) := hideL (fun WB e W1 h => by
    obtain ⟨hk, h⟩ := h
    rcases h with ⟨_, a, sg, va, vn, vc, rfl⟩ | ⟨q, va, vn, vc, hx, _⟩
    · exact ⟨a, sg, va, vn, vc, rfl, hk⟩
    · cases hx)
  generalize qkPost w base (.slice oa on oc) none = QQ at *
  obtain ⟨k, t, n, ya, e⟩ := y
  unfold lxC at *
  dsimp only at *
  obtain ⟨KB, -, -, h2, hz⟩ := boxes3 w #[.int .i64 (a : Int), .bool sg, .slice none 0 0] #[.int .i64 k, .string t, .int .i64 n, .int .i64 ya, .int .i64 e] #[.int .i64 0, .bool false, .slice none 0 0] 57 59 57
  have HKB := hideL KB
  have H2 := hideL h2
  have HZ := hideL hz
  clear h8 hp e1 e2 hr KB h2 hz
  go_enter Tryd.func19, Tryd.ntmps19
  go_wp2_with (go_at_call 21; refine Stp13.go ?_)
  generalize ((w.alloc (.cells #[.int .i64 (a : Int), .bool sg, .slice none 0 0] 57)).alloc (.cells #[.int .i64 k, .string t, .int .i64 n, .int .i64 ya, .int .i64 e] 59)).alloc (.cells #[.int .i64 0, .bool false, .slice none 0 0] 57) = WB at *
  refine ⟨?_⟩
  refine (CB.out WB HKB.out).mono ?_
  intro x W1 h
  obtain ⟨a9, sg9, va, vn, vc, rfl, k1⟩ := HR.out _ _ _ h
  have KN := Kept.alloc W1 (.cells #[.int .i64 a9, .bool sg9, .slice va vn vc] 57)
  have G2 := hideL (KN.heap (k1.heap H2.out (fun f => f)) (fun f => f))
  have K1 := hideL (HKB.out.trans k1 (fun _ f => f.elim))
  have G1 := hideL (k1.heap H2.out (fun f => f))
  have hzz : w.heap.size + 2 < W1.heap.size := by have := k1.size; have := HZ.out; omega
  have n1 : ¬ w.heap.size + 2 = W1.heap.size := by omega
  have n2 : ¬ W1.heap.size = w.heap.size + 2 := by omega
  have HW : Hid (w.heap.size ≤ w.heap.size + 2) := hideL (by omega)
  clear h k1 CB HR H2 HZ HKB KN G2
  generalize w.heap.size + 1 + 1 = g7 at *
  obtain ⟨d0, d1, d2, df⟩ := row3_cells G1.out
  have e0 := df 0
  have e1 := df 1
  have e2 := df 2
  clear df
  go_wp2_with fail
  refine bodyPost_ret (results_cellW rfl _ _ _ g7 _ rfl (load_row3 (by exact (Kept.alloc _ _).heap (row3_put G1.out) (fun f => f)))) rfl ?_
  exact HP.out _ _ _ _ _ _ ((K1.out.trans row3_keptG (fun i e => .inr (by have := HW.out; omega))).trans (Kept.alloc _ _) (fun _ f => f.elim))
set_option maxRecDepth 20000 in
set_option maxHeartbeats 4000000 in
theorem quick_open1 (a : Nat) (sg : Bool) (op : List Bool) (hr : a < 15) (y : Tn) (oa : Option Addr) (on oc base : Nat) (w : World) (hG : OwB w base oa on oc op) (hbase : base ≤ w.heap.size) (hb : on ≤ 900000000000) (h8 : isK 8 y = true) (b : Bool) (hp : px8 a sg = some b) : Calls Tryd.prog 19 #[.agg #[.int .i64 (a : Int), .bool sg, .slice oa on oc], .agg (lxC y)] w (qkPost w base (.slice oa on oc) (stepF ⟨a, sg, op⟩ y)) := by
  have e1 : stepF ⟨a, sg, op⟩ y = some ⟨0, false, op ++ [b]⟩ := by rw [step8 a sg op y h8, hp]; rfl
  have e2 : stepF ⟨a, sg, []⟩ y = some ⟨0, false, [b]⟩ := by rw [step8 a sg [] y h8, hp]; rfl
  rw [e1]
  have CB := hideL (fun W (_ : Kept (fun _ => False) w W) => step_any ⟨a, sg, []⟩ hr y none 0 0 W ⟨none, 0, 0, rfl, rfl, Nat.le_refl _, fun h => absurd rfl h⟩ (by omega))
  rw [e2] at CB
  have b8 : (y.k == 8) = true := kq (k := 8) _ h8
  have HP : Hid (∀ (va : Option Addr) (vc : Nat) w', OwB w' base va (on + 1) vc (op ++ [b]) → Kept (fun i => (Value.slice oa on oc).ownBlock = some i) w w' → qkPost w base (.slice oa on oc) (some ⟨0, false, op ++ [b]⟩) (.returned (.tuple #[.agg #[.int .i64 0, .bool false, .slice va (on + 1) vc], .bool true])) w') := hideL (fun va vc w' x k => ⟨k, .inr ⟨_, va, on + 1, vc, rfl, rfl, x⟩⟩)
  have HR : Hid (∀ WB e W1, rwPost WB (.slice none 0 0) [] y (some ⟨0, false, [b]⟩) e W1 → ∃ (g o vc : Nat), e = .returned (.tuple #[.agg #[.int .i64 0, .bool false, .slice (some ⟨g, o, none⟩) 1 vc], .bool true]) ∧ Kept (fun _ => False) WB W1 ∧ W1.cell? ⟨g, o, none⟩ = some (.bool b)) := hideL (fun WB e W1 h => by
    obtain ⟨hk, h⟩ := h
    rcases h with ⟨hx, _⟩ | ⟨q, va, vn, vc, hx, rfl, ho, _⟩
    · cases hx
    · have hx := Option.some.inj hx
      subst hx
      rcases ho with ⟨_, ho⟩ | ho
      · cases ho
      · obtain ⟨a', n', c', ee, hn, _, hc⟩ := ho
        injection ee with ee1 ee2 ee3
        subst ee1 ee2 ee3
        obtain ⟨g, o, rfl, _, hcell⟩ := hc (by simp)
        have hn : vn = 1 := hn
        subst hn
        exact ⟨g, o, vc, rfl, hk, by have := hcell 0 b rfl; simpa using this⟩)
  have HG := hideL hG
  have HBa := hideL hbase
  generalize qkPost w base (.slice oa on oc) (some ⟨0, false, op ++ [b]⟩) = QQ at *
  obtain ⟨k, t, n, ya, e⟩ := y
  unfold lxC at *
  dsimp only at *
  obtain ⟨KB, -, -, h2, hz⟩ := boxes3 w #[.int .i64 (a : Int), .bool sg, .slice none 0 0] #[.int .i64 k, .string t, .int .i64 n, .int .i64 ya, .int .i64 e] #[.int .i64 0, .bool false, .slice none 0 0] 57 59 57
  have HKB := hideL KB
  have H2 := hideL h2
  have HZ := hideL hz
  clear h8 hp e1 e2 hr hG hbase KB h2 hz
  go_enter Tryd.func19, Tryd.ntmps19
  go_wp2_with (go_at_call 21; refine Stp13.go ?_)
  generalize ((w.alloc (.cells #[.int .i64 (a : Int), .bool sg, .slice none 0 0] 57)).alloc (.cells #[.int .i64 k, .string t, .int .i64 n, .int .i64 ya, .int .i64 e] 59)).alloc (.cells #[.int .i64 0, .bool false, .slice none 0 0] 57) = WB at *
  refine ⟨?_⟩
  refine (CB.out WB HKB.out).mono ?_
  intro x W1 h
  obtain ⟨g, o, vc, rfl, k1, x1⟩ := HR.out _ _ _ h
  have KN := Kept.alloc W1 (.cells #[.int .i64 0, .bool false, .slice (some ⟨g, o, none⟩) 1 vc] 57)
  have hN := heap_alloc_new W1 (.cells #[.int .i64 0, .bool false, .slice (some ⟨g, o, none⟩) 1 vc] 57)
  have KW := (HKB.out.trans k1 (fun _ f => f.elim)).trans KN (fun _ f => f.elim)
  have G2a := hideL (KN.heap (k1.heap H2.out (fun f => f)) (fun f => f))
  have K2 := hideL KW
  have HN := hideL hN
  have HGN := hideL (HG.out.later KW)
  have x2 := KN.cell x1 (fun f => f)
  have hzz : w.heap.size + 2 < W1.heap.size := by have := k1.size; have := HZ.out; omega
  have HBN : Hid (base ≤ (W1.alloc (.cells #[.int .i64 0, .bool false, .slice (some ⟨g, o, none⟩) 1 vc] 57)).heap.size) := hideL (by have := KW.size; have := HBa.out; omega)
  have HOL : Hid (∀ j, (Value.slice oa on oc).ownBlock = some j → j < w.heap.size) := hideL (fun j hj => HG.out.lt j hj)
  have HSN : Hid ((W1.alloc (.cells #[.int .i64 0, .bool false, .slice (some ⟨g, o, none⟩) 1 vc] 57)).heap.size = W1.heap.size + 1) := hideL (by simp)
  have n1 : ¬ w.heap.size + 2 = W1.heap.size := by omega
  have n2 : ¬ W1.heap.size = w.heap.size + 2 := by omega
  have HW : Hid (w.heap.size ≤ w.heap.size + 2) := hideL (by omega)
  clear h k1 CB HR H2 HZ HKB KN KW hN HG HBa x1
  go_wp2_with (at_builtin; refine wpList_pushBo (base := base) rfl _ _ rfl oa on oc op b rfl HGN.out HBN.out _ HSN.out.symm (by first | rfl | simp) (by omega) ?_; intro va' vc' W5 g5 k5; have GN := hideL (k5.heap HN.out (fun e => by have := HOL.out _ e; omega)); have G2 := hideL (k5.heap G2a.out (fun e => by have := HOL.out _ e; omega)); have HG5 := hideL g5; have K5 := hideL ((K2.out.mono (fun _ f => f.elim)).trans k5 (fun i e => .inl e)); obtain ⟨c0, c1, c2, cf⟩ := row3_cells GN.out; have f0 := cf 0; have f1 := cf 1; have f2 := cf 2; obtain ⟨d0, d1, d2, df⟩ := row3_cells G2.out; have e0 := df 0; have e1 := df 1; have e2 := df 2; clear g5 k5 cf df HGN HBN HSN HN G2a K2 x2)
  have KS : Kept (fun i => i = W1.heap.size) W5 (W5.setCell ⟨W1.heap.size, 2, none⟩ (.slice va' (on + 1) vc')) := (Kept.setCell _ _ _).mono (fun i e => .inl e)
  have h72 := KS.heap G2.out n1
  refine bodyPost_ret (results_cellW rfl _ _ _ (w.heap.size + 1 + 1) _ rfl (load_row3 (by exact row3_put h72))) rfl ?_
  exact HP.out va' vc' _ ((HG5.out.put KS GN.out).put row3_keptG h72) ((K5.out.trans KS (fun i e => .inr (by omega))).trans row3_keptG (fun i e => .inr (by omega)))
end Go.Proofs.YtiemiphlfbaojaaDoor
namespace Go.Proofs.YtiemiphlfbaojaaDoor
open Go.ChangeShapes Go.WideShapes Go.ChangeAt Go.RowKit
variable {w : World}
set_option maxRecDepth 20000 in
set_option maxHeartbeats 4000000 in
theorem quick_close0 (a : Nat) (sg : Bool) (y : Tn) (oa : Option Addr) (oc base : Nat) (w : World) (h9 : isK 9 y = true) : Calls Tryd.prog 19 #[.agg #[.int .i64 (a : Int), .bool sg, .slice oa 0 oc], .agg (lxC y)] w (qkPost w base (.slice oa 0 oc) (stepF ⟨a, sg, []⟩ y)) := by
  have e1 : stepF ⟨a, sg, []⟩ y = none := by rw [step9 a sg [] y h9]; cases px9 a <;> rfl
  rw [e1]
  have b8 : (y.k == 8) = false := kq (k := 8) _ (isK_otherW h9 (by decide))
  have b9 : (y.k == 9) = true := kq (k := 9) _ h9
  have HP : Hid (∀ w', Kept (fun _ => False) w w' → qkPost w base (.slice oa 0 oc) none (.returned (.tuple #[.agg #[.int .i64 (a : Int), .bool sg, .slice oa 0 oc], .bool false])) w') := hideL (fun w' k => ⟨k.mono (fun _ f => f.elim), .inl ⟨rfl, _, sg, oa, 0, oc, rfl⟩⟩)
  generalize qkPost w base (.slice oa 0 oc) none = QQ at *
  obtain ⟨k, t, n, ya, e⟩ := y
  unfold lxC at *
  dsimp only at *
  clear h9 e1
  go_enter Tryd.func19, Tryd.ntmps19
  go_wp2_with fail
  refine bodyPost_ret (results_cellW rfl _ _ _ (w.heap.size + 1 + 1) _ rfl (load_row3 (by exact (boxes3 w _ _ _ _ _ _).2.2.2.1))) rfl ?_
  exact HP.out _ (boxes3 w _ _ _ _ _ _).1
set_option maxRecDepth 20000 in
set_option maxHeartbeats 4000000 in
theorem quick_close1 (a : Nat) (sg b : Bool) (init : List Bool) (hr : a < 15) (y : Tn) (g m oc base : Nat) (w : World) (hG : OwB w base (some ⟨g, 0, none⟩) (m + 1) oc (init ++ [b])) (hb : m ≤ 900000000000) (h9 : isK 9 y = true) : Calls Tryd.prog 19 #[.agg #[.int .i64 (a : Int), .bool sg, .slice (some ⟨g, 0, none⟩) (m + 1) oc], .agg (lxC y)] w (qkPost w base (.slice (some ⟨g, 0, none⟩) (m + 1) oc) (stepF ⟨a, sg, init ++ [b]⟩ y)) := by
  have e1 : stepF ⟨a, sg, init ++ [b]⟩ y = if px9 a then some ⟨8, b, init⟩ else none := by rw [step9 a sg _ y h9]; cases px9 a <;> simp
  have e2 : stepF ⟨a, sg, [b]⟩ y = if px9 a then some ⟨8, b, []⟩ else none := by rw [step9 a sg _ y h9]; cases px9 a <;> simp
  rw [e1]
  obtain ⟨hB, hn, hc⟩ := hG.opv.bools
  have hm : m = init.length := by rw [List.length_append] at hn; simpa using hn
  obtain ⟨g', o', eg, hcell⟩ := hB (by simp)
  injection eg with eg
  injection eg with eg1 eg2 _
  subst eg1 eg2
  have hlast := hcell m b (by rw [hm]; simp)
  rw [Nat.zero_add] at hlast
  have CB := hideL (fun W (k : Kept (fun _ => False) w W) => step_any ⟨a, sg, [b]⟩ hr y (some ⟨g, m, none⟩) 1 (oc - m) W ⟨_, 1, oc - m, rfl, rfl, by omega, fun _ => ⟨g, m, rfl, fun j c hj => by
    match j, hj with
    | 0, hj => simp at hj; subst hj; exact k.cell hlast (fun f => f)⟩⟩ (by omega))
  rw [e2] at CB
  have b8 : (y.k == 8) = false := kq (k := 8) _ (isK_otherW h9 (by decide))
  have b9 : (y.k == 9) = true := kq (k := 9) _ h9
  have HR : Hid (∀ WB e W1, rwPost WB (.slice (some ⟨g, m, none⟩) 1 (oc - m)) [b] y (if px9 a then some ⟨8, b, []⟩ else none) e W1 → ∃ (a9 : Int) (sg9 : Bool) (va : Option Addr) (vn vc : Nat) (B : Bool), e = .returned (.tuple #[.agg #[.int .i64 a9, .bool sg9, .slice va vn vc], .bool B]) ∧ Kept (fun _ => False) WB W1 ∧ ∀ W2, Kept (fun _ => False) w W2 → qkPost w base (.slice (some ⟨g, 0, none⟩) (m + 1) oc) (if px9 a then some ⟨8, b, init⟩ else none) (.returned (.tuple #[.agg #[.int .i64 a9, .bool sg9, .slice (some ⟨g, 0, none⟩) m oc], .bool B])) W2) := hideL (fun WB e W1 h => by
    obtain ⟨hk, h⟩ := h
    rcases h with ⟨hx, a9, sg9, va, vn, vc, rfl⟩ | ⟨q, va, vn, vc, hx, rfl, _, _⟩
    · refine ⟨a9, sg9, va, vn, vc, false, rfl, hk, fun W2 k2 => ⟨k2.mono (fun _ f => f.elim), .inl ⟨?_, a9, sg9, _, m, oc, rfl⟩⟩⟩
      cases hq : px9 a
      · rfl
      · rw [hq] at hx; cases hx
    · refine ⟨_, _, va, vn, vc, true, rfl, hk, fun W2 k2 => ⟨k2.mono (fun _ f => f.elim), .inr ⟨⟨8, b, init⟩, _, m, oc, ?_, ?_, hG.take.later k2⟩⟩⟩
      · cases hq : px9 a
        · rw [hq] at hx; cases hx
        · rfl
      · cases hq : px9 a
        · rw [hq] at hx; cases hx
        · rw [hq] at hx
          have hx := Option.some.inj hx
          subst hx
          rfl)
  generalize qkPost w base (.slice (some ⟨g, 0, none⟩) (m + 1) oc) (if px9 a then some ⟨8, b, init⟩ else none) = QQ at *
  have hne : ((m : Int) + 1 == 0) = false := by simp only [beq_eq_false_iff_ne]; omega
  have hmc : (m : Int) ≤ (oc : Int) := by omega
  have hcc : (m : Int) + 1 ≤ (oc : Int) := by omega
  obtain ⟨k, t, n, ya, e⟩ := y
  unfold lxC at *
  dsimp only at *
  obtain ⟨KB, -, -, h2, hz⟩ := boxes3 w #[.int .i64 (a : Int), .bool sg, .slice (some ⟨g, m, none⟩) 1 (oc - m)] #[.int .i64 k, .string t, .int .i64 n, .int .i64 ya, .int .i64 e] #[.int .i64 0, .bool false, .slice none 0 0] 57 59 57
  have HKB := hideL KB
  have H2 := hideL h2
  have HZ := hideL hz
  clear h9 e1 e2 hr hG hB hn hm hcell hlast KB h2 hz
  go_enter Tryd.func19, Tryd.ntmps19
  go_wp2_with (go_at_call 21; refine Stp13.go ?_)
  generalize ((w.alloc (.cells #[.int .i64 (a : Int), .bool sg, .slice (some ⟨g, m, none⟩) 1 (oc - m)] 57)).alloc (.cells #[.int .i64 k, .string t, .int .i64 n, .int .i64 ya, .int .i64 e] 59)).alloc (.cells #[.int .i64 0, .bool false, .slice none 0 0] 57) = WB at *
  refine ⟨?_⟩
  refine (CB.out WB HKB.out).mono ?_
  intro x W1 h
  obtain ⟨a9, sg9, va, vn, vc, B, rfl, k1, hQ⟩ := HR.out _ _ _ h
  have HQ := hideL hQ
  have K1 := hideL (HKB.out.trans k1 (fun _ f => f.elim))
  have G1 := hideL (k1.heap H2.out (fun f => f))
  have hzz : w.heap.size + 2 < W1.heap.size := by have := k1.size; have := HZ.out; omega
  have n1 : ¬ w.heap.size + 2 = W1.heap.size := by omega
  have n2 : ¬ W1.heap.size = w.heap.size + 2 := by omega
  have HW : Hid (w.heap.size ≤ w.heap.size + 2) := hideL (by omega)
  clear h hQ k1 CB HR H2 HZ HKB
  generalize w.heap.size + 1 + 1 = g7 at *
  obtain ⟨d0, d1, d2, df⟩ := row3_cells G1.out
  have e0 := df 0
  have e1 := df 1
  have e2 := df 2
  clear df
  go_wp2_with fail
  refine bodyPost_ret (results_cellW rfl _ _ _ g7 _ rfl (load_row3 (by exact (Kept.alloc _ _).heap (row3_put G1.out) (fun f => f)))) rfl ?_
  exact HQ.out _ ((K1.out.trans row3_keptG (fun i e => .inr (by have := HW.out; omega))).trans (Kept.alloc _ _) (fun _ f => f.elim))
theorem quick_any (r : Rs) (hr : r.at' < 15) (y : Tn) (oa : Option Addr) (on oc base : Nat) (w : World) (hG : OwB w base oa on oc r.op) (hbase : base ≤ w.heap.size) (hb : on ≤ 900000000000) : Calls Tryd.prog 19 #[.agg #[.int .i64 (r.at' : Int), .bool r.sg, .slice oa on oc], .agg (lxC y)] w (qkPost w base (.slice oa on oc) (stepF r y)) := by
  obtain ⟨a, sg, op⟩ := r
  cases h8 : isK 8 y with
  | true =>
    cases hp : px8 a sg with
    | none => exact quick_open0 a sg op hr y oa on oc base w h8 hp
    | some b => exact quick_open1 a sg op hr y oa on oc base w hG hbase hb h8 b hp
  | false =>
    cases h9 : isK 9 y with
    | false => exact quick_other ⟨a, sg, op⟩ hr y oa on oc base w hG hb h8 h9
    | true =>
      cases he : op.isEmpty with
      | true =>
        obtain rfl : op = [] := List.isEmpty_iff.1 he
        obtain rfl : on = 0 := hG.2
        exact quick_close0 a sg y oa oc base w h9
      | false =>
        obtain ⟨init, b, rfl⟩ := last_of he
        have hn := hG.2
        have hn : on = init.length + 1 := by rw [hn]; simp
        subst hn
        rcases hG.1.2 with ⟨_, e2⟩ | ⟨g, cap, cur, e1, _⟩
        · omega
        · injection e1 with e1 _ _
          subst e1
          exact quick_close1 a sg b init hr y g init.length oc base w hG (by omega) h9
end Go.Proofs.YtiemiphlfbaojaaDoor
namespace Go.Proofs.YtiemiphlfbaojaaDoor
open Go.ChangeShapes Go.WideShapes Go.ChangeAt Go.RowKit
variable {w : World}

/-! Tokens that stand for a kind; Follow's memory. -/
def smC (y : Tn) : List Value := [.int .i64 y.k, .string y.t, .int .i64 y.n, .int .i64 y.a, .int .i64 y.e]
def smPost (w : World) (k : Nat) (e : Ending) (w' : World) : Prop := ∃ g, e = .returned (.slice (some ⟨g, 0, none⟩) (smT k).length (smT k).length) ∧ Rw w' (some ⟨g, 0, none⟩) (smT k) ∧ Kept (fun _ => False) w w'
theorem rw_new (w : World) (l : List Value) (t : TypeId) (R : List Tn) (h : ∀ j y, R[j]? = some y → ∀ i, i < 5 → l[j * 5 + i]? = (smC y)[i]?) : Rw (w.alloc (.cells l.toArray t)) (some ⟨w.heap.size, 0, none⟩) R := fun _ => ⟨_, 0, rfl, fun j y hy => by
  have hh := h j y hy
  refine ⟨?_, ?_, ?_, ?_, ?_⟩ <;> rw [World.cell?_alloc_new]
  · have := hh 0 (by omega); simp [smC] at this; simpa using this
  · have := hh 1 (by omega); simp [smC] at this; simpa using this
  · have := hh 2 (by omega); simp [smC] at this; simpa using this
  · have := hh 3 (by omega); simp [smC] at this; simpa using this
  · have := hh 4 (by omega); simp [smC] at this; simpa using this⟩
set_option maxRecDepth 20000 in
set_option maxHeartbeats 4000000 in
theorem some_two (w : World) : Calls Tryd.prog 20 #[.int .i64 2] w (smPost w 2) := by
  have HP : Hid (∀ w1, Kept (fun _ => False) w w1 → smPost w 2 (.returned (.slice (some ⟨w1.heap.size, 0, none⟩) 2 2)) (w1.alloc (.cells #[.int .i64 2, .string ⟨#[42]⟩, .int .i64 0, .int .i64 0, .int .i64 0, .int .i64 2, .string ⟨#[97, 42]⟩, .int .i64 0, .int .i64 0, .int .i64 0] 59))) := hideL (fun w1 k => ⟨_, rfl, rw_new w1 [.int .i64 2, .string ⟨#[42]⟩, .int .i64 0, .int .i64 0, .int .i64 0, .int .i64 2, .string ⟨#[97, 42]⟩, .int .i64 0, .int .i64 0, .int .i64 0] _ (smT 2) (fun j y hy i hi => by
    match j, hy with
    | 0, hy => obtain rfl := Option.some.inj hy; match i, hi with | 0, _ => rfl | 1, _ => rfl | 2, _ => rfl | 3, _ => rfl | 4, _ => rfl
    | 1, hy => obtain rfl := Option.some.inj hy; match i, hi with | 0, _ => rfl | 1, _ => rfl | 2, _ => rfl | 3, _ => rfl | 4, _ => rfl), k.trans (Kept.alloc _ _) (fun _ f => f.elim)⟩)
  generalize smPost w 2 = QQ at *
  go_enter Tryd.func20, Tryd.ntmps20
  go_wp2_with fail
  have := HP.out _ (Kept.alloc w (.cells #[.int .i64 2, .string ⟨#[]⟩, .int .i64 0, .int .i64 0, .int .i64 0] 59))
  simpa using this
set_option maxRecDepth 20000 in
set_option maxHeartbeats 4000000 in
theorem some_tilde (w : World) : Calls Tryd.prog 20 #[.int .i64 20] w (smPost w 20) := by
  have HP : Hid (∀ w1, Kept (fun _ => False) w w1 → smPost w 20 (.returned (.slice (some ⟨w1.heap.size, 0, none⟩) 3 3)) (w1.alloc (.cells #[.int .i64 20, .string ⟨#[]⟩, .int .i64 (-1), .int .i64 0, .int .i64 0, .int .i64 20, .string ⟨#[]⟩, .int .i64 1, .int .i64 0, .int .i64 0, .int .i64 20, .string ⟨#[]⟩, .int .i64 3, .int .i64 0, .int .i64 0] 59))) := hideL (fun w1 k => ⟨_, rfl, rw_new w1 [.int .i64 20, .string ⟨#[]⟩, .int .i64 (-1), .int .i64 0, .int .i64 0, .int .i64 20, .string ⟨#[]⟩, .int .i64 1, .int .i64 0, .int .i64 0, .int .i64 20, .string ⟨#[]⟩, .int .i64 3, .int .i64 0, .int .i64 0] _ (smT 20) (fun j y hy i hi => by
    match j, hy with
    | 0, hy => obtain rfl := Option.some.inj hy; match i, hi with | 0, _ => rfl | 1, _ => rfl | 2, _ => rfl | 3, _ => rfl | 4, _ => rfl
    | 1, hy => obtain rfl := Option.some.inj hy; match i, hi with | 0, _ => rfl | 1, _ => rfl | 2, _ => rfl | 3, _ => rfl | 4, _ => rfl
    | 2, hy => obtain rfl := Option.some.inj hy; match i, hi with | 0, _ => rfl | 1, _ => rfl | 2, _ => rfl | 3, _ => rfl | 4, _ => rfl), k.trans (Kept.alloc _ _) (fun _ f => f.elim)⟩)
  generalize smPost w 20 = QQ at *
  go_enter Tryd.func20, Tryd.ntmps20
  go_wp2_with fail
  have := HP.out _ (Kept.alloc w (.cells #[.int .i64 20, .string ⟨#[]⟩, .int .i64 0, .int .i64 0, .int .i64 0] 59))
  simpa using this
set_option maxRecDepth 20000 in
set_option maxHeartbeats 4000000 in
theorem some_plain (k : Nat) (w : World) (h2 : k ≠ 2) (h20 : k ≠ 20) : Calls Tryd.prog 20 #[.int .i64 (k : Int)] w (smPost w k) := by
  have e1 : smT k = [⟨(k : Int), ⟨#[]⟩, 0, 0, 0⟩] := by unfold smT; rw [if_neg h2, if_neg h20]
  have HP : Hid (∀ w1, Kept (fun _ => False) w w1 → smPost w k (.returned (.slice (some ⟨w1.heap.size, 0, none⟩) 1 1)) (w1.alloc (.cells #[.int .i64 (k : Int), .string ⟨#[]⟩, .int .i64 0, .int .i64 0, .int .i64 0] 59))) := hideL (fun w1 kk => by
    unfold smPost
    rw [e1]
    exact ⟨_, rfl, rw_new w1 [.int .i64 (k : Int), .string ⟨#[]⟩, .int .i64 0, .int .i64 0, .int .i64 0] _ _ (fun j y hy i hi => by
      match j, hy with
      | 0, hy => obtain rfl := Option.some.inj hy; match i, hi with | 0, _ => rfl | 1, _ => rfl | 2, _ => rfl | 3, _ => rfl | 4, _ => rfl), kk.trans (Kept.alloc _ _) (fun _ f => f.elim)⟩)
  generalize smPost w k = QQ at *
  have b2 : ((k : Int) == 2) = false := by simp only [beq_eq_false_iff_ne]; omega
  have b20 : ((k : Int) == 20) = false := by simp only [beq_eq_false_iff_ne]; omega
  clear e1 h2 h20
  go_enter Tryd.func20, Tryd.ntmps20
  go_wp2_with fail
  have := HP.out _ (Kept.alloc w (.cells #[.int .i64 (k : Int), .string ⟨#[]⟩, .int .i64 0, .int .i64 0, .int .i64 0] 59))
  simpa using this
theorem some_any (k : Nat) (w : World) : Calls Tryd.prog 20 #[.int .i64 (k : Int)] w (smPost w k) := by
  by_cases h2 : k = 2
  · subst h2; exact some_two w
  · by_cases h20 : k = 20
    · subst h20; exact some_tilde w
    · exact some_plain k w h2 h20
theorem own_apart {w : World} {base b2 m : Nat} {v : Value} {L : List Int} {oa : Option Addr} {on oc : Nat} {op : List Bool} (h : w.ownsRow base 3 1 v m (iv L)) (h2 : OwB w b2 oa on oc op) (j : Nat) (hj : v.ownBlock = some j) (hk : (Value.slice oa on oc).ownBlock = some j) : False := by
  rcases h.2 with ⟨rfl, _⟩ | ⟨g, cap, cur, rfl, _, hg, _⟩
  · simp [Value.ownBlock] at hj
  · rcases h2.1.2 with ⟨e1, _⟩ | ⟨g', cap', cur', e1, _, hg', _⟩
    · rw [e1] at hk; simp [Value.ownBlock] at hk
    · rw [e1] at hk
      simp [Value.ownBlock] at hj hk
      subst hj hk
      rw [hg] at hg'
      simp at hg'
/-- Follow's world: the row's box, the open groups, the list that is answered. -/
structure FlS (w wr : World) (rb : Nat) (r : Rs) (oa : Option Addr) (on oc : Nat) (v : Value) (m : Nat) (L : List Int) : Prop where
  kept : Kept (fun _ => False) w wr
  row : wr.heap[rb]? = some (.cells #[.int .i64 (r.at' : Int), .bool r.sg, .slice oa on oc] 57 (0, 0))
  opn : OwB wr (rb + 1) oa on oc r.op
  out : wr.ownsRow w.heap.size 3 1 v m (iv L)
  hb : w.heap.size ≤ rb
variable {wr wr' : World} {rb : Nat} {r : Rs} {oa : Option Addr} {on oc : Nat} {v : Value} {m : Nat} {L : List Int}
theorem FlS.later (h : FlS w wr rb r oa on oc v m L) (k : Kept (fun _ => False) wr wr') : FlS w wr' rb r oa on oc v m L :=
  ⟨h.kept.trans k (fun _ f => f.elim), k.heap h.row (fun f => f), h.opn.later k, k.row h.out (fun _ _ f => f), h.hb⟩
theorem FlS.lt (h : FlS w wr rb r oa on oc v m L) : rb < wr.heap.size := (Array.getElem?_eq_some_iff.mp h.row).1
theorem FlS.quick (h : FlS w wr rb r oa on oc v m L) (k : Kept (fun i => (Value.slice oa on oc).ownBlock = some i) wr wr') {q : Rs} {va : Option Addr} {vn vc : Nat} (ho : OwB wr' (rb + 1) va vn vc q.op) : Kept (fun _ => False) w wr' ∧ wr'.heap[rb]? = some (.cells #[.int .i64 (r.at' : Int), .bool r.sg, .slice oa on oc] 57 (0, 0)) ∧ wr'.ownsRow w.heap.size 3 1 v m (iv L) ∧ OwB wr' (rb + 1) va vn vc q.op := by
  have hlt : ∀ i, (Value.slice oa on oc).ownBlock = some i → rb + 1 ≤ i := fun i hi => (h.opn.1.lt i hi).1
  refine ⟨h.kept.trans k (fun i hi => .inr (by have := hlt i hi; have := h.hb; omega)), k.heap h.row (fun e => by have := hlt rb e; omega), k.row h.out (fun i hi e => own_apart h.out h.opn i hi e), ho⟩
theorem FlS.quick0 (h : FlS w wr rb r oa on oc v m L) (k : Kept (fun i => (Value.slice oa on oc).ownBlock = some i) wr wr') : Kept (fun _ => False) w wr' ∧ wr'.ownsRow w.heap.size 3 1 v m (iv L) := by
  have hlt : ∀ i, (Value.slice oa on oc).ownBlock = some i → rb + 1 ≤ i := fun i hi => (h.opn.1.lt i hi).1
  exact ⟨h.kept.trans k (fun i hi => .inr (by have := hlt i hi; have := h.hb; omega)), k.row h.out (fun i hi e => own_apart h.out h.opn i hi e)⟩
theorem fl_set {W : World} {q : Rs} {va : Option Addr} {vn vc : Nat} {x0 x1 x2 : Value} (hk : Kept (fun _ => False) w W) (hr : W.heap[rb]? = some (.cells #[x0, x1, x2] 57 (0, 0))) (ho : W.ownsRow w.heap.size 3 1 v m (iv L)) (hO : OwB W (rb + 1) va vn vc q.op) (hb : w.heap.size ≤ rb) :
    FlS w (((W.setCell ⟨rb, 0, none⟩ (.int .i64 (q.at' : Int))).setCell ⟨rb, 1, none⟩ (.bool q.sg)).setCell ⟨rb, 2, none⟩ (.slice va vn vc)) rb q va vn vc v m L := by
  have K := row3_keptG (W := W) (g := rb) (v0 := .int .i64 (q.at' : Int)) (v1 := .bool q.sg) (v2 := .slice va vn vc)
  refine ⟨hk.trans K (fun i e => .inr (by omega)), row3_put hr, hO.put K hr, K.row ho (fun i hi e => ?_), hb⟩
  subst e
  rcases ho.2 with ⟨rfl, _⟩ | ⟨g, cap, cur, rfl, _, hg, _⟩
  · simp [Value.ownBlock] at hi
  · simp [Value.ownBlock] at hi
    subst hi
    rw [hr] at hg
    simp at hg
theorem FlS.push (h : FlS w wr rb r oa on oc v m L) {a' : Option Addr} {c' : Nat} {y : Int} (ho : wr'.ownsRow w.heap.size 3 1 (.slice a' (m + 1) c') (m + 1) (iv (L ++ [y]))) (k : Kept (fun i => v.ownBlock = some i) wr wr') : FlS w wr' rb r oa on oc (.slice a' (m + 1) c') (m + 1) (L ++ [y]) := by
  refine ⟨h.kept.trans k (fun i hi => .inr (h.out.lt i hi).1), k.heap h.row (fun e => ?_), ⟨k.row h.opn.1 (fun i hi e => own_apart h.out h.opn i e hi), h.opn.2⟩, ho, h.hb⟩
  rcases h.out.2 with ⟨rfl, _⟩ | ⟨g, cap, cur, rfl, _, hg, _⟩
  · simp [Value.ownBlock] at e
  · simp [Value.ownBlock] at e
    subst e
    rw [h.row] at hg
    simp at hg
theorem step_len (r q : Rs) (y : Tn) (h : stepF r y = some q) : q.op.length ≤ r.op.length + 1 := by
  have hb : ∀ (p : Rs) fld, begunF p y fld = some q → q.op.length ≤ p.op.length + 1 := by
    intro p fld hq
    unfold begunF at hq
    split at hq
    · cases hq; show p.op.length ≤ _; omega
    · obtain ⟨a, ha, hq⟩ := Option.map_eq_some_iff.1 hq
      split at hq
      · cases hq; show (p.op ++ [p.sg]).length ≤ _; rw [List.length_append]; exact Nat.le_refl _
      · cases hq; show p.op.length ≤ _; omega
  have hc : ∀ p : Rs, clauseF p y = some q → q.op.length ≤ p.op.length + 1 := by
    intro p hq
    unfold clauseF at hq
    split at hq
    · cases hq; show p.op.length ≤ _; omega
    · exact hb ⟨p.at', false, p.op⟩ _ hq
  have hd : ∀ p : Rs, behindF p y = some q → q.op.length ≤ p.op.length + 1 := by
    intro p hq
    unfold behindF at hq
    split at hq
    · cases hq; show p.op.length ≤ _; omega
    · split at hq
      · split at hq
        · cases hq
        · cases hq; show p.op.length ≤ _; omega
      · split at hq
        · split at hq
          · cases hq
          · cases hq; show p.op.dropLast.length ≤ _; rw [List.length_dropLast]; omega
        · split at hq
          · split at hq
            · cases hq; show p.op.length ≤ _; omega
            · cases hq
          · exact hc _ hq
  unfold stepF at h
  repeat' split at h
  all_goals first | exact hb _ _ h | exact hc _ h | exact hd _ h | (cases h; done) | (cases h; simp)
theorem rf_len {R : List Tn} : ∀ (i : Nat) (r : Rs), i ≤ R.length → rfR (R.take i) = some r → r.op.length ≤ i ∧ r.at' < 15 := by
  intro i
  induction i with
  | zero =>
    intro r _ h
    rw [List.take_zero] at h
    have h : some r00 = some r := h
    cases h
    exact ⟨Nat.le_refl _, by decide⟩
  | succ i ih =>
    intro r hi h
    have hy : R[i]? = some R[i] := List.getElem?_eq_getElem (by omega)
    rw [rf_next hy] at h
    cases hq : rfR (R.take i) with
    | none => rw [hq] at h; cases h
    | some q =>
      rw [hq] at h
      have h : stepF q R[i] = some r := h
      have h1 := ih q (by omega) hq
      have := step_len q r _ h
      exact ⟨by omega, step_lt q r _ h⟩
end Go.Proofs.YtiemiphlfbaojaaDoor
