import Derived.Test.YtiebmmpnmklpnaaDoorMrg11
import Derived.Test.YtiebmmpnmklpnaaDoorMrg12
import Derived.Test.YtiebmmpnmklpnaaDoorMrg5
import Derived.Test.YtiebmmpnmklpnaaDoorMrg13
namespace Go.Proofs.YtiebmmpnmklpnaaDoor
open Go.ChangeShapes Go.WideShapes Go.ChangeAt Go.RowKit

/-- What Heights answers of a program, good or not: the list, its length, the error and its number. -/
def Hu (p : Pg) (ac : Addr) (HA : List Int) (n : Nat) (er : Value) (k : Int) : Prop :=
  (∃ L, Vok p L ∧ HA = hL L ∧ n = L.length ∧ er = .nilIface ∧ k = 0) ∨ ((¬ ∃ L, Vok p L) ∧ HA = [] ∧ n = 0 ∧ er = errV ac ∧ k = 21)
theorem hu_ex (p : Pg) (ac : Addr) : ∃ HA n er k, Hu p ac HA n er k := by
  by_cases h : ∃ L, Vok p L
  · obtain ⟨L, h⟩ := h
    exact ⟨_, _, _, _, .inl ⟨L, h, rfl, rfl, rfl, rfl⟩⟩
  · exact ⟨_, _, _, _, .inr ⟨h, rfl, rfl, rfl, rfl⟩⟩
theorem Hu.len {p : Pg} {ac : Addr} {HA : List Int} {n : Nat} {er : Value} {k : Int} (h : Hu p ac HA n er k) : HA.length = n := by
  rcases h with ⟨L, -, e, e2, -⟩ | ⟨-, e, e2, -⟩
  · rw [e, e2, hL_len]
  · rw [e, e2]; rfl
theorem Hu.le {p : Pg} {ac : Addr} {HA : List Int} {n : Nat} {er : Value} {k : Int} (h : Hu p ac HA n er k) (hO : p.Ok) : n ≤ 67108864 := by
  rcases h with ⟨L, hv, -, e2, -⟩ | ⟨-, -, e2, -⟩
  · obtain ⟨f1, -, -⟩ := dcI_form p.co.length p.co L (Nat.le_refl _) hO.co hv.dc
    have q1 := ibL_ge L
    have := hO.len
    rw [f1] at q1
    omega
  · omega
theorem nil_row (w : World) (b : Nat) : w.ownsRow b 3 1 (.slice none 0 0) 0 (is []) := ⟨rfl, .inl ⟨rfl, rfl⟩⟩
theorem heights_uni {p : Pg} {HA : List Int} {n : Nat} {er : Value} {k : Int} (aA aC aN aD aO : Option Addr) (cA cC cN cD cO : Nat) (a0 a1 ac : Addr) (w : World) (hu : Hu p ac HA n er k) (hP : PgAt w p aA aC aN aD aO) (hO : p.Ok) (hE : VE w a0 a1 ac) :
    Calls Tryd.prog 10 #[.agg #[.slice aA p.av.length cA, .slice aC p.cu.length cC, .slice aN p.nr.length cN, .bool p.al, .slice aD p.dr.length cD, .slice aO p.co.length cO]] w fun e w' => ∃ a c, e = .returned (.tuple #[.slice a n c, er]) ∧ w'.ownsRow w.heap.size 3 1 (.slice a n c) n (is HA) ∧ Kept (fun _ => False) w w' := by
  refine (heights_any p aA aC aN aD aO cA cC cN cD cO a0 a1 ac w hP hO hE).mono ?_
  rintro e w' ⟨h1, h2, h3⟩
  rcases hu with ⟨L, hv, rfl, rfl, rfl, rfl⟩ | ⟨hv, rfl, rfl, rfl, rfl⟩
  · obtain ⟨a, c, e1, hg⟩ := h1 L hv
    exact ⟨a, c, e1, hg.own, h3⟩
  · exact ⟨none, 0, h2 hv, nil_row _ _, h3⟩
theorem num_uni {p : Pg} {HA : List Int} {n : Nat} {er : Value} {k : Int} {ad : Nat → Addr} {w : World} (hu : Hu p (ad 20) HA n er k) (hE : VN w ad) : Calls Tryd.prog 12 #[er] w fun e w' => e = .returned (.int .i64 k) ∧ w' = w := by
  rcases hu with ⟨L, -, -, -, rfl, rfl⟩ | ⟨-, -, -, rfl, rfl⟩
  · exact num_nil w
  · exact num_code hE.e
/-- The copy that is written over. -/
structure Md (V2 : World) (g base : Nat) (p : Pg) (vA vC vN vD vO : Value) (al co : List Int) (wr : World) : Prop where
  box : wr.heap[g]? = some (.cells #[vA, vC, vN, .bool p.al, vD, vO] 27 (0, 0))
  av : wr.ownsRow base 3 1 vA p.av.length (is al)
  co : wr.ownsRow base 5 1 vO p.co.length (by4 co)
  kept : Kept (fun k => vA.ownBlock = some k ∨ vO.ownBlock = some k) V2 wr
theorem Md.start {V3 W2 wr : World} {p : Pg} {vA vC vN vD vO : Value} (c : CpP V3 p W2 vA vC vN vD vO) (k : Kept (fun _ => False) (W2.alloc (.cells #[vA, vC, vN, .bool p.al, vD, vO] 27)) wr) : Md wr W2.heap.size V3.heap.size p vA vC vN vD vO p.av p.co wr :=
  ⟨k.heap (heap_alloc_new W2 _) (fun f => f), own_stay (own_stay c.av (Kept.alloc _ _)) k, own_stay (own_stay c.co (Kept.alloc _ _)) k, Kept.refl _ _⟩
theorem Md.later {V2 : World} {g base : Nat} {p : Pg} {vA vC vN vD vO : Value} {al co : List Int} {wr w' : World} (h : Md V2 g base p vA vC vN vD vO al co wr) (k : Kept (fun _ => False) wr w') : Md V2 g base p vA vC vN vD vO al co w' :=
  ⟨k.heap h.box (fun f => f), own_stay h.av k, own_stay h.co k, h.kept.trans k (fun _ f => f.elim)⟩
theorem row_set1 {W : World} {base n c g j : Nat} {e : TypeId} {xs : List Value} {x : Value} (ho : W.ownsRow base e 1 (.slice (some ⟨g, 0, none⟩) n c) n xs) (hj : j < n) :
    (W.setCell ⟨g, j, none⟩ x).ownsRow base e 1 (.slice (some ⟨g, 0, none⟩) n c) n (xs.set j x) ∧ W.cell? ⟨g, j, none⟩ = xs[j]? ∧ W.frozen? ⟨g, j, none⟩ = false := by
  have hx := ho.1
  rcases ho.2 with ⟨e, _⟩ | ⟨g', cap, cur, hv, hb, hg, h1, h2, h3, h4⟩
  · cases e
  simp only [Value.slice.injEq, Option.some.injEq, Addr.mk.injEq, and_true, true_and] at hv
  obtain ⟨rfl, rfl⟩ := hv
  have hc : W.cell? ⟨g, j, none⟩ = xs[j]? := by
    rw [cell_of_row _ _ j _ _ _ hg]
    have h5 : (cur.toList.take (n * 1))[j]? = xs[j]? := by rw [h4]
    rw [List.getElem?_take, if_pos (by omega), Array.getElem?_toList] at h5
    exact h5
  refine ⟨⟨by rw [List.length_set]; exact hx, .inr ⟨g, c, _, rfl, hb, heap_setCell_same W g j cur _ x hg, h1, h2, by simp [h3], ?_⟩⟩, hc, by simp [World.frozen?, hg]⟩
  rw [Array.toList_setIfInBounds, List.take_set, h4]
theorem row_where {W : World} {base e z n : Nat} {v : Value} {xs : List Value} (h : W.ownsRow base e z v n xs) (hn : 0 < n) : ∃ g c, v = .slice (some ⟨g, 0, none⟩) n c := by
  rcases h.2 with ⟨_, e2⟩ | ⟨g, cap, cur, e1, _⟩
  · omega
  · exact ⟨g, cap, e1⟩
theorem Md.setO {V2 : World} {g base gO n cO j : Nat} {p : Pg} {vA vC vN vD : Value} {al co : List Int} {wr : World} (h : Md V2 g base p vA vC vN vD (.slice (some ⟨gO, 0, none⟩) n cO) al co wr) (hn : n = p.co.length) (hj : j < n) (x : Int) :
    Md V2 g base p vA vC vN vD (.slice (some ⟨gO, 0, none⟩) n cO) al (co.set j x) (wr.setCell ⟨gO, j, none⟩ (.int .u8 x)) ∧ wr.cell? ⟨gO, j, none⟩ = some (.int .u8 (co[j]?.getD 0)) ∧ wr.frozen? ⟨gO, j, none⟩ = false := by
  have KS : Kept (fun i => i = gO) wr (wr.setCell ⟨gO, j, none⟩ (.int .u8 x)) := Kept.setCell wr ⟨gO, j, none⟩ (.int .u8 x)
  have hc := h.co
  rw [← hn] at hc
  have hl : co.length = n := by have := hc.1; simp [by4] at this; omega
  obtain ⟨cc, hg⟩ := own_has hc gO rfl
  obtain ⟨r1, r2, r3⟩ := row_set1 (x := .int .u8 x) hc hj
  refine ⟨⟨KS.heap h.box (fun e => own_typed hc (e' := 27) (by decide) gO rfl _ _ (e ▸ h.box)), own_past h.av KS hg (by decide), ?_, h.kept.trans KS (fun i q => .inl (.inr (by rw [q]; rfl)))⟩, ?_, r3⟩
  · rw [← hn, show by4 (co.set j x) = (by4 co).set j (.int .u8 x) by simp [by4, List.map_set]]; exact r1
  · rw [r2]; simp [by4, List.getElem?_eq_getElem (show j < co.length by omega)]
theorem Md.setA {V2 : World} {g base gA n cA j : Nat} {p : Pg} {vC vN vD vO : Value} {al co : List Int} {wr : World} (h : Md V2 g base p (.slice (some ⟨gA, 0, none⟩) n cA) vC vN vD vO al co wr) (hn : n = p.av.length) (hj : j < n) (x : Int) :
    Md V2 g base p (.slice (some ⟨gA, 0, none⟩) n cA) vC vN vD vO (al.set j x) co (wr.setCell ⟨gA, j, none⟩ (.int .i64 x)) ∧ wr.cell? ⟨gA, j, none⟩ = some (.int .i64 (al[j]?.getD 0)) ∧ wr.frozen? ⟨gA, j, none⟩ = false := by
  have KS : Kept (fun i => i = gA) wr (wr.setCell ⟨gA, j, none⟩ (.int .i64 x)) := Kept.setCell wr ⟨gA, j, none⟩ (.int .i64 x)
  have hc := h.av
  rw [← hn] at hc
  have hl : al.length = n := by have := hc.1; simp [is] at this; omega
  obtain ⟨cc, hg⟩ := own_has hc gA rfl
  obtain ⟨r1, r2, r3⟩ := row_set1 (x := .int .i64 x) hc hj
  refine ⟨⟨KS.heap h.box (fun e => own_typed hc (e' := 27) (by decide) gA rfl _ _ (e ▸ h.box)), ?_, own_past h.co KS hg (by decide), h.kept.trans KS (fun i q => .inl (.inl (by rw [q]; rfl)))⟩, ?_, r3⟩
  · rw [← hn, show is (al.set j x) = (is al).set j (.int .i64 x) by simp [is, List.map_set]]; exact r1
  · rw [r2]; simp [is, List.getElem?_eq_getElem (show j < al.length by omega)]
theorem Md.row {V2 : World} {g base gO n cO : Nat} {p : Pg} {vA vC vN vD : Value} {al co B : List Int} {wr : World} (h : Md V2 g base p vA vC vN vD (.slice (some ⟨gO, 0, none⟩) n cO) al co wr) (hn : n = p.co.length) (hB : B.length = n) : ∃ cur : Array Value, wr.heap[gO]? = some (.cells cur 5 (0, 0)) ∧ n ≤ cur.size ∧ Md V2 g base p vA vC vN vD (.slice (some ⟨gO, 0, none⟩) n cO) al B (wr.setRow gO (cur.toList.take 0 ++ (by4 B ++ cur.toList.drop (0 + (by4 B).length))).toArray) := by
  have hc := h.co
  rw [← hn] at hc
  rcases hc.2 with ⟨e, _⟩ | ⟨g', cap, cur, hv, hb, hg, h1, h2, h3, h4⟩
  · cases e
  simp only [Value.slice.injEq, Option.some.injEq, Addr.mk.injEq, and_true, true_and] at hv
  obtain ⟨rfl, rfl⟩ := hv
  have hbl : (by4 B).length = n := by simp [by4, hB]
  have KS := Kept.setRow' wr gO (cur.toList.take 0 ++ (by4 B ++ cur.toList.drop (0 + (by4 B).length))).toArray
  refine ⟨cur, hg, by omega, KS.heap h.box (fun e => own_typed hc (e' := 27) (by decide) gO rfl _ _ (e ▸ h.box)), own_past h.av KS hg (by decide), ?_, h.kept.trans KS (fun i q => .inl (.inr (by rw [q]; rfl)))⟩
  rw [← hn]
  refine ⟨by omega, .inr ⟨gO, cO, _, rfl, hb, setRow_heap wr gO cur _ _ _ hg, h1, h2, ?_, ?_⟩⟩
  · simp [hbl]; omega
  · simp [hbl]
/-- The copy as a program, behind the writes. -/
theorem Md.rest {V3 W2 W7 wr : World} {p : Pg} {vA vC vN vD vO : Value} {al co : List Int} (c : CpP V3 p W2 vA vC vN vD vO) (k7 : Kept (fun _ => False) (W2.alloc (.cells #[vA, vC, vN, .bool p.al, vD, vO] 27)) W7) (h : Md W7 W2.heap.size V3.heap.size p vA vC vN vD vO al co wr) (hal : al.length = p.av.length) (hco : co.length = p.co.length) :
    ∃ xs, Rwp V3 V3.heap.size W2.heap.size ⟨al, p.cu, p.nr, p.al, p.dr, co⟩ xs vA vC vN vD vO wr := by
  have KA := (Kept.alloc W2 (.cells #[vA, vC, vN, .bool p.al, vD, vO] 27)).trans k7 (fun _ f => f.elim)
  obtain ⟨xs, b1, hn, hx, l1, l2⟩ := c.nr
  have rA := own_stay c.av KA
  have rC := own_stay c.cu KA
  have rN := own_stay hn KA
  have rD := own_stay c.dr KA
  have rO := own_stay c.co KA
  have rX := hx.apart KA (fun _ f => f.elim)
  have hS : ∀ {e : TypeId} {o : Array Value} {fz : Nat × Nat} (j : Nat), W7.heap[j]? = some (.cells o e fz) → e ≠ 5 → (e = 3 → vA.ownBlock ≠ some j) → ¬ (vA.ownBlock = some j ∨ vO.ownBlock = some j) := by
    intro e o fz j hj h1 h3 hs
    rcases hs with q | q
    · obtain ⟨o', ho'⟩ := own_has rA j q
      rw [ho'] at hj
      injection hj with hj
      injection hj with _ hj _
      exact h3 hj.symm q
    · obtain ⟨o', ho'⟩ := own_has rO j q
      rw [ho'] at hj
      injection hj with hj
      injection hj with _ hj _
      exact h1 hj.symm
  have av := h.av
  have cor := h.co
  rw [← hal] at av
  rw [← hco] at cor
  refine ⟨xs, h.box, av, own_besides rC h.kept (fun j hj => ?_), own_besides rN h.kept (fun j hj => ?_), (rX.besides h.kept (fun j o fz hj hc => hS j hc (by decide) (fun _ q => ?_))).low, own_low (own_besides rD h.kept (fun j hj => ?_)) (Nat.zero_le _), cor, ((c.kept.trans KA (fun _ f => f.elim)).trans h.kept (fun j q => .inr ?_)), c.kept.size, Nat.le_refl _⟩
  · obtain ⟨o, ho⟩ := own_has rC j hj
    exact hS j ho (by decide) (fun e => absurd e (by decide))
  · obtain ⟨o, ho⟩ := own_has rN j hj
    exact hS j ho (by decide) (fun e => absurd e (by decide))
  · have := l1 j q
    omega
  · obtain ⟨o, ho⟩ := own_has rD j hj
    exact hS j ho (by decide) (fun _ q => c.ap j q hj)
  · rcases q with q | q
    · exact (rA.lt j q).1
    · exact (rO.lt j q).1
end Go.Proofs.YtiebmmpnmklpnaaDoor
namespace Go.Proofs.YtiebmmpnmklpnaaDoor
open Go.ChangeShapes Go.WideShapes Go.ChangeAt Go.RowKit

theorem ints_besides {S : Nat → Prop} {w w' : World} {a : Option Addr} {l : List Int} (h : IntsAt w a l) (k : Kept S w w') (hS : ∀ ad, a = some ad → ¬ S ad.block) : IntsAt w' a l := fun hn => by
  obtain ⟨b, off, e, hc⟩ := h hn
  exact ⟨b, off, e, fun i hi => k.cell (hc i hi) (fun f => hS ⟨b, off, none⟩ e f)⟩
theorem heights_bad {w : World} {base g : Nat} {q : Pg} {xs : List Value} {aA aC aN aD aO : Option Addr} {n1 n2 n3 n4 n5 c1 c2 c3 c4 c5 : Nat} {wr : World} (h : Rwp w base g q xs (.slice aA n1 c1) (.slice aC n2 c2) (.slice aN n3 c3) (.slice aD n4 c4) (.slice aO n5 c5) wr) (al : Bool) (hal : al = q.al) (hO : q.Ok) (hv : ¬ ∃ L, Vok q L) (a0 a1 ac : Addr) (hE : VE wr a0 a1 ac) :
    Calls Tryd.prog 10 #[.agg #[.slice aA n1 c1, .slice aC n2 c2, .slice aN n3 c3, .bool al, .slice aD n4 c4, .slice aO n5 c5]] wr fun e w' => e = .returned (.tuple #[.slice none 0 0, errV ac]) ∧ Kept (fun _ => False) wr w' := by
  obtain ⟨hp, rfl, rfl, rfl, rfl, rfl⟩ := h.pg
  rw [hal]
  refine (heights_any q aA aC aN aD aO c1 c2 c3 c4 c5 a0 a1 ac wr hp hO hE).mono ?_
  rintro e w' ⟨-, h2, h3⟩
  exact ⟨h2 hv, h3⟩
theorem copied_rw {w : World} {base g : Nat} {q : Pg} {xs : List Value} {aA aC aN aD aO : Option Addr} {n1 n2 n3 n4 n5 c1 c2 c3 c4 c5 : Nat} {wr : World} (h : Rwp w base g q xs (.slice aA n1 c1) (.slice aC n2 c2) (.slice aN n3 c3) (.slice aD n4 c4) (.slice aO n5 c5) wr) (al : Bool) (hal : al = q.al) (hO : q.Ok) :
    Calls Tryd.prog 7 #[.agg #[.slice aA n1 c1, .slice aC n2 c2, .slice aN n3 c3, .bool al, .slice aD n4 c4, .slice aO n5 c5]] wr fun e w' => ∃ xA xC xN xD xO eA eC eN eD eO, e = .returned (.agg #[.slice xA q.av.length eA, .slice xC q.cu.length eC, .slice xN q.nr.length eN, .bool q.al, .slice xD q.dr.length eD, .slice xO q.co.length eO]) ∧ PgAt w' q xA xC xN xD xO ∧ Kept (fun _ => False) wr w' := by
  obtain ⟨hp, rfl, rfl, rfl, rfl, rfl⟩ := h.pg
  rw [hal]
  refine (copied_any q aA aC aN aD aO c1 c2 c3 c4 c5 wr hp hO).mono ?_
  rintro e w' ⟨vA, vC, vN, vD, vO, rfl, hc⟩
  obtain ⟨xA, xC, xN, xD, xO, eA, eC, eN, eD, eO, rfl, rfl, rfl, rfl, rfl, hq⟩ := hc.at
  exact ⟨xA, xC, xN, xD, xO, eA, eC, eN, eD, eO, rfl, hq, hc.kept⟩
theorem rheights_bad (q : Pg) (aA aC aN aD aO : Option Addr) (cA cC cN cD cO : Nat) (w : World) (hP : PgAt w q aA aC aN aD aO) (hO : q.Ok) (hv : ¬ ∃ L, Vok q L) :
    Calls Tryd.prog 11 #[.agg #[.slice aA q.av.length cA, .slice aC q.cu.length cC, .slice aN q.nr.length cN, .bool q.al, .slice aD q.dr.length cD, .slice aO q.co.length cO]] w fun e w' => e = .returned (.tuple #[.slice none 0 0, .int .i64 21]) ∧ Kept (fun _ => False) w w' := by
  refine (rheights_any q aA aC aN aD aO cA cC cN cD cO w hP hO).mono ?_
  rintro e w' ⟨-, h2, h3⟩
  exact ⟨h2 hv, h3⟩
theorem sameI_nilV (w : World) : Calls Tryd.prog 13 #[.slice none 0 0, .slice none 0 0] w fun e w' => e = .returned (.bool true) ∧ ∃ m, w' = w.drewN m := sameI_still [] none none 0 0 w (fun h => absurd rfl h) (fun h => absurd rfl h) (by simp)
/-- All averages -1: no good program. -/
theorem neg_bad {q : Pg} (h : ∀ x ∈ q.av, x = -1) : ¬ ∃ L, Vok q L := by
  rintro ⟨L, hv⟩
  obtain ⟨⟨h1, -, h3⟩, -⟩ := hv.tb
  have h0 := List.getElem_mem (show 0 < q.av.length by omega)
  have e := h _ h0
  have := h3 _ h0
  omega
theorem md_ok {p : Pg} {al co : List Int} (hO : p.Ok) (h1 : al.length = p.av.length) (h2 : co.length = p.co.length) (hi : IsInts al) (hb : IsBytes co) : Pg.Ok ⟨al, p.cu, p.nr, p.al, p.dr, co⟩ :=
  ⟨hi, hO.dr, hO.cu, hO.nr, hb, by have := hO.sz; unfold psz at this ⊢; simp only; omega⟩
theorem bytes_set0 {l : List Int} {j : Nat} (h : IsBytes l) : IsBytes (l.set j 0) := by
  intro x hx
  rcases List.mem_or_eq_of_mem_set hx with q | q
  · exact h x q
  · rw [q]; decide
theorem ints_setN {l : List Int} {j : Nat} (h : IsInts l) : IsInts (l.set j (-1)) := by
  intro x hx
  rcases List.mem_or_eq_of_mem_set hx with q | q
  · exact h x q
  · rw [q]; decide
/-- Which numbers have been overwritten. -/
def NegTo (j : Nat) (l : List Int) : Prop := ∀ k, k < j → l[k]? = some (-1)
theorem NegTo.step {j : Nat} {l : List Int} (h : NegTo j l) (hj : j < l.length) : NegTo (j + 1) (l.set j (-1)) := by
  intro k hk
  by_cases e : k = j
  · subst e; simp [hj]
  · rw [List.getElem?_set_ne (fun q => e q.symm)]; exact h k (by omega)
theorem NegTo.all {l : List Int} (h : NegTo l.length l) : ∀ x ∈ l, x = -1 := by
  intro x hx
  obtain ⟨k, hk, rfl⟩ := List.getElem_of_mem hx
  have q := h k hk
  rw [List.getElem?_eq_getElem hk] at q
  exact Option.some.inj q
def X5 (a b c d e : List Int) : Nat → List Int
  | 0 => a
  | 1 => b
  | 2 => c
  | 3 => d
  | _ => e
theorem own5 {w0 : World} {v0 v1 v2 v3 v4 : Value} {l0 l1 l2 l3 l4 : List Int} {b0 b1 b2 b3 b4 n0 n1 n2 n3 n4 : Nat} (r0 : w0.ownsRow b0 3 1 v0 n0 (is l0)) (r1 : w0.ownsRow b1 3 1 v1 n1 (is l1)) (r2 : w0.ownsRow b2 3 1 v2 n2 (is l2)) (r3 : w0.ownsRow b3 3 1 v3 n3 (is l3)) (r4 : w0.ownsRow b4 3 1 v4 n4 (is l4))
    (a01 : apV v0 v1) (a02 : apV v0 v2) (a03 : apV v0 v3) (a04 : apV v0 v4) (a12 : apV v1 v2) (a13 : apV v1 v3) (a14 : apV v1 v4) (a23 : apV v2 v3) (a24 : apV v2 v4) (a34 : apV v3 v4) :
    OwiV (w0.alloc (.cells #[v0, v1, v2, v3, v4] 22)) (w0.alloc (.cells #[v0, v1, v2, v3, v4] 22)) w0.heap.size 0 [v0, v1, v2, v3, v4] (X5 l0 l1 l2 l3 l4) ∧ AptiV w0.heap.size [v0, v1, v2, v3, v4] := by
  have hg := heap_alloc_new w0 (.cells #[v0, v1, v2, v3, v4] 22 (0, 0))
  have KA := Kept.alloc w0 (.cells #[v0, v1, v2, v3, v4] 22)
  have rr : ∀ {v : Value} {l : List Int} {b n : Nat}, w0.ownsRow b 3 1 v n (is l) → (w0.alloc (.cells #[v0, v1, v2, v3, v4] 22)).ownsRow 0 3 1 v l.length (is l) := fun {v l b n} r => by
    have e : n = l.length := by have := r.1; rw [is_length] at this; omega
    rw [← e]
    exact own_low (own_stay r KA) (Nat.zero_le _)
  refine ⟨⟨fun t ht => ?_, fun t ht => ?_, Kept.refl _ _⟩, ⟨fun t s ht hs hne g h1 h2 => ?_, fun v hv h => ?_⟩⟩
  · rw [cell_of_row _ _ (0 + t) _ _ _ hg, Nat.zero_add, ← Array.getElem?_toList]
    exact List.getElem?_eq_getElem ht
  · have h5 : t < 5 := ht
    match t, h5 with
    | 0, _ => exact rr r0
    | 1, _ => exact rr r1
    | 2, _ => exact rr r2
    | 3, _ => exact rr r3
    | 4, _ => exact rr r4
  · have h5 : t < 5 := ht
    have s5 : s < 5 := hs
    match t, s, h5, s5 with
    | 0, 0, _, _ => exact absurd rfl hne
    | 0, 1, _, _ => exact a01 g h1 h2
    | 0, 2, _, _ => exact a02 g h1 h2
    | 0, 3, _, _ => exact a03 g h1 h2
    | 0, 4, _, _ => exact a04 g h1 h2
    | 1, 0, _, _ => exact a01 g h2 h1
    | 1, 1, _, _ => exact absurd rfl hne
    | 1, 2, _, _ => exact a12 g h1 h2
    | 1, 3, _, _ => exact a13 g h1 h2
    | 1, 4, _, _ => exact a14 g h1 h2
    | 2, 0, _, _ => exact a02 g h2 h1
    | 2, 1, _, _ => exact a12 g h2 h1
    | 2, 2, _, _ => exact absurd rfl hne
    | 2, 3, _, _ => exact a23 g h1 h2
    | 2, 4, _, _ => exact a24 g h1 h2
    | 3, 0, _, _ => exact a03 g h2 h1
    | 3, 1, _, _ => exact a13 g h2 h1
    | 3, 2, _, _ => exact a23 g h2 h1
    | 3, 3, _, _ => exact absurd rfl hne
    | 3, 4, _, _ => exact a34 g h1 h2
    | 4, 0, _, _ => exact a04 g h2 h1
    | 4, 1, _, _ => exact a14 g h2 h1
    | 4, 2, _, _ => exact a24 g h2 h1
    | 4, 3, _, _ => exact a34 g h2 h1
    | 4, 4, _, _ => exact absurd rfl hne
  · simp only [List.mem_cons, List.not_mem_nil, or_false] at hv
    rcases hv with e | e | e | e | e <;> rw [e] at h
    · exact absurd (r0.lt _ h).2 (Nat.lt_irrefl _)
    · exact absurd (r1.lt _ h).2 (Nat.lt_irrefl _)
    · exact absurd (r2.lt _ h).2 (Nat.lt_irrefl _)
    · exact absurd (r3.lt _ h).2 (Nat.lt_irrefl _)
    · exact absurd (r4.lt _ h).2 (Nat.lt_irrefl _)
theorem x5_len {l0 l1 l2 l3 l4 : List Int} {t : Nat} (ht : t < 5) (h0 : l0.length ≤ 1099511620000) (h1 : l1.length ≤ 1099511620000) (h2 : l2.length ≤ 1099511620000) (h3 : l3.length ≤ 1099511620000) (h4 : l4.length ≤ 1099511620000) : (X5 l0 l1 l2 l3 l4 t).length ≤ 1099511620000 := by
  match t, ht with
  | 0, _ => exact h0
  | 1, _ => exact h1
  | 2, _ => exact h2
  | 3, _ => exact h3
  | 4, _ => exact h4
theorem row_ia {w : World} {b n : Nat} {a : Option Addr} {c : Nat} {l : List Int} (h : w.ownsRow b 3 1 (.slice a n c) n (is l)) (hn : n = l.length) : IntsAt w a l := by
  subst hn
  exact crow_at h
theorem apV_lt {w : World} {b n m c e z e' z' : Nat} {v u : Value} {xs ys : List Value} {w' : World} (h : w.ownsRow b e z v n xs) (h' : w'.ownsRow c e' z' u m ys) (hb : w.heap.size ≤ c) : apV v u := fun g h1 h2 => by
  have := (h.lt g h1).2
  have := (h'.lt g h2).1
  omega
theorem apV_sym {v u : Value} (h : apV v u) : apV u v := fun g h1 h2 => h g h2 h1
theorem apV_nil (v : Value) : apV v (.slice none 0 0) := fun g _ h => by cases h
end Go.Proofs.YtiebmmpnmklpnaaDoor
namespace Go.Proofs.YtiebmmpnmklpnaaDoor
open Go.ChangeShapes Go.WideShapes Go.ChangeAt Go.RowKit

theorem rheights_uni {p : Pg} {ac : Addr} {HA : List Int} {n : Nat} {er : Value} {k : Int} (aA aC aN aD aO : Option Addr) (cA cC cN cD cO : Nat) (w : World) (hu : Hu p ac HA n er k) (hP : PgAt w p aA aC aN aD aO) (hO : p.Ok) :
    Calls Tryd.prog 11 #[.agg #[.slice aA p.av.length cA, .slice aC p.cu.length cC, .slice aN p.nr.length cN, .bool p.al, .slice aD p.dr.length cD, .slice aO p.co.length cO]] w fun e w' => ∃ a c, e = .returned (.tuple #[.slice a n c, .int .i64 k]) ∧ IntsAt w' a HA ∧ (∀ ad, a = some ad → w.heap.size ≤ ad.block) ∧ Kept (fun _ => False) w w' := by
  refine (rheights_own p aA aC aN aD aO cA cC cN cD cO w hP hO).mono ?_
  rintro e w' ⟨h1, h2, h3⟩
  rcases hu with ⟨L, hv, rfl, rfl, rfl, rfl⟩ | ⟨hv, rfl, rfl, rfl, rfl⟩
  · obtain ⟨a, c, e1, hi, hb⟩ := h1 L hv
    exact ⟨a, c, e1, hi, hb, h3⟩
  · exact ⟨none, 0, h2 hv, fun h => absurd rfl h, fun _ e => (by cases e), h3⟩
set_option maxRecDepth 20000 in
set_option maxHeartbeats 32000000 in
theorem mem21_walk (mk : Nat → Nat → Int) (hmk : MarkIV mk) (p q : Pg) (aA aC aN aD aO rA rC rN rD rO : Option Addr) (cA cC cN cD cO eA eC eN eD eO : Nat) (ad : Nat → Addr) (w : World) (hP : PgAt w p aA aC aN aD aO) (hO : p.Ok) (hQ : PgAt w q rA rC rN rD rO) (hOq : q.Ok) (hE : VN w ad) :
    Calls Tryd.prog 5 #[.agg #[.slice aA p.av.length cA, .slice aC p.cu.length cC, .slice aN p.nr.length cN, .bool p.al, .slice aD p.dr.length cD, .slice aO p.co.length cO], .agg #[.slice rA q.av.length eA, .slice rC q.cu.length eC, .slice rN q.nr.length eN, .bool q.al, .slice rD q.dr.length eD, .slice rO q.co.length eO]] w fun e w' => e = .returned (.bool true) ∧ Kept (fun _ => False) w w' := by
  have KA := (Kept.alloc w (.cells #[.slice aA p.av.length cA, .slice aC p.cu.length cC, .slice aN p.nr.length cN, .bool p.al, .slice aD p.dr.length cD, .slice aO p.co.length cO] 27)).trans (Kept.alloc (w.alloc (.cells #[.slice aA p.av.length cA, .slice aC p.cu.length cC, .slice aN p.nr.length cN, .bool p.al, .slice aD p.dr.length cD, .slice aO p.co.length cO] 27)) (.cells #[.slice rA q.av.length eA, .slice rC q.cu.length eC, .slice rN q.nr.length eN, .bool q.al, .slice rD q.dr.length eD, .slice rO q.co.length eO] 27)) (fun _ f => f.elim)
  have HBX : Hid (((w.alloc (.cells #[.slice aA p.av.length cA, .slice aC p.cu.length cC, .slice aN p.nr.length cN, .bool p.al, .slice aD p.dr.length cD, .slice aO p.co.length cO] 27)).alloc (.cells #[.slice rA q.av.length eA, .slice rC q.cu.length eC, .slice rN q.nr.length eN, .bool q.al, .slice rD q.dr.length eD, .slice rO q.co.length eO] 27)).heap[w.heap.size]? = some (.cells #[.slice aA p.av.length cA, .slice aC p.cu.length cC, .slice aN p.nr.length cN, .bool p.al, .slice aD p.dr.length cD, .slice aO p.co.length cO] 27 (0, 0))) := hideI ((Kept.alloc _ _).heap (heap_alloc_new w _) (fun f => f))
  have HBY : Hid (((w.alloc (.cells #[.slice aA p.av.length cA, .slice aC p.cu.length cC, .slice aN p.nr.length cN, .bool p.al, .slice aD p.dr.length cD, .slice aO p.co.length cO] 27)).alloc (.cells #[.slice rA q.av.length eA, .slice rC q.cu.length eC, .slice rN q.nr.length eN, .bool q.al, .slice rD q.dr.length eD, .slice rO q.co.length eO] 27)).heap[w.heap.size + 1]? = some (.cells #[.slice rA q.av.length eA, .slice rC q.cu.length eC, .slice rN q.nr.length eN, .bool q.al, .slice rD q.dr.length eD, .slice rO q.co.length eO] 27 (0, 0))) := hideI (by
    have e := heap_alloc_new (w.alloc (.cells #[.slice aA p.av.length cA, .slice aC p.cu.length cC, .slice aN p.nr.length cN, .bool p.al, .slice aD p.dr.length cD, .slice aO p.co.length cO] 27)) (.cells #[.slice rA q.av.length eA, .slice rC q.cu.length eC, .slice rN q.nr.length eN, .bool q.al, .slice rD q.dr.length eD, .slice rO q.co.length eO] 27 (0, 0))
    rw [show (w.alloc (.cells #[.slice aA p.av.length cA, .slice aC p.cu.length cC, .slice aN p.nr.length cN, .bool p.al, .slice aD p.dr.length cD, .slice aO p.co.length cO] 27)).heap.size = w.heap.size + 1 by simp] at e
    exact e)
  obtain ⟨V, hV⟩ : ∃ V, V = (w.alloc (.cells #[.slice aA p.av.length cA, .slice aC p.cu.length cC, .slice aN p.nr.length cN, .bool p.al, .slice aD p.dr.length cD, .slice aO p.co.length cO] 27)).alloc (.cells #[.slice rA q.av.length eA, .slice rC q.cu.length eC, .slice rN q.nr.length eN, .bool q.al, .slice rD q.dr.length eD, .slice rO q.co.length eO] 27) := ⟨_, rfl⟩
  rw [← hV] at KA HBX HBY
  have HMK := hideI hmk
  have HP := hideI (hP.kept KA)
  have HQ := hideI (hQ.kept KA)
  have HE := hideI (hE.kept KA)
  have HKA := hideI KA
  have HO := hideI hO
  have HOQ := hideI hOq
  have HB6 := fun (W : World) (K : Kept (fun _ => False) V W) => hideI (box6 (K.heap HBX.out (fun f => f)))
  have HB6q := fun (W : World) (K : Kept (fun _ => False) V W) => hideI (box6 (K.heap HBY.out (fun f => f)))
  have HFX := hideI (fixed_any ad V HE.out)
  have HCP := fun (W : World) (K : Kept (fun _ => False) V W) => hideI (copied_any p aA aC aN aD aO cA cC cN cD cO W (HP.out.kept K) HO.out)
  obtain ⟨lp1, lp2, lp3, lp4, lp5⟩ := HO.out.len
  have lq5 := HOQ.out.len.2.2.2.2
  obtain ⟨HA, n, er, k, hu⟩ := hu_ex p (ad 20)
  have HU := hideI hu
  have HLN := hideI hu.len
  have hn26 : n ≤ 67108864 := hu.le hO
  clear hP hQ hE KA hO hOq hu hmk
  subst hV
  go_enter Tryd.func5, Tryd.ntmps5
  go_wp2_with fail
  go_at_call 6
  refine HFX.out.mono ?_
  clear HFX
  rintro e W1 ⟨rfl, K1⟩
  have HK1 := hideI K1
  have HC := HCP W1 K1
  obtain ⟨z0, z1, z2, z3, z4, z5⟩ := (HB6 W1 K1).out
  clear K1 HCP
  go_wp2_with fail
  go_at_call 7
  refine HC.out.mono ?_
  clear HC z0 z1 z2 z3 z4 z5
  rintro e W2 ⟨vA, vC, vN, vD, vO, rfl, hcp⟩
  have HCPP := hideI hcp
  obtain ⟨bA, bC, bN, bD, bO, dA, dC, dN, dD, dO, rfl, rfl, rfl, rfl, rfl, hQ2⟩ := hcp.at
  have KP := Kept.alloc W2 (.cells #[.slice bA p.av.length dA, .slice bC p.cu.length dC, .slice bN p.nr.length dN, .bool p.al, .slice bD p.dr.length dD, .slice bO p.co.length dO] 27)
  have HK2 := hideI ((HK1.out.trans hcp.kept (fun _ f => f.elim)).trans KP (fun _ f => f.elim))
  have HQ2 := hideI (hQ2.kept KP)
  have HBC := hideI (heap_alloc_new W2 (.cells #[.slice bA p.av.length dA, .slice bC p.cu.length dC, .slice bN p.nr.length dN, .bool p.al, .slice bD p.dr.length dD, .slice bO p.co.length dO] 27 (0, 0)))
  have HC6 := fun (W : World) (K : Kept (fun _ => False) (W2.alloc (.cells #[.slice bA p.av.length dA, .slice bC p.cu.length dC, .slice bN p.nr.length dN, .bool p.al, .slice bD p.dr.length dD, .slice bO p.co.length dO] 27)) W) => hideI (box6 (K.heap HBC.out (fun f => f)))
  have HC := hideI (heights_uni bA bC bN bD bO dA dC dN dD dO (ad 0) (ad 1) (ad 20) _ HU.out HQ2.out HO.out (HE.out.kept HK2.out).ve)
  clear hcp hQ2 KP
  go_wp2_with fail
  go_at_call 10
  refine HC.out.mono ?_
  clear HC
  rintro e W3 ⟨a3, c3, rfl, h3, K3⟩
  have HK3 := hideI K3
  have HR3 := hideI h3
  obtain ⟨y0, y1, y2, y3, y4, y5⟩ := (HC6 W3 K3).out
  have HC := hideI (heights_uni bA bC bN bD bO dA dC dN dD dO (ad 0) (ad 1) (ad 20) W3 HU.out (HQ2.out.kept K3) HO.out (HE.out.kept (HK2.out.trans K3 (fun _ f => f.elim))).ve)
  clear K3 h3
  go_wp2_with fail
  go_at_call 10
  refine HC.out.mono ?_
  clear HC y0 y1 y2 y3 y4 y5
  rintro e W4 ⟨a4, c4, rfl, h4, K4⟩
  have HK4 := hideI (HK3.out.trans K4 (fun _ f => f.elim))
  have HR34 := hideI (own_stay HR3.out K4)
  have HR4 := hideI h4
  have HW34 := hideI (HR3.out.lt)
  obtain ⟨z0, z1, z2, z3, z4, z5⟩ := (HB6 W4 (HK2.out.trans HK4.out (fun _ f => f.elim))).out
  have HC := hideI (rheights_uni aA aC aN aD aO cA cC cN cD cO W4 HU.out (HP.out.kept (HK2.out.trans HK4.out (fun _ f => f.elim))) HO.out)
  clear K4 h4
  go_wp2_with fail
  go_at_call 11
  refine HC.out.mono ?_
  clear HC z0 z1 z2 z3 z4 z5
  rintro e W5 ⟨a5, c5, rfl, h5, hb5, K5⟩
  have HK5 := hideI (HK4.out.trans K5 (fun _ f => f.elim))
  have HR35 := hideI (own_stay HR34.out K5)
  have HR45 := hideI (own_stay HR4.out K5)
  have HI5 := hideI h5
  have HB5 := hideI hb5
  clear K5 h5 hb5
  have hkk : (k != k) = false := by simp
  go_wp2_with fail
  go_at_call 12
  refine (num_uni HU.out (HE.out.kept (HK2.out.trans HK5.out (fun _ f => f.elim)))).mono ?_
  rintro e W5b ⟨rfl, rfl⟩
  go_wp2_with fail
  go_at_call 13
  have HI3 := hideI (row_ia HR35.out HLN.out.symm)
  have HI4 := hideI (row_ia HR45.out HLN.out.symm)
  have HC := hideI (sameI_still HA a3 a5 c3 c5 _ HI3.out HI5.out (by rw [HLN.out]; omega))
  rw [HLN.out] at HC
  refine HC.out.mono ?_
  clear HC
  rintro e W6 ⟨rfl, m6, hm6⟩
  have K6 : Kept (fun _ => False) W5b W6 := by rw [hm6]; exact Kept.drewN _ _
  have HC := hideI (sameI_still HA a4 a5 c4 c5 W6 (HI4.out.keptI K6) (HI5.out.keptI K6) (by rw [HLN.out]; omega))
  rw [HLN.out] at HC
  have HK6 := hideI K6
  clear K6 hm6
  go_wp2_with fail
  go_at_call 13
  refine HC.out.mono ?_
  clear HC
  rintro e W7 ⟨rfl, m7, hm7⟩
  have K7 : Kept (fun _ => False) W5b W7 := by rw [hm7]; exact HK6.out.trans (Kept.drewN _ _) (fun _ f => f.elim)
  have HK7 := hideI (HK5.out.trans K7 (fun _ f => f.elim))
  have HR37 := hideI (own_stay HR35.out K7)
  have HR47 := hideI (own_stay HR45.out K7)
  have HI7 := hideI (HI5.out.keptI K7)
  have HM7 := hideI (Md.start HCPP.out HK7.out)
  clear hm7 HK6 HI3 HI4 HI5 HR35 HR45 HR34 HR3 HR4 K7 hkk
  obtain ⟨y0, y1, y2, y3, y4, y5⟩ := box6 HM7.out.box
  obtain ⟨z0, z1, z2, z3, z4, z5⟩ := (HB6q W7 (HK2.out.trans HK7.out (fun _ f => f.elim))).out
  have HE1 := hideI (HE.out.kept HK1.out)
  have hbA : ∀ j, (Value.slice bA p.av.length dA).ownBlock = some j → W1.heap.size ≤ j ∧ j < (W2.alloc (.cells #[.slice bA p.av.length dA, .slice bC p.cu.length dC, .slice bN p.nr.length dN, .bool p.al, .slice bD p.dr.length dD, .slice bO p.co.length dO] 27)).heap.size := fun j h => ⟨(HCPP.out.av.lt j h).1, Nat.lt_of_lt_of_le (HCPP.out.av.lt j h).2 (Kept.alloc W2 (.cells #[.slice bA p.av.length dA, .slice bC p.cu.length dC, .slice bN p.nr.length dN, .bool p.al, .slice bD p.dr.length dD, .slice bO p.co.length dO] 27)).size⟩
  have hbO : ∀ j, (Value.slice bO p.co.length dO).ownBlock = some j → W1.heap.size ≤ j ∧ j < (W2.alloc (.cells #[.slice bA p.av.length dA, .slice bC p.cu.length dC, .slice bN p.nr.length dN, .bool p.al, .slice bD p.dr.length dD, .slice bO p.co.length dO] 27)).heap.size := fun j h => ⟨(HCPP.out.co.lt j h).1, Nat.lt_of_lt_of_le (HCPP.out.co.lt j h).2 (Kept.alloc W2 (.cells #[.slice bA p.av.length dA, .slice bC p.cu.length dC, .slice bN p.nr.length dN, .bool p.al, .slice bD p.dr.length dD, .slice bO p.co.length dO] 27)).size⟩
  have hbD : ∀ j, (Value.slice bD p.dr.length dD).ownBlock = some j → W1.heap.size ≤ j ∧ j < (W2.alloc (.cells #[.slice bA p.av.length dA, .slice bC p.cu.length dC, .slice bN p.nr.length dN, .bool p.al, .slice bD p.dr.length dD, .slice bO p.co.length dO] 27)).heap.size := fun j h => ⟨(HCPP.out.dr.lt j h).1, Nat.lt_of_lt_of_le (HCPP.out.dr.lt j h).2 (Kept.alloc W2 (.cells #[.slice bA p.av.length dA, .slice bC p.cu.length dC, .slice bN p.nr.length dN, .bool p.al, .slice bD p.dr.length dD, .slice bO p.co.length dO] 27)).size⟩
  have hb3 : ∀ j, (Value.slice a3 n c3).ownBlock = some j → (W2.alloc (.cells #[.slice bA p.av.length dA, .slice bC p.cu.length dC, .slice bN p.nr.length dN, .bool p.al, .slice bD p.dr.length dD, .slice bO p.co.length dO] 27)).heap.size ≤ j := fun j h => (HR37.out.lt j h).1
  have hb4 : ∀ j, (Value.slice a4 n c4).ownBlock = some j → W3.heap.size ≤ j := fun j h => (HR47.out.lt j h).1
  have hz3 : (W2.alloc (.cells #[.slice bA p.av.length dA, .slice bC p.cu.length dC, .slice bN p.nr.length dN, .bool p.al, .slice bD p.dr.length dD, .slice bO p.co.length dO] 27)).heap.size ≤ W3.heap.size := HK3.out.size
  have hz4 : (W2.alloc (.cells #[.slice bA p.av.length dA, .slice bC p.cu.length dC, .slice bN p.nr.length dN, .bool p.al, .slice bD p.dr.length dD, .slice bO p.co.length dO] 27)).heap.size ≤ W4.heap.size := HK4.out.size
  have hw1 : w.heap.size ≤ W1.heap.size := (HKA.out.trans HK1.out (fun _ f => f.elim)).size
  have HSA : Hid (∀ j, (Value.slice a3 n c3).ownBlock = some j → ¬ ((Value.slice bA p.av.length dA).ownBlock = some j ∨ (Value.slice bO p.co.length dO).ownBlock = some j)) := hideI (fun j h f => by have q := hb3 j h; rcases f with f | f; exact absurd (hbA j f).2 (Nat.not_lt.2 q); exact absurd (hbO j f).2 (Nat.not_lt.2 q))
  have HSB : Hid (∀ j, (Value.slice a4 n c4).ownBlock = some j → ¬ ((Value.slice bA p.av.length dA).ownBlock = some j ∨ (Value.slice bO p.co.length dO).ownBlock = some j)) := hideI (fun j h f => by have q := Nat.le_trans hz3 (hb4 j h); rcases f with f | f; exact absurd (hbA j f).2 (Nat.not_lt.2 q); exact absurd (hbO j f).2 (Nat.not_lt.2 q))
  have HSI : Hid (∀ ad, a5 = some ad → ¬ ((Value.slice bA p.av.length dA).ownBlock = some ad.block ∨ (Value.slice bO p.co.length dO).ownBlock = some ad.block)) := hideI (fun ad h f => by have q := Nat.le_trans hz4 (HB5.out ad h); rcases f with f | f; exact absurd (hbA _ f).2 (Nat.not_lt.2 q); exact absurd (hbO _ f).2 (Nat.not_lt.2 q))
  have HAB : Hid (apV (.slice a3 n c3) (.slice a4 n c4)) := hideI (fun j h1 h2 => absurd (HW34.out j h1).2 (Nat.not_lt.2 (hb4 j h2)))
  have HAA : Hid (apV (.slice a3 n c3) (.slice bA p.av.length dA)) := hideI (fun j h1 h2 => absurd (hbA j h2).2 (Nat.not_lt.2 (hb3 j h1)))
  have HAD : Hid (apV (.slice a3 n c3) (.slice bD p.dr.length dD)) := hideI (fun j h1 h2 => absurd (hbD j h2).2 (Nat.not_lt.2 (hb3 j h1)))
  have HBA : Hid (apV (.slice a4 n c4) (.slice bA p.av.length dA)) := hideI (fun j h1 h2 => absurd (hbA j h2).2 (Nat.not_lt.2 (Nat.le_trans hz3 (hb4 j h1))))
  have HBD : Hid (apV (.slice a4 n c4) (.slice bD p.dr.length dD)) := hideI (fun j h1 h2 => absurd (hbD j h2).2 (Nat.not_lt.2 (Nat.le_trans hz3 (hb4 j h1))))
  have HFIN : Hid (∀ Wa Wb, Kept (fun _ => False) W1 Wa → Kept (fun k => ∃ v ∈ [Value.slice a3 n c3, .slice a4 n c4, .slice none 0 0, .slice bA p.av.length dA, .slice bD p.dr.length dD], v.ownBlock = some k) (Wa.alloc (.cells #[.slice a3 n c3, .slice a4 n c4, .slice none 0 0, .slice bA p.av.length dA, .slice bD p.dr.length dD] 22)) Wb → Kept (fun _ => False) w Wb) := hideI (fun Wa Wb k1 k2 => ((((HKA.out.trans HK1.out (fun _ f => f.elim)).trans k1 (fun _ f => f.elim)).trans (Kept.alloc _ _) (fun _ f => f.elim)).trans k2 (fun j hj => .inr (by
    obtain ⟨v, hv, hb⟩ := hj
    have hs1 := (Kept.alloc W2 (.cells #[.slice bA p.av.length dA, .slice bC p.cu.length dC, .slice bN p.nr.length dN, .bool p.al, .slice bD p.dr.length dD, .slice bO p.co.length dO] 27)).size
    have hs2 := HCPP.out.kept.size
    have hs3 := HK3.out.size
    simp only [List.mem_cons, List.not_mem_nil, or_false] at hv
    rcases hv with e | e | e | e | e <;> rw [e] at hb
    · have := hb3 j hb; omega
    · have := hb4 j hb; omega
    · cases hb
    · have := (hbA j hb).1; omega
    · have := (hbD j hb).1; omega))))
  clear hbA hbO hbD hb3 hb4 hz3 hz4 hw1
  by_cases hm : q.co.length = p.co.length
  · by_cases h0 : p.co.length = 0
    · rw [hm] at z5
      have H0 := hideI h0
      clear h0
      go_wp2_with (refine wpList_copy_nothing rfl (.tmp 59) (.tmp 61) 25 25 rfl 5 Tryd.underlying25 Tryd.sizeB _ _ _ _ _ _ rfl rfl (by rw [H0.out]; rfl) ?_)
      clear z0 z1 z2 z3 z4 z5
      have HMC := HM7
      have HCL : Hid (p.co.length = p.co.length) := hideI rfl
      have HCB := hideI HO.out.co
      clear y0 y1 y2 y3 y4 y5
      go_loopw [77] (fun v77 wr => ∃ (j : Nat) (al : List Int), j ≤ p.av.length ∧ v77 = .int .i64 j ∧ Hid (Md W7 W2.heap.size W1.heap.size p (.slice bA p.av.length dA) (.slice bC p.cu.length dC) (.slice bN p.nr.length dN) (.slice bD p.dr.length dD) (.slice bO p.co.length dO) al p.co wr) ∧ Hid (al.length = p.av.length ∧ NegTo j al ∧ IsInts al)) (fun v77 _ => p.av.length - (intOf v77).toNat)
      case atStart => exact ⟨0, p.av, by omega, rfl, HMC, hideI ⟨rfl, fun k hk => absurd hk (by omega), HO.out.av⟩⟩
      case round =>
        obtain ⟨j, al, hj, rfl, HMJ, HAJ⟩ := hrel
        obtain ⟨y0, y1, y2, y3, y4, y5⟩ := box6 HMJ.out.box
        by_cases hlt : j < p.av.length
        · have hji : (j : Int) < (p.av.length : Int) := by omega
          obtain ⟨gA, cA', hv⟩ := row_where HMJ.out.av (by omega)
          simp only [Value.slice.injEq, true_and] at hv
          obtain ⟨rfl, rfl⟩ := hv
          obtain ⟨hm1, hm2, hm3⟩ := HMJ.out.setA rfl hlt (-1)
          have HM1 := hideI hm1
          have HA1 := hideI (show (al.set j (-1)).length = p.av.length ∧ NegTo (j + 1) (al.set j (-1)) ∧ IsInts (al.set j (-1)) from ⟨by rw [List.length_set]; exact HAJ.out.1, HAJ.out.2.1.step (by rw [HAJ.out.1]; exact hlt), ints_setN HAJ.out.2.2⟩)
          clear hm1 HMJ
          go_wp2_with fail
          go_roundw
          case rel => exact ⟨j + 1, al.set j (-1), hlt, by go_num, HM1, HA1⟩
          case measure => simp [intOf]; omega
        · obtain rfl : j = p.av.length := by omega
          obtain ⟨xs, hrw⟩ := Md.rest HCPP.out HK7.out HMJ.out HAJ.out.1 HCL.out
          have HOK := hideI (md_ok HO.out HAJ.out.1 HCL.out HAJ.out.2.2 HCB.out)
          have HNV := hideI (neg_bad (q := ⟨al, p.cu, p.nr, p.al, p.dr, p.co⟩) (by have := HAJ.out.2.1; rw [← HAJ.out.1] at this; exact this.all))
          obtain ⟨p', hp'⟩ : ∃ p', p' = (⟨al, p.cu, p.nr, p.al, p.dr, p.co⟩ : Pg) := ⟨_, rfl⟩
          have HAL : Hid (p.al = p'.al) := hideI (by rw [hp'])
          rw [← hp'] at hrw HOK HNV
          clear hp'
          have HRW := hideI hrw
          have HKW : Hid (Kept (fun k => (Value.slice bA p.av.length dA).ownBlock = some k ∨ (Value.slice bO p.co.length dO).ownBlock = some k) W7 wr) := hideI HMJ.out.kept
          have HAV := hideI HMJ.out.av
          have HLA := hideI HAJ.out.1
          clear hrw HMJ
          have HC := hideI (heights_bad HRW.out p.al HAL.out HOK.out HNV.out (ad 0) (ad 1) (ad 20) (HE1.out.kept HRW.out.old).ve)
          go_wp2_with fail
          go_at_call 10
          refine HC.out.mono ?_
          clear HC y0 y1 y2 y3 y4 y5
          unfold errV
          rintro e W8 ⟨rfl, K8⟩
          have HRW8 := hideI (HRW.out.later K8)
          have HX8 := hideI K8
          obtain ⟨y0, y1, y2, y3, y4, y5⟩ := box6 HRW8.out.box
          have HC := hideI (copied_rw HRW8.out p'.al rfl HOK.out)
          clear K8
          go_wp2_with fail
          go_at_call 7
          refine HC.out.mono ?_
          clear HC y0 y1 y2 y3 y4 y5
          rintro e W9 ⟨xA, xC, xN, xD, xO, fA, fC, fN, fD, fO, rfl, hP9, K9⟩
          have HC := hideI (rheights_bad p' xA xC xN xD xO fA fC fN fD fO W9 hP9 HOK.out HNV.out)
          have HX9 := hideI (HX8.out.trans K9 (fun _ f => f.elim))
          clear hP9 K9
          go_wp2_with fail
          go_at_call 11
          refine HC.out.mono ?_
          clear HC
          rintro e W10 ⟨rfl, K10⟩
          have HX10 := hideI (HX9.out.trans K10 (fun _ f => f.elim))
          have HR10 := hideI (HRW.out.later HX10.out)
          clear K10
          go_wp2_with fail
          go_at_call 12
          refine (num_code (HE1.out.kept HR10.out.old).e).mono ?_
          rintro e W10b ⟨rfl, rfl⟩
          go_wp2_with fail
          go_at_call 13
          refine (sameI_nilV _).mono ?_
          rintro e W11 ⟨rfl, m11, hm11⟩
          have K11 : Kept (fun _ => False) W10b W11 := by rw [hm11]; exact Kept.drewN _ _
          have HX11 := hideI (HX10.out.trans K11 (fun _ f => f.elim))
          have HA11 := hideI (own_stay (own_besides HR37.out HKW.out (fun j h => HSA.out j h)) HX11.out)
          have HB11 := hideI (own_stay (own_besides HR47.out HKW.out (fun j h => HSB.out j h)) HX11.out)
          have HI11 := hideI ((ints_besides HI7.out HKW.out (fun ad h => HSI.out ad h)).keptI HX11.out)
          have HC := hideI (sameI_still HA a3 a5 c3 c5 W11 (row_ia HA11.out HLN.out.symm) HI11.out (by rw [HLN.out]; omega))
          rw [HLN.out] at HC
          clear K11 hm11
          go_wp2_with fail
          go_at_call 13
          refine HC.out.mono ?_
          clear HC
          rintro e W12 ⟨rfl, m12, hm12⟩
          have K12 : Kept (fun _ => False) W11 W12 := by rw [hm12]; exact Kept.drewN _ _
          have HX12 := hideI (HX11.out.trans K12 (fun _ f => f.elim))
          have HA12 := hideI (own_stay HA11.out K12)
          have HB12 := hideI (own_stay HB11.out K12)
          have HR12 := hideI (HRW.out.later HX12.out)
          obtain ⟨y0, y1, y2, y3, y4, y5⟩ := box6 HR12.out.box
          have HV12 := hideI (own_stay HAV.out HX12.out)
          have HD12 := hideI (HR12.out.dr)
          have h5 := own5 HA12.out HB12.out (nil_row W12 0) HV12.out HD12.out HAB.out (apV_nil _) HAA.out HAD.out (apV_nil _) HBA.out HBD.out (apV_sym (apV_nil _)) (apV_sym (apV_nil _)) HCPP.out.ap
          have hd : p'.dr.length ≤ 67108864 := HOK.out.len.2.1
          have HC := hideI (ownI_anyV mk HMK.out _ _ W12.heap.size 0 5 5 _ h5.1 h5.2 rfl (by omega) (by omega) (fun t ht => x5_len ht (by rw [HLN.out]; omega) (by rw [HLN.out]; omega) (by simp) (by rw [HLA.out]; omega) (by omega)) (by simp))
          clear K12 hm12 h5
          go_wp2_with fail
          go_at_call 15
          refine HC.out.mono ?_
          clear HC
          rintro e W13 ⟨rfl, h13⟩
          have HK13 := hideI h13.kept
          clear h13
          go_wp2_with fail
          go_ret
          exact ⟨rfl, HFIN.out _ _ (HRW.out.old.trans HX12.out (fun _ f => f.elim)) HK13.out⟩
    · rw [hm] at z5
      have H0 := hideI h0
      clear h0
      have hpos : 0 < p.co.length := Nat.pos_of_ne_zero H0.out
      obtain ⟨gO, cO', hv⟩ := row_where HM7.out.co hpos
      simp only [Value.slice.injEq, true_and] at hv
      obtain ⟨rfl, rfl⟩ := hv
      obtain ⟨adq, hadq, hsrc⟩ := by_news (HQ.out.kept (HK2.out.trans HK7.out (fun _ f => f.elim))).co (by rw [hm]; exact hpos)
      subst hadq
      obtain ⟨cur, hg, hle, hmd⟩ := HM7.out.row rfl hm
      have hbl : (by4 q.co).length = p.co.length := by simp [by4, hm]
      obtain ⟨Wc, hWc⟩ : ∃ Wc, Wc = W7.setRow gO (cur.toList.take 0 ++ (by4 q.co ++ cur.toList.drop (0 + (by4 q.co).length))).toArray := ⟨_, rfl⟩
      rw [← hWc] at hmd
      have HMC := hideI hmd
      have HCL := hideI hm
      have HCB := hideI HOQ.out.co
      go_wp2_with (refine wpList_copy_own rfl (.tmp 59) (.tmp 61) 25 25 rfl 5 Tryd.underlying25 Tryd.sizeB gO 0 p.co.length _ adq p.co.length _ rfl rfl cur 5 hg (by4 q.co) (by rw [hbl]; exact (Nat.min_self _).symm) hsrc (by rw [hbl, Nat.zero_add]; exact hle) (by4_one _) ?_; rw [← hWc]; clear hWc y0 y1 y2 y3 y4 y5 z0 z1 z2 z3 z4 z5; obtain ⟨y0, y1, y2, y3, y4, y5⟩ := box6 hmd.box)
      clear hmd hg hsrc hle hbl
      clear y0 y1 y2 y3 y4 y5
      go_loopw [77] (fun v77 wr => ∃ (j : Nat) (al : List Int), j ≤ p.av.length ∧ v77 = .int .i64 j ∧ Hid (Md W7 W2.heap.size W1.heap.size p (.slice bA p.av.length dA) (.slice bC p.cu.length dC) (.slice bN p.nr.length dN) (.slice bD p.dr.length dD) (.slice (some ⟨gO, 0, none⟩) p.co.length dO) al q.co wr) ∧ Hid (al.length = p.av.length ∧ NegTo j al ∧ IsInts al)) (fun v77 _ => p.av.length - (intOf v77).toNat)
      case atStart => exact ⟨0, p.av, by omega, rfl, HMC, hideI ⟨rfl, fun k hk => absurd hk (by omega), HO.out.av⟩⟩
      case round =>
        obtain ⟨j, al, hj, rfl, HMJ, HAJ⟩ := hrel
        obtain ⟨y0, y1, y2, y3, y4, y5⟩ := box6 HMJ.out.box
        by_cases hlt : j < p.av.length
        · have hji : (j : Int) < (p.av.length : Int) := by omega
          obtain ⟨gA, cA', hv⟩ := row_where HMJ.out.av (by omega)
          simp only [Value.slice.injEq, true_and] at hv
          obtain ⟨rfl, rfl⟩ := hv
          obtain ⟨hm1, hm2, hm3⟩ := HMJ.out.setA rfl hlt (-1)
          have HM1 := hideI hm1
          have HA1 := hideI (show (al.set j (-1)).length = p.av.length ∧ NegTo (j + 1) (al.set j (-1)) ∧ IsInts (al.set j (-1)) from ⟨by rw [List.length_set]; exact HAJ.out.1, HAJ.out.2.1.step (by rw [HAJ.out.1]; exact hlt), ints_setN HAJ.out.2.2⟩)
          clear hm1 HMJ
          go_wp2_with fail
          go_roundw
          case rel => exact ⟨j + 1, al.set j (-1), hlt, by go_num, HM1, HA1⟩
          case measure => simp [intOf]; omega
        · obtain rfl : j = p.av.length := by omega
          obtain ⟨xs, hrw⟩ := Md.rest HCPP.out HK7.out HMJ.out HAJ.out.1 HCL.out
          have HOK := hideI (md_ok HO.out HAJ.out.1 HCL.out HAJ.out.2.2 HCB.out)
          have HNV := hideI (neg_bad (q := ⟨al, p.cu, p.nr, p.al, p.dr, q.co⟩) (by have := HAJ.out.2.1; rw [← HAJ.out.1] at this; exact this.all))
          obtain ⟨p', hp'⟩ : ∃ p', p' = (⟨al, p.cu, p.nr, p.al, p.dr, q.co⟩ : Pg) := ⟨_, rfl⟩
          have HAL : Hid (p.al = p'.al) := hideI (by rw [hp'])
          rw [← hp'] at hrw HOK HNV
          clear hp'
          have HRW := hideI hrw
          have HKW : Hid (Kept (fun k => (Value.slice bA p.av.length dA).ownBlock = some k ∨ (Value.slice (some ⟨gO, 0, none⟩) p.co.length dO).ownBlock = some k) W7 wr) := hideI HMJ.out.kept
          have HAV := hideI HMJ.out.av
          have HLA := hideI HAJ.out.1
          clear hrw HMJ
          have HC := hideI (heights_bad HRW.out p.al HAL.out HOK.out HNV.out (ad 0) (ad 1) (ad 20) (HE1.out.kept HRW.out.old).ve)
          go_wp2_with fail
          go_at_call 10
          refine HC.out.mono ?_
          clear HC y0 y1 y2 y3 y4 y5
          unfold errV
          rintro e W8 ⟨rfl, K8⟩
          have HRW8 := hideI (HRW.out.later K8)
          have HX8 := hideI K8
          obtain ⟨y0, y1, y2, y3, y4, y5⟩ := box6 HRW8.out.box
          have HC := hideI (copied_rw HRW8.out p'.al rfl HOK.out)
          clear K8
          go_wp2_with fail
          go_at_call 7
          refine HC.out.mono ?_
          clear HC y0 y1 y2 y3 y4 y5
          rintro e W9 ⟨xA, xC, xN, xD, xO, fA, fC, fN, fD, fO, rfl, hP9, K9⟩
          have HC := hideI (rheights_bad p' xA xC xN xD xO fA fC fN fD fO W9 hP9 HOK.out HNV.out)
          have HX9 := hideI (HX8.out.trans K9 (fun _ f => f.elim))
          clear hP9 K9
          go_wp2_with fail
          go_at_call 11
          refine HC.out.mono ?_
          clear HC
          rintro e W10 ⟨rfl, K10⟩
          have HX10 := hideI (HX9.out.trans K10 (fun _ f => f.elim))
          have HR10 := hideI (HRW.out.later HX10.out)
          clear K10
          go_wp2_with fail
          go_at_call 12
          refine (num_code (HE1.out.kept HR10.out.old).e).mono ?_
          rintro e W10b ⟨rfl, rfl⟩
          go_wp2_with fail
          go_at_call 13
          refine (sameI_nilV _).mono ?_
          rintro e W11 ⟨rfl, m11, hm11⟩
          have K11 : Kept (fun _ => False) W10b W11 := by rw [hm11]; exact Kept.drewN _ _
          have HX11 := hideI (HX10.out.trans K11 (fun _ f => f.elim))
          have HA11 := hideI (own_stay (own_besides HR37.out HKW.out (fun j h => HSA.out j h)) HX11.out)
          have HB11 := hideI (own_stay (own_besides HR47.out HKW.out (fun j h => HSB.out j h)) HX11.out)
          have HI11 := hideI ((ints_besides HI7.out HKW.out (fun ad h => HSI.out ad h)).keptI HX11.out)
          have HC := hideI (sameI_still HA a3 a5 c3 c5 W11 (row_ia HA11.out HLN.out.symm) HI11.out (by rw [HLN.out]; omega))
          rw [HLN.out] at HC
          clear K11 hm11
          go_wp2_with fail
          go_at_call 13
          refine HC.out.mono ?_
          clear HC
          rintro e W12 ⟨rfl, m12, hm12⟩
          have K12 : Kept (fun _ => False) W11 W12 := by rw [hm12]; exact Kept.drewN _ _
          have HX12 := hideI (HX11.out.trans K12 (fun _ f => f.elim))
          have HA12 := hideI (own_stay HA11.out K12)
          have HB12 := hideI (own_stay HB11.out K12)
          have HR12 := hideI (HRW.out.later HX12.out)
          obtain ⟨y0, y1, y2, y3, y4, y5⟩ := box6 HR12.out.box
          have HV12 := hideI (own_stay HAV.out HX12.out)
          have HD12 := hideI (HR12.out.dr)
          have h5 := own5 HA12.out HB12.out (nil_row W12 0) HV12.out HD12.out HAB.out (apV_nil _) HAA.out HAD.out (apV_nil _) HBA.out HBD.out (apV_sym (apV_nil _)) (apV_sym (apV_nil _)) HCPP.out.ap
          have hd : p'.dr.length ≤ 67108864 := HOK.out.len.2.1
          have HC := hideI (ownI_anyV mk HMK.out _ _ W12.heap.size 0 5 5 _ h5.1 h5.2 rfl (by omega) (by omega) (fun t ht => x5_len ht (by rw [HLN.out]; omega) (by rw [HLN.out]; omega) (by simp) (by rw [HLA.out]; omega) (by omega)) (by simp))
          clear K12 hm12 h5
          go_wp2_with fail
          go_at_call 15
          refine HC.out.mono ?_
          clear HC
          rintro e W13 ⟨rfl, h13⟩
          have HK13 := hideI h13.kept
          clear h13
          go_wp2_with fail
          go_ret
          exact ⟨rfl, HFIN.out _ _ (HRW.out.old.trans HX12.out (fun _ f => f.elim)) HK13.out⟩
  · have hne : ((q.co.length : Int) == (p.co.length : Int)) = false := by simp; omega
    go_wp2_with fail
    clear y0 y1 y2 y3 y4 y5 z0 z1 z2 z3 z4 z5 hne
    go_loopw [66] (fun v66 wr => ∃ (j : Nat) (co : List Int), j ≤ p.co.length ∧ v66 = .int .i64 j ∧ Hid (Md W7 W2.heap.size W1.heap.size p (.slice bA p.av.length dA) (.slice bC p.cu.length dC) (.slice bN p.nr.length dN) (.slice bD p.dr.length dD) (.slice bO p.co.length dO) p.av co wr) ∧ Hid (co.length = p.co.length ∧ IsBytes co)) (fun v66 _ => p.co.length - (intOf v66).toNat)
    case atStart => exact ⟨0, p.co, by omega, rfl, HM7, hideI ⟨rfl, HO.out.co⟩⟩
    case round =>
      obtain ⟨j, co, hj, rfl, HMC, HCJ⟩ := hrel
      by_cases hlt : j < p.co.length
      · have hji : (j : Int) < (p.co.length : Int) := by omega
        obtain ⟨y0, y1, y2, y3, y4, y5⟩ := box6 HMC.out.box
        obtain ⟨gO, cO', hv⟩ := row_where HMC.out.co (by omega)
        simp only [Value.slice.injEq, true_and] at hv
        obtain ⟨rfl, rfl⟩ := hv
        obtain ⟨hm1, hm2, hm3⟩ := HMC.out.setO rfl hlt 0
        have HM1 := hideI hm1
        have HC1 := hideI (show (co.set j 0).length = p.co.length ∧ IsBytes (co.set j 0) from ⟨by rw [List.length_set]; exact HCJ.out.1, bytes_set0 HCJ.out.2⟩)
        clear hm1 HMC
        go_wp2_with fail
        go_roundw
        case rel => exact ⟨j + 1, co.set j 0, hlt, by go_num, HM1, HC1⟩
        case measure => simp [intOf]; omega
      · obtain rfl : j = p.co.length := by omega
        have HCL := hideI HCJ.out.1
        have HCB := hideI HCJ.out.2
        obtain ⟨y0, y1, y2, y3, y4, y5⟩ := box6 HMC.out.box
        go_wp2_with fail
        clear y0 y1 y2 y3 y4 y5
        go_loopw [77] (fun v77 wr => ∃ (j : Nat) (al : List Int), j ≤ p.av.length ∧ v77 = .int .i64 j ∧ Hid (Md W7 W2.heap.size W1.heap.size p (.slice bA p.av.length dA) (.slice bC p.cu.length dC) (.slice bN p.nr.length dN) (.slice bD p.dr.length dD) (.slice bO p.co.length dO) al co wr) ∧ Hid (al.length = p.av.length ∧ NegTo j al ∧ IsInts al)) (fun v77 _ => p.av.length - (intOf v77).toNat)
        case atStart => exact ⟨0, p.av, by omega, rfl, HMC, hideI ⟨rfl, fun k hk => absurd hk (by omega), HO.out.av⟩⟩
        case round =>
          obtain ⟨j, al, hj, rfl, HMJ, HAJ⟩ := hrel
          obtain ⟨y0, y1, y2, y3, y4, y5⟩ := box6 HMJ.out.box
          by_cases hlt : j < p.av.length
          · have hji : (j : Int) < (p.av.length : Int) := by omega
            obtain ⟨gA, cA', hv⟩ := row_where HMJ.out.av (by omega)
            simp only [Value.slice.injEq, true_and] at hv
            obtain ⟨rfl, rfl⟩ := hv
            obtain ⟨hm1, hm2, hm3⟩ := HMJ.out.setA rfl hlt (-1)
            have HM1 := hideI hm1
            have HA1 := hideI (show (al.set j (-1)).length = p.av.length ∧ NegTo (j + 1) (al.set j (-1)) ∧ IsInts (al.set j (-1)) from ⟨by rw [List.length_set]; exact HAJ.out.1, HAJ.out.2.1.step (by rw [HAJ.out.1]; exact hlt), ints_setN HAJ.out.2.2⟩)
            clear hm1 HMJ
            go_wp2_with fail
            go_roundw
            case rel => exact ⟨j + 1, al.set j (-1), hlt, by go_num, HM1, HA1⟩
            case measure => simp [intOf]; omega
          · obtain rfl : j = p.av.length := by omega
            obtain ⟨xs, hrw⟩ := Md.rest HCPP.out HK7.out HMJ.out HAJ.out.1 HCL.out
            have HOK := hideI (md_ok HO.out HAJ.out.1 HCL.out HAJ.out.2.2 HCB.out)
            have HNV := hideI (neg_bad (q := ⟨al, p.cu, p.nr, p.al, p.dr, co⟩) (by have := HAJ.out.2.1; rw [← HAJ.out.1] at this; exact this.all))
            obtain ⟨p', hp'⟩ : ∃ p', p' = (⟨al, p.cu, p.nr, p.al, p.dr, co⟩ : Pg) := ⟨_, rfl⟩
            have HAL : Hid (p.al = p'.al) := hideI (by rw [hp'])
            rw [← hp'] at hrw HOK HNV
            clear hp'
            have HRW := hideI hrw
            have HKW : Hid (Kept (fun k => (Value.slice bA p.av.length dA).ownBlock = some k ∨ (Value.slice bO p.co.length dO).ownBlock = some k) W7 wr) := hideI HMJ.out.kept
            have HAV := hideI HMJ.out.av
            have HLA := hideI HAJ.out.1
            clear hrw HMJ
            have HC := hideI (heights_bad HRW.out p.al HAL.out HOK.out HNV.out (ad 0) (ad 1) (ad 20) (HE1.out.kept HRW.out.old).ve)
            go_wp2_with fail
            go_at_call 10
            refine HC.out.mono ?_
            clear HC y0 y1 y2 y3 y4 y5
            unfold errV
            rintro e W8 ⟨rfl, K8⟩
            have HRW8 := hideI (HRW.out.later K8)
            have HX8 := hideI K8
            obtain ⟨y0, y1, y2, y3, y4, y5⟩ := box6 HRW8.out.box
            have HC := hideI (copied_rw HRW8.out p'.al rfl HOK.out)
            clear K8
            go_wp2_with fail
            go_at_call 7
            refine HC.out.mono ?_
            clear HC y0 y1 y2 y3 y4 y5
            rintro e W9 ⟨xA, xC, xN, xD, xO, fA, fC, fN, fD, fO, rfl, hP9, K9⟩
            have HC := hideI (rheights_bad p' xA xC xN xD xO fA fC fN fD fO W9 hP9 HOK.out HNV.out)
            have HX9 := hideI (HX8.out.trans K9 (fun _ f => f.elim))
            clear hP9 K9
            go_wp2_with fail
            go_at_call 11
            refine HC.out.mono ?_
            clear HC
            rintro e W10 ⟨rfl, K10⟩
            have HX10 := hideI (HX9.out.trans K10 (fun _ f => f.elim))
            have HR10 := hideI (HRW.out.later HX10.out)
            clear K10
            go_wp2_with fail
            go_at_call 12
            refine (num_code (HE1.out.kept HR10.out.old).e).mono ?_
            rintro e W10b ⟨rfl, rfl⟩
            go_wp2_with fail
            go_at_call 13
            refine (sameI_nilV _).mono ?_
            rintro e W11 ⟨rfl, m11, hm11⟩
            have K11 : Kept (fun _ => False) W10b W11 := by rw [hm11]; exact Kept.drewN _ _
            have HX11 := hideI (HX10.out.trans K11 (fun _ f => f.elim))
            have HA11 := hideI (own_stay (own_besides HR37.out HKW.out (fun j h => HSA.out j h)) HX11.out)
            have HB11 := hideI (own_stay (own_besides HR47.out HKW.out (fun j h => HSB.out j h)) HX11.out)
            have HI11 := hideI ((ints_besides HI7.out HKW.out (fun ad h => HSI.out ad h)).keptI HX11.out)
            have HC := hideI (sameI_still HA a3 a5 c3 c5 W11 (row_ia HA11.out HLN.out.symm) HI11.out (by rw [HLN.out]; omega))
            rw [HLN.out] at HC
            clear K11 hm11
            go_wp2_with fail
            go_at_call 13
            refine HC.out.mono ?_
            clear HC
            rintro e W12 ⟨rfl, m12, hm12⟩
            have K12 : Kept (fun _ => False) W11 W12 := by rw [hm12]; exact Kept.drewN _ _
            have HX12 := hideI (HX11.out.trans K12 (fun _ f => f.elim))
            have HA12 := hideI (own_stay HA11.out K12)
            have HB12 := hideI (own_stay HB11.out K12)
            have HR12 := hideI (HRW.out.later HX12.out)
            obtain ⟨y0, y1, y2, y3, y4, y5⟩ := box6 HR12.out.box
            have HV12 := hideI (own_stay HAV.out HX12.out)
            have HD12 := hideI (HR12.out.dr)
            have h5 := own5 HA12.out HB12.out (nil_row W12 0) HV12.out HD12.out HAB.out (apV_nil _) HAA.out HAD.out (apV_nil _) HBA.out HBD.out (apV_sym (apV_nil _)) (apV_sym (apV_nil _)) HCPP.out.ap
            have hd : p'.dr.length ≤ 67108864 := HOK.out.len.2.1
            have HC := hideI (ownI_anyV mk HMK.out _ _ W12.heap.size 0 5 5 _ h5.1 h5.2 rfl (by omega) (by omega) (fun t ht => x5_len ht (by rw [HLN.out]; omega) (by rw [HLN.out]; omega) (by simp) (by rw [HLA.out]; omega) (by omega)) (by simp))
            clear K12 hm12 h5
            go_wp2_with fail
            go_at_call 15
            refine HC.out.mono ?_
            clear HC
            rintro e W13 ⟨rfl, h13⟩
            have HK13 := hideI h13.kept
            clear h13
            go_wp2_with fail
            go_ret
            exact ⟨rfl, HFIN.out _ _ (HRW.out.old.trans HX12.out (fun _ f => f.elim)) HK13.out⟩
end Go.Proofs.YtiebmmpnmklpnaaDoor
namespace Go.Proofs.YtiebmmpnmklpnaaDoor
open Go.ChangeShapes Go.WideShapes Go.ChangeAt Go.RowKit

theorem mem21_all (p q : Pg) (aA aC aN aD aO rA rC rN rD rO : Option Addr) (cA cC cN cD cO eA eC eN eD eO : Nat) (ad : Nat → Addr) (w : World) (hP : PgAt w p aA aC aN aD aO) (hO : p.Ok) (hQ : PgAt w q rA rC rN rD rO) (hOq : q.Ok) (hE : VN w ad) :
    Calls Tryd.prog 5 #[.agg #[.slice aA p.av.length cA, .slice aC p.cu.length cC, .slice aN p.nr.length cN, .bool p.al, .slice aD p.dr.length cD, .slice aO p.co.length cO], .agg #[.slice rA q.av.length eA, .slice rC q.cu.length eC, .slice rN q.nr.length eN, .bool q.al, .slice rD q.dr.length eD, .slice rO q.co.length eO]] w fun e w' => e = .returned (.bool true) ∧ Kept (fun _ => False) w w' := by
  obtain ⟨mk, hmk⟩ := markI_funV
  exact mem21_walk mk hmk p q aA aC aN aD aO rA rC rN rD rO cA cC cN cD cO eA eC eN eD eO ad w hP hO hQ hOq hE
end Go.Proofs.YtiebmmpnmklpnaaDoor
