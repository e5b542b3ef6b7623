import Derived.Test.YtiebmmpnmklpnaaDoorVsp
namespace Go.Proofs.YtiebmmpnmklpnaaDoor
open Go.ChangeShapes Go.WideShapes Go.ChangeAt Go.RowKit

theorem own_has {w : World} {b e z n : Nat} {v : Value} {xs : List Value} (h : w.ownsRow b e z v n xs) : ∀ k, v.ownBlock = some k → ∃ o, w.heap[k]? = some (.cells o e (0, 0)) := by
  intro k hk
  rcases h.2 with ⟨rfl, _⟩ | ⟨g, cap, cur, rfl, _, hg, _⟩
  · cases hk
  · cases Option.some.inj hk
    exact ⟨cur, hg⟩
theorem NrX.low {w : World} {b1 : Nat} {xs : List Value} {l : List Nr} (h : NrX w b1 xs l) : NrX w 0 xs l := fun i hi => by
  obtain ⟨v1, v2, e1, e2, e3, r1, r2⟩ := h i hi
  exact ⟨v1, v2, e1, e2, e3, own_low r1 (Nat.zero_le _), own_low r2 (Nat.zero_le _)⟩
/-- A program in a box, all of its lists in memory of their own kinds. -/
structure Rw (w : World) (base g : Nat) (q : Pg) (xs : List Value) (vA vC vN vD vO : Value) (wr : World) : Prop where
  box : wr.heap[g]? = some (.cells #[vA, vC, vN, .bool q.al, vD, vO] 27 (0, 0))
  av : wr.ownsRow base 3 1 vA q.av.length (is q.av)
  cu : wr.ownsRow base 49 2 vC q.cu.length (lfv q.cu)
  nr : wr.ownsRow base 51 3 vN q.nr.length xs
  nx : NrX wr 0 xs q.nr
  dr : wr.ownsRow 0 3 1 vD q.dr.length (is q.dr)
  co : wr.ownsRow base 5 1 vO q.co.length (by4 q.co)
  old : Kept (fun _ => False) w wr
  bg : w.heap.size ≤ g
  bb : w.heap.size ≤ base
theorem Rw.later {w : World} {base g : Nat} {q : Pg} {xs : List Value} {vA vC vN vD vO : Value} {wr w' : World} (h : Rw w base g q xs vA vC vN vD vO wr) (k : Kept (fun _ => False) wr w') : Rw w base g q xs vA vC vN vD vO w' :=
  ⟨k.heap h.box (fun f => f), own_stay h.av k, own_stay h.cu k, own_stay h.nr k, h.nx.apart k (fun _ f => f.elim), own_stay h.dr k, own_stay h.co k, h.old.trans k (fun _ f => f.elim), h.bg, h.bb⟩
theorem Rw.at {w : World} {base g : Nat} {q : Pg} {xs : List Value} {vA vC vN vD vO : Value} {wr : World} (h : Rw w base g q xs vA vC vN vD vO wr) : ∃ aA aC aN aD aO cA cC cN cD cO, vA = .slice aA q.av.length cA ∧ vC = .slice aC q.cu.length cC ∧ vN = .slice aN q.nr.length cN ∧ vD = .slice aD q.dr.length cD ∧ vO = .slice aO q.co.length cO ∧ PgAt wr q aA aC aN aD aO := by
  obtain ⟨aA, cA, eA, hA⟩ := own_ints h.av rfl
  obtain ⟨aC, cC, eC, hC⟩ := own_lfs h.cu rfl
  obtain ⟨aD, cD, eD, hD⟩ := own_ints h.dr rfl
  obtain ⟨aO, cO, eO, hO⟩ := own_bts h.co rfl
  obtain ⟨aN, cN, eN, hN⟩ := nx_at h.nr rfl h.nx
  exact ⟨aA, aC, aN, aD, aO, cA, cC, cN, cD, cO, eA, eC, eN, eD, eO, hA, hC, hN, hD, hO⟩
theorem not_int_at {wr : World} {g : Nat} {c : Array Value} (hg : wr.heap[g]? = some (.cells c 27 (0, 0))) : ∀ j, j = g → ∀ o fz, wr.heap[j]? ≠ some (.cells o 3 fz) := by
  intro j hj o fz hc
  rw [hj, hg] at hc
  injection hc with hc
  injection hc with _ hc _
  exact absurd hc (by decide)
theorem Rw.all {w : World} {base g : Nat} {q : Pg} {xs : List Value} {vA vC vN vD vO : Value} {wr : World} (h : Rw w base g q xs vA vC vN vD vO wr) (b : Bool) : Rw w base g ⟨q.av, q.cu, q.nr, b, q.dr, q.co⟩ xs vA vC vN vD vO (wr.setCell ⟨g, 3, none⟩ (.bool b)) ∧ wr.cell? ⟨g, 3, none⟩ = some (.bool q.al) ∧ wr.frozen? ⟨g, 3, none⟩ = false := by
  have KS : Kept (fun j => j = g) wr (wr.setCell ⟨g, 3, none⟩ (.bool b)) := Kept.setCell wr ⟨g, 3, none⟩ (.bool b)
  exact ⟨⟨heap_setCell_same wr g 3 _ _ (.bool b) h.box, own_past h.av KS h.box (by decide), own_past h.cu KS h.box (by decide), own_past h.nr KS h.box (by decide), h.nx.apart KS (not_int_at h.box), own_past h.dr KS h.box (by decide), own_past h.co KS h.box (by decide), h.old.trans KS (fun i e => .inr (by rw [e]; exact h.bg)), h.bg, h.bb⟩, cell_of_row _ _ 3 _ _ _ h.box, by simp [World.frozen?, h.box]⟩
theorem Rw.drive {w : World} {base g : Nat} {q : Pg} {xs : List Value} {vA vC vN vD vO : Value} {wr : World} (h : Rw w base g q xs vA vC vN vD vO wr) (vD' : Value) (dr : List Int) (hd : wr.ownsRow 0 3 1 vD' dr.length (is dr)) : Rw w base g ⟨q.av, q.cu, q.nr, q.al, dr, q.co⟩ xs vA vC vN vD' vO (wr.setCell ⟨g, 4, none⟩ vD') ∧ wr.cell? ⟨g, 4, none⟩ = some vD ∧ wr.frozen? ⟨g, 4, none⟩ = false := by
  have KS : Kept (fun j => j = g) wr (wr.setCell ⟨g, 4, none⟩ vD') := Kept.setCell wr ⟨g, 4, none⟩ vD'
  exact ⟨⟨heap_setCell_same wr g 4 _ _ vD' h.box, own_past h.av KS h.box (by decide), own_past h.cu KS h.box (by decide), own_past h.nr KS h.box (by decide), h.nx.apart KS (not_int_at h.box), own_past hd KS h.box (by decide), own_past h.co KS h.box (by decide), h.old.trans KS (fun i e => .inr (by rw [e]; exact h.bg)), h.bg, h.bb⟩, cell_of_row _ _ 4 _ _ _ h.box, by simp [World.frozen?, h.box]⟩
theorem Rw.pushN {w : World} {base g : Nat} {q : Pg} {xs : List Value} {vA vC vN vD vO : Value} {wr w' : World} (h : Rw w base g q xs vA vC vN vD vO wr) {vN' v1 v2 : Value} (m : Nr) (r1 : wr.ownsRow 0 3 1 v1 m.cs.length (is m.cs)) (r2 : wr.ownsRow 0 3 1 v2 m.os.length (is m.os)) (ho : w'.ownsRow base 51 3 vN' (q.nr.length + 1) (xs ++ [v1, v2, .int .i64 m.sl])) (k : Kept (fun i => vN.ownBlock = some i) wr w') :
    Rw w base g ⟨q.av, q.cu, q.nr ++ [m], q.al, q.dr, q.co⟩ (xs ++ [v1, v2, .int .i64 m.sl]) vA vC vN' vD vO (w'.setCell ⟨g, 2, none⟩ vN') ∧ w'.cell? ⟨g, 2, none⟩ = some vN ∧ w'.frozen? ⟨g, 2, none⟩ = false := by
  have hg : w'.heap[g]? = some (.cells #[vA, vC, vN, .bool q.al, vD, vO] 27 (0, 0)) := k.heap h.box (fun e => own_typed h.nr (e' := 27) (by decide) g e _ _ h.box)
  have KS : Kept (fun j => j = g) w' (w'.setCell ⟨g, 2, none⟩ vN') := Kept.setCell w' ⟨g, 2, none⟩ vN'
  have tI := own_typed h.nr (e' := 3) (by decide)
  refine ⟨⟨heap_setCell_same w' g 2 _ _ vN' hg, own_past (own_apart h.av k tI) KS hg (by decide), own_past (own_apart h.cu k (own_typed h.nr (by decide))) KS hg (by decide), ?_, ?_, own_past (own_apart h.dr k tI) KS hg (by decide), own_past (own_apart h.co k (own_typed h.nr (by decide))) KS hg (by decide), (h.old.trans k (fun i e => .inr (Nat.le_trans h.bb (h.nr.lt i e).1))).trans KS (fun i e => .inr (by rw [e]; exact h.bg)), h.bg, h.bb⟩, cell_of_row _ _ 2 _ _ _ hg, by simp [World.frozen?, hg]⟩
  · rw [show (q.nr ++ [m]).length = q.nr.length + 1 by simp]
    exact own_past ho KS hg (by decide)
  · exact NrX.snoc ((h.nx.apart k tI).apart KS (not_int_at hg)) (by have := h.nr.1; omega) (own_past (own_apart r1 k tI) KS hg (by decide)) (own_past (own_apart r2 k tI) KS hg (by decide))
/-- Behind 'copied': the copy in its box. -/
theorem Mo.start {w V3 W2 : World} {p : Pg} {vA vC vN vD vO : Value} (c : CpP V3 p W2 vA vC vN vD vO) (k : Kept (fun _ => False) w V3) : Mo w (W2.alloc (.cells #[vA, vC, vN, .bool p.al, vD, vO] 27)) V3.heap.size W2.heap.size p vA vC vN vD vO p.av p.cu vA vC (W2.alloc (.cells #[vA, vC, vN, .bool p.al, vD, vO] 27)) :=
  ⟨heap_alloc_new W2 _, own_stay c.av (Kept.alloc _ _), own_stay c.cu (Kept.alloc _ _), .inl rfl, .inl rfl, Kept.refl _ _, (k.trans c.kept (fun _ f => f.elim)).trans (Kept.alloc _ _) (fun _ f => f.elim), Nat.le_trans k.size c.kept.size, k.size⟩
theorem Mo.rest {w V3 W2 wr : World} {p : Pg} {vA0 vC0 vN vD vO vA vC : Value} {av : List Int} {cu : List Lf} (c : CpP V3 p W2 vA0 vC0 vN vD vO) (h : Mo w (W2.alloc (.cells #[vA0, vC0, vN, .bool p.al, vD, vO] 27)) V3.heap.size W2.heap.size p vA0 vC0 vN vD vO av cu vA vC wr) :
    ∃ xs, Rw w V3.heap.size W2.heap.size ⟨av, cu, p.nr, p.al, p.dr, p.co⟩ xs vA vC vN vD vO wr := by
  have KA := Kept.alloc W2 (.cells #[vA0, vC0, vN, .bool p.al, vD, vO] 27)
  obtain ⟨V2, hV⟩ : ∃ V2, V2 = W2.alloc (.cells #[vA0, vC0, vN, .bool p.al, vD, vO] 27) := ⟨_, rfl⟩
  have hbox : V2.heap[W2.heap.size]? = some (.cells #[vA0, vC0, vN, .bool p.al, vD, vO] 27 (0, 0)) := by rw [hV]; exact heap_alloc_new W2 _
  rw [← hV] at h KA
  obtain ⟨xs, b1, hn, hx, l1, l2⟩ := c.nr
  have rA := own_stay c.av KA
  have rC := own_stay c.cu KA
  have rN := own_stay hn KA
  have rD := own_stay c.dr KA
  have rO := own_stay c.co KA
  have rX := hx.apart KA (fun _ f => f.elim)
  have hS : ∀ {e : TypeId} {o : Array Value} {fz : Nat × Nat} (j : Nat), V2.heap[j]? = some (.cells o e fz) → e ≠ 27 → e ≠ 49 → (e = 3 → vA0.ownBlock ≠ some j) → ¬ (j = W2.heap.size ∨ vA0.ownBlock = some j ∨ vC0.ownBlock = some j) := by
    intro e o fz j hj h1 h2 h3 hs
    rcases hs with q | q | q
    · rw [q, hbox] at hj
      injection hj with hj
      injection hj with _ hj _
      exact h1 hj.symm
    · obtain ⟨o', ho'⟩ := own_has rA j q
      rw [ho'] at hj
      injection hj with hj
      injection hj with _ hj _
      exact h3 hj.symm q
    · obtain ⟨o', ho'⟩ := own_has rC j q
      rw [ho'] at hj
      injection hj with hj
      injection hj with _ hj _
      exact h2 hj.symm
  refine ⟨xs, h.box, h.av, h.cu, own_besides rN h.kept (fun j hj => ?_), (rX.besides h.kept (fun j o fz hj hc => hS j hc (by decide) (by decide) (fun _ q => ?_))).low, own_low (own_besides rD h.kept (fun j hj => ?_)) (Nat.zero_le _), own_besides rO h.kept (fun j hj => ?_), h.old, h.bg, h.bb⟩
  · obtain ⟨o, ho⟩ := own_has rN j hj
    exact hS j ho (by decide) (by decide) (fun e => absurd e (by decide))
  · have := l1 j q
    omega
  · obtain ⟨o, ho⟩ := own_has rD j hj
    exact hS j ho (by decide) (by decide) (fun _ q => c.ap j q hj)
  · obtain ⟨o, ho⟩ := own_has rO j hj
    exact hS j ho (by decide) (by decide) (fun e => absurd e (by decide))
end Go.Proofs.YtiebmmpnmklpnaaDoor
