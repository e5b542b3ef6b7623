import Derived.Test.YtiebmmpnmklpnaaDoorMrg9
namespace Go.Proofs.YtiebmmpnmklpnaaDoor
open Go.ChangeShapes Go.WideShapes Go.ChangeAt Go.RowKit

/-! A good program that has grown is good, by the same code. -/
theorem fdA_app (cu ys : List Lf) {i : Int} (h0 : 0 ≤ i) (h : i < cu.length) : fdA (cu ++ ys) i = fdA cu i := by
  unfold fdA
  rw [List.getElem?_append_left (by omega)]
theorem NrOk.app {cu : List Lf} {n : Nr} (h : NrOk cu n) (ys : List Lf) : NrOk (cu ++ ys) n := by
  obtain ⟨h1, h2, h3, h4, h5⟩ := h
  have hc : ∀ i ∈ n.cs, 0 ≤ i ∧ i < (cu.length : Int) := fun i hi => ⟨(h4 i hi).1, (h4 i hi).2.1⟩
  have h0 : n.cs[0]?.getD 0 ∈ n.cs := by
    rw [List.getElem?_eq_getElem (by omega), Option.getD_some]
    exact List.getElem_mem _
  refine ⟨h1, h2, h3, fun i hi => ⟨(hc i hi).1, by rw [List.length_append]; have := (hc i hi).2; omega, ?_⟩, h5⟩
  rw [fdA_app cu ys (hc i hi).1 (hc i hi).2, fdA_app cu ys (hc _ h0).1 (hc _ h0).2]
  exact (h4 i hi).2.2
theorem Gd.more {p q : Pg} {L : List In} (h : Gd p L) (h1 : p.av.length ≤ q.av.length) (h2 : p.cu.length ≤ q.cu.length) (h3 : p.nr.length ≤ q.nr.length) : Gd q L :=
  ⟨h.en, fun k hk => by
    obtain ⟨a, b, c, d, e, f⟩ := h.pa k hk
    exact ⟨fun x => Nat.lt_of_lt_of_le (a x) h1, fun x => Nat.lt_of_lt_of_le (b x) h2, fun x => Nat.lt_of_lt_of_le (c x) h3, d, e, f⟩, h.st, h.sk, h.one⟩
/-- What has come to a program's averages and cursors. -/
structure Grw (p : Pg) (av : List Int) (cu : List Lf) : Prop where
  xa : ∃ xs, av = p.av ++ xs ∧ ∀ x ∈ xs, 0 ≤ x
  a16 : av.length ≤ 16
  yc : ∃ ys, cu = p.cu ++ ys ∧ ∀ c ∈ ys, CuOk av.length c
theorem Grw.avOk {p : Pg} {av : List Int} {cu : List Lf} {L : List In} (h : Grw p av cu) (hv : Vok p L) : AvOk av := by
  obtain ⟨⟨xs, e, hx⟩, h16, -⟩ := h
  obtain ⟨⟨a1, a2, a3⟩, -⟩ := hv.tb
  refine ⟨by rw [e, List.length_append]; omega, h16, fun x hm => ?_⟩
  rw [e] at hm
  rcases List.mem_append.1 hm with q | q
  · exact a3 x q
  · exact hx x q
theorem Grw.le {p : Pg} {av : List Int} {cu : List Lf} (h : Grw p av cu) : p.av.length ≤ av.length ∧ p.cu.length ≤ cu.length := by
  obtain ⟨⟨xs, e, -⟩, -, ⟨ys, f, -⟩⟩ := h
  rw [e, f, List.length_append, List.length_append]
  omega
theorem Grw.cuOk {p : Pg} {av : List Int} {cu : List Lf} {L : List In} (h : Grw p av cu) (hv : Vok p L) : ∀ c ∈ cu, CuOk av.length c := by
  have hl := h.le
  obtain ⟨-, -, ⟨ys, f, hy⟩⟩ := h
  intro c hc
  rw [f] at hc
  rcases List.mem_append.1 hc with q | q
  · obtain ⟨b1, b2, b3⟩ := hv.tb.2.1 c q
    exact ⟨b1, by omega, b3⟩
  · exact hy c q
theorem Grw.nrOk {p : Pg} {av : List Int} {cu : List Lf} {L : List In} (h : Grw p av cu) (hv : Vok p L) : ∀ n ∈ p.nr, NrOk cu n := by
  obtain ⟨-, -, ⟨ys, f, -⟩⟩ := h
  intro n hn
  rw [f]
  exact (hv.tb.2.2.1 n hn).app ys
/-- With a phrase over the last cursor and a drive of one. -/
def moP (p : Pg) (av : List Int) (cu : List Lf) (d : Int) : Pg := ⟨av, cu, p.nr ++ [⟨[(cu.length : Int) - 1, (cu.length : Int) - 1], [0, 5], 3⟩], false, [d], p.co⟩
theorem Vok.moP {p : Pg} {av : List Int} {cu : List Lf} {L : List In} (hv : Vok p L) (h : Grw p av cu) {d : Int} (hn : 0 < cu.length) (h0 : 0 ≤ d) (h1 : d < cu.length) : Vok (moP p av cu d) L := by
  obtain ⟨l1, l2⟩ := h.le
  refine ⟨⟨h.avOk hv, h.cuOk hv, fun n hm => ?_, fun e => (by cases e), fun k hk => ?_⟩, hv.dc, hv.gd.more l1 l2 (by simp [Proofs.YtiebmmpnmklpnaaDoor.moP])⟩
  · rcases List.mem_append.1 hm with q | q
    · exact h.nrOk hv n q
    · rw [List.mem_singleton.1 q]
      refine ⟨by simp, by simp, ⟨by simp only; omega, by simp only; omega⟩, fun i hi => ?_, fun o ho => ?_⟩
      · have e : i = (cu.length : Int) - 1 := by simpa using hi
        subst e
        exact ⟨by omega, by simp only [Proofs.YtiebmmpnmklpnaaDoor.moP]; omega, rfl⟩
      · simp at ho
        rcases ho with rfl | rfl <;> exact ⟨by decide, by decide⟩
  · have hk0 : k = 0 := by simp [Proofs.YtiebmmpnmklpnaaDoor.moP] at hk; exact hk
    subst hk0
    exact ⟨by simp [laD, Proofs.YtiebmmpnmklpnaaDoor.moP]; omega, by simpa [Proofs.YtiebmmpnmklpnaaDoor.moP] using h1⟩
theorem Vok.mo0 {p : Pg} {av : List Int} {cu : List Lf} {L : List In} (hv : Vok p L) (h : Grw p av cu) (hn : cu.length = 0) : Vok ⟨av, cu, p.nr, p.al, p.dr, p.co⟩ L := by
  obtain ⟨l1, l2⟩ := h.le
  refine ⟨⟨h.avOk hv, h.cuOk hv, h.nrOk hv, hv.tb.2.2.2.1, fun k hk => ?_⟩, hv.dc, hv.gd.more l1 l2 (Nat.le_refl _)⟩
  have q := hv.tb.2.2.2.2 k hk
  exact ⟨q.1, by have := q.2; simp only; omega⟩
theorem Vok.moL {av : List Int} {cu : List Lf} {nr : List Nr} {al : Bool} {dr co : List Int} {L : List In} (hv : Vok ⟨av, cu, nr, al, dr, co⟩ L) : Vok ⟨av, cu, nr, true, [], co⟩ L :=
  ⟨⟨hv.tb.1, hv.tb.2.1, hv.tb.2.2.1, fun _ => rfl, fun k hk => by simp at hk⟩, hv.dc, hv.gd.more (Nat.le_refl _) (Nat.le_refl _) (Nat.le_refl _)⟩

/-- The copy that grows, as it lies. -/
structure Mo (w V2 : World) (base g : Nat) (p : Pg) (vA0 vC0 vN vD vO : Value) (av : List Int) (cu : List Lf) (vA vC : Value) (wr : World) : Prop where
  box : wr.heap[g]? = some (.cells #[vA, vC, vN, .bool p.al, vD, vO] 27 (0, 0))
  av : wr.ownsRow base 3 1 vA av.length (is av)
  cu : wr.ownsRow base 49 2 vC cu.length (lfv cu)
  ba : vA.ownBlock = vA0.ownBlock ∨ ∀ k, vA.ownBlock = some k → V2.heap.size ≤ k
  bc : vC.ownBlock = vC0.ownBlock ∨ ∀ k, vC.ownBlock = some k → V2.heap.size ≤ k
  kept : Kept (fun k => k = g ∨ vA0.ownBlock = some k ∨ vC0.ownBlock = some k) V2 wr
  old : Kept (fun _ => False) w wr
  bg : w.heap.size ≤ g
  bb : w.heap.size ≤ base
theorem Mo.later {w V2 : World} {base g : Nat} {p : Pg} {vA0 vC0 vN vD vO : Value} {av : List Int} {cu : List Lf} {vA vC : Value} {wr w' : World} (h : Mo w V2 base g p vA0 vC0 vN vD vO av cu vA vC wr) (k : Kept (fun _ => False) wr w') : Mo w V2 base g p vA0 vC0 vN vD vO av cu vA vC w' :=
  ⟨k.heap h.box (fun f => f), own_stay h.av k, own_stay h.cu k, h.ba, h.bc, h.kept.trans k (fun _ f => f.elim), h.old.trans k (fun _ f => f.elim), h.bg, h.bb⟩
theorem Mo.pushA {w V2 : World} {base g : Nat} {p : Pg} {vA0 vC0 vN vD vO : Value} {av : List Int} {cu : List Lf} {vA vC : Value} {wr w' : World} (h : Mo w V2 base g p vA0 vC0 vN vD vO av cu vA vC wr) {vA' : Value} {x : Int} (ho : w'.ownsRow base 3 1 vA' (av.length + 1) (is av ++ [.int .i64 x])) (k : Kept (fun i => vA.ownBlock = some i) wr w') (hb : vA'.ownBlock = vA.ownBlock ∨ vA'.ownBlock = some wr.heap.size) :
    Mo w V2 base g p vA0 vC0 vN vD vO (av ++ [x]) cu vA' vC (w'.setCell ⟨g, 0, none⟩ vA') ∧ w'.cell? ⟨g, 0, none⟩ = some vA ∧ w'.frozen? ⟨g, 0, none⟩ = false := by
  have hg : w'.heap[g]? = some (.cells #[vA, vC, vN, .bool p.al, vD, vO] 27 (0, 0)) := k.heap h.box (fun q => own_typed h.av (e' := 27) (by decide) g q _ _ h.box)
  have KS : Kept (fun j => j = g) w' (w'.setCell ⟨g, 0, none⟩ vA') := Kept.setCell w' ⟨g, 0, none⟩ vA'
  have e1 : is av ++ [.int .i64 x] = is (av ++ [x]) := by simp [is]
  refine ⟨⟨heap_setCell_same w' g 0 _ _ vA' hg, ?_, own_past (own_apart h.cu k (own_typed h.av (by decide))) KS hg (by decide), ?_, h.bc, (h.kept.trans k (fun i q => ?_)).trans KS (fun i q => .inl (.inl q)), (h.old.trans k (fun i q => .inr (Nat.le_trans h.bb (h.av.lt i q).1))).trans KS (fun i q => .inr (by rw [q]; exact h.bg)), h.bg, h.bb⟩, cell_of_row _ _ 0 _ _ _ hg, by simp [World.frozen?, hg]⟩
  · rw [← e1, List.length_append]; exact own_past ho KS hg (by decide)
  · rcases hb with q | q
    · rcases h.ba with r | r
      · exact .inl (q.trans r)
      · exact .inr (fun i hi => r i (by rw [← q]; exact hi))
    · refine .inr (fun i hi => ?_)
      rw [q] at hi
      cases Option.some.inj hi
      exact h.kept.size
  · rcases h.ba with r | r
    · exact .inl (.inr (.inl (by rw [← r]; exact q)))
    · exact .inr (r i q)
theorem Mo.pushC {w V2 : World} {base g : Nat} {p : Pg} {vA0 vC0 vN vD vO : Value} {av : List Int} {cu : List Lf} {vA vC : Value} {wr w' : World} (h : Mo w V2 base g p vA0 vC0 vN vD vO av cu vA vC wr) {vC' : Value} {c : Lf} (ho : w'.ownsRow base 49 2 vC' (cu.length + 1) (lfv cu ++ [.int .i64 c.f, .string c.t])) (k : Kept (fun i => vC.ownBlock = some i) wr w') (hb : vC'.ownBlock = vC.ownBlock ∨ vC'.ownBlock = some wr.heap.size) :
    Mo w V2 base g p vA0 vC0 vN vD vO av (cu ++ [c]) vA vC' (w'.setCell ⟨g, 1, none⟩ vC') ∧ w'.cell? ⟨g, 1, none⟩ = some vC ∧ w'.frozen? ⟨g, 1, none⟩ = false := by
  have hg : w'.heap[g]? = some (.cells #[vA, vC, vN, .bool p.al, vD, vO] 27 (0, 0)) := k.heap h.box (fun q => own_typed h.cu (e' := 27) (by decide) g q _ _ h.box)
  have KS : Kept (fun j => j = g) w' (w'.setCell ⟨g, 1, none⟩ vC') := Kept.setCell w' ⟨g, 1, none⟩ vC'
  have e1 : lfv cu ++ [.int .i64 c.f, .string c.t] = lfv (cu ++ [c]) := by simp [lfv]
  refine ⟨⟨heap_setCell_same w' g 1 _ _ vC' hg, own_past (own_apart h.av k (own_typed h.cu (by decide))) KS hg (by decide), ?_, h.ba, ?_, (h.kept.trans k (fun i q => ?_)).trans KS (fun i q => .inl (.inl q)), (h.old.trans k (fun i q => .inr (Nat.le_trans h.bb (h.cu.lt i q).1))).trans KS (fun i q => .inr (by rw [q]; exact h.bg)), h.bg, h.bb⟩, cell_of_row _ _ 1 _ _ _ hg, by simp [World.frozen?, hg]⟩
  · rw [← e1, List.length_append]; exact own_past ho KS hg (by decide)
  · rcases hb with q | q
    · rcases h.bc with r | r
      · exact .inl (q.trans r)
      · exact .inr (fun i hi => r i (by rw [← q]; exact hi))
    · refine .inr (fun i hi => ?_)
      rw [q] at hi
      cases Option.some.inj hi
      exact h.kept.size
  · rcases h.bc with r | r
    · exact .inl (.inr (.inr (by rw [← r]; exact q)))
    · exact .inr (r i q)
/-- A row whose block is not among those that change. -/
theorem own_besides {S : Nat → Prop} {w w' : World} {b e z n : Nat} {v : Value} {xs : List Value} (h : w.ownsRow b e z v n xs) (k : Kept S w w') (hS : ∀ j, v.ownBlock = some j → ¬ S j) : w'.ownsRow b e z v n xs := by
  refine ⟨h.1, ?_⟩
  rcases h.2 with hn | ⟨g', cap, cur, rfl, hg', hb, rest⟩
  · exact .inl hn
  · exact .inr ⟨g', cap, cur, rfl, hg', k.heap hb (hS g' rfl), rest⟩
theorem NrX.besides {S : Nat → Prop} {w w' : World} {b1 : Nat} {xs : List Value} {l : List Nr} (h : NrX w b1 xs l) (k : Kept S w w') (hS : ∀ j o fz, b1 ≤ j → w.heap[j]? = some (.cells o 3 fz) → ¬ S j) : NrX w' b1 xs l := fun i hi => by
  obtain ⟨v1, v2, e1, e2, e3, r1, r2⟩ := h i hi
  have q : ∀ {v : Value} {m : Nat} {ys : List Value}, w.ownsRow b1 3 1 v m ys → w'.ownsRow b1 3 1 v m ys := fun {v m ys} r => own_besides r k (fun j hj => by
    rcases r.2 with ⟨rfl, _⟩ | ⟨g', cap, cur, rfl, hg', hb, _⟩
    · cases hj
    · cases Option.some.inj hj
      exact hS _ _ _ hg' hb)
  exact ⟨v1, v2, e1, e2, e3, q r1, q r2⟩
end Go.Proofs.YtiebmmpnmklpnaaDoor
