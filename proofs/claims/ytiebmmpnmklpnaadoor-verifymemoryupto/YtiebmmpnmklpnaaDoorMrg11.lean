import Derived.Test.YtiebmmpnmklpnaaDoorMrg9
namespace Go.Proofs.YtiebmmpnmklpnaaDoor
open Go.ChangeShapes Go.WideShapes Go.ChangeAt Go.RowKit

/-! A good program that has grown is good, by the same code. -/
theorem fdA_app (cu ys : List Lf) {i : Int} (h0 : 0 ≤ i) (h : i < cu.length) : fdA (cu ++ ys) i = fdA cu i := by
  unfold fdA
  rw [List.getElem?_append_left (by omega)]
theorem NrOk.app {cu : List Lf} {n : Nr} (h : NrOk cu n) (ys : List Lf) : NrOk (cu ++ ys) n := by
  obtain ⟨h1, h2, h3, h4, h5⟩ := h
  have hc : ∀ i ∈ n.cs, 0 ≤ i ∧ i < (cu.length : Int) := fun i hi => ⟨(h4 i hi).1, (h4 i hi).2.1⟩
  have h0 : n.cs[0]?.getD 0 ∈ n.cs := by
    rw [List.getElem?_eq_getElem (by omega), Option.getD_some]
    exact List.getElem_mem _
  refine ⟨h1, h2, h3, fun i hi => ⟨(hc i hi).1, by rw [List.length_append]; have := (hc i hi).2; omega, ?_⟩, h5⟩
  rw [fdA_app cu ys (hc i hi).1 (hc i hi).2, fdA_app cu ys (hc _ h0).1 (hc _ h0).2]
  exact (h4 i hi).2.2
theorem Gd.more {p q : Pg} {L : List In} (h : Gd p L) (h1 : p.av.length ≤ q.av.length) (h2 : p.cu.length ≤ q.cu.length) (h3 : p.nr.length ≤ q.nr.length) : Gd q L :=
  ⟨h.en, fun k hk => by
    obtain ⟨a, b, c, d, e, f⟩ := h.pa k hk
    exact ⟨fun x => Nat.lt_of_lt_of_le (a x) h1, fun x => Nat.lt_of_lt_of_le (b x) h2, fun x => Nat.lt_of_lt_of_le (c x) h3, d, e, f⟩, h.st, h.sk, h.one⟩
/-- What has come to a program's averages and cursors. -/
structure Grw (p : Pg) (av : List Int) (cu : List Lf) : Prop where
  xa : ∃ xs, av = p.av ++ xs ∧ ∀ x ∈ xs, 0 ≤ x
  a16 : av.length ≤ 16
  yc : ∃ ys, cu = p.cu ++ ys ∧ ∀ c ∈ ys, CuOk av.length c
theorem Grw.avOk {p : Pg} {av : List Int} {cu : List Lf} {L : List In} (h : Grw p av cu) (hv : Vok p L) : AvOk av := by
  obtain ⟨⟨xs, e, hx⟩, h16, -⟩ := h
  obtain ⟨⟨a1, a2, a3⟩, -⟩ := hv.tb
  refine ⟨by rw [e, List.length_append]; omega, h16, fun x hm => ?_⟩
  rw [e] at hm
  rcases List.mem_append.1 hm with q | q
  · exact a3 x q
  · exact hx x q
theorem Grw.le {p : Pg} {av : List Int} {cu : List Lf} (h : Grw p av cu) : p.av.length ≤ av.length ∧ p.cu.length ≤ cu.length := by
  obtain ⟨⟨xs, e, -⟩, -, ⟨ys, f, -⟩⟩ := h
  rw [e, f, List.length_append, List.length_append]
  omega
theorem Grw.cuOk {p : Pg} {av : List Int} {cu : List Lf} {L : List In} (h : Grw p av cu) (hv : Vok p L) : ∀ c ∈ cu, CuOk av.length c := by
  have hl := h.le
  obtain ⟨-, -, ⟨ys, f, hy⟩⟩ := h
  intro c hc
  rw [f] at hc
  rcases List.mem_append.1 hc with q | q
  · obtain ⟨b1, b2, b3⟩ := hv.tb.2.1 c q
    exact ⟨b1, by omega, b3⟩
  · exact hy c q
theorem Grw.nrOk {p : Pg} {av : List Int} {cu : List Lf} {L : List In} (h : Grw p av cu) (hv : Vok p L) : ∀ n ∈ p.nr, NrOk cu n := by
  obtain ⟨-, -, ⟨ys, f, -⟩⟩ := h
  intro n hn
  rw [f]
  exact (hv.tb.2.2.1 n hn).app ys
/-- With a phrase over the last cursor and a drive of one. -/
def moP (p : Pg) (av : List Int) (cu : List Lf) (d : Int) : Pg := ⟨av, cu, p.nr ++ [⟨[(cu.length : Int) - 1, (cu.length : Int) - 1], [0, 5], 3⟩], false, [d], p.co⟩
theorem Vok.moP {p : Pg} {av : List Int} {cu : List Lf} {L : List In} (hv : Vok p L) (h : Grw p av cu) {d : Int} (hn : 0 < cu.length) (h0 : 0 ≤ d) (h1 : d < cu.length) : Vok (moP p av cu d) L := by
  obtain ⟨l1, l2⟩ := h.le
  refine ⟨⟨h.avOk hv, h.cuOk hv, fun n hm => ?_, fun e => (by cases e), fun k hk => ?_⟩, hv.dc, hv.gd.more l1 l2 (by simp [Proofs.YtiebmmpnmklpnaaDoor.moP])⟩
  · rcases List.mem_append.1 hm with q | q
    · exact h.nrOk hv n q
    · rw [List.mem_singleton.1 q]
      refine ⟨by simp, by simp, ⟨by simp only; omega, by simp only; omega⟩, fun i hi => ?_, fun o ho => ?_⟩
      · have e : i = (cu.length : Int) - 1 := by simpa using hi
        subst e
        exact ⟨by omega, by simp only [Proofs.YtiebmmpnmklpnaaDoor.moP]; omega, rfl⟩
      · simp at ho
        rcases ho with rfl | rfl <;> exact ⟨by decide, by decide⟩
  · have hk0 : k = 0 := by simp [Proofs.YtiebmmpnmklpnaaDoor.moP] at hk; exact hk
    subst hk0
    exact ⟨by simp [laD, Proofs.YtiebmmpnmklpnaaDoor.moP]; omega, by simpa [Proofs.YtiebmmpnmklpnaaDoor.moP] using h1⟩
theorem Vok.mo0 {p : Pg} {av : List Int} {cu : List Lf} {L : List In} (hv : Vok p L) (h : Grw p av cu) (hn : cu.length = 0) : Vok ⟨av, cu, p.nr, p.al, p.dr, p.co⟩ L := by
  obtain ⟨l1, l2⟩ := h.le
  refine ⟨⟨h.avOk hv, h.cuOk hv, h.nrOk hv, hv.tb.2.2.2.1, fun k hk => ?_⟩, hv.dc, hv.gd.more l1 l2 (Nat.le_refl _)⟩
  have q := hv.tb.2.2.2.2 k hk
  exact ⟨q.1, by have := q.2; simp only; omega⟩
theorem Vok.moL {av : List Int} {cu : List Lf} {nr : List Nr} {al : Bool} {dr co : List Int} {L : List In} (hv : Vok ⟨av, cu, nr, al, dr, co⟩ L) : Vok ⟨av, cu, nr, true, [], co⟩ L :=
  ⟨⟨hv.tb.1, hv.tb.2.1, hv.tb.2.2.1, fun _ => rfl, fun k hk => by simp at hk⟩, hv.dc, hv.gd.more (Nat.le_refl _) (Nat.le_refl _) (Nat.le_refl _)⟩

/-- The copy that grows, as it lies. -/
structure Mo (w V2 : World) (base g : Nat) (p : Pg) (vA0 vC0 vN vD vO : Value) (av : List Int) (cu : List Lf) (vA vC : Value) (wr : World) : Prop where
  box : wr.heap[g]? = some (.cells #[vA, vC, vN, .bool p.al, vD, vO] 27 (0, 0))
  av : wr.ownsRow base 3 1 vA av.length (is av)
  cu : wr.ownsRow base 49 2 vC cu.length (lfv cu)
  ba : vA.ownBlock = vA0.ownBlock ∨ ∀ k, vA.ownBlock = some k → V2.heap.size ≤ k
  bc : vC.ownBlock = vC0.ownBlock ∨ ∀ k, vC.ownBlock = some k → V2.heap.size ≤ k
  kept : Kept (fun k => k = g ∨ vA0.ownBlock = some k ∨ vC0.ownBlock = some k) V2 wr
  old : Kept (fun _ => False) w wr
  bg : w.heap.size ≤ g
  bb : w.heap.size ≤ base
theorem Mo.later {w V2 : World} {base g : Nat} {p : Pg} {vA0 vC0 vN vD vO : Value} {av : List Int} {cu : List Lf} {vA vC : Value} {wr w' : World} (h : Mo w V2 base g p vA0 vC0 vN vD vO av cu vA vC wr) (k : Kept (fun _ => False) wr w') : Mo w V2 base g p vA0 vC0 vN vD vO av cu vA vC w' :=
  ⟨k.heap h.box (fun f => f), own_stay h.av k, own_stay h.cu k, h.ba, h.bc, h.kept.trans k (fun _ f => f.elim), h.old.trans k (fun _ f => f.elim), h.bg, h.bb⟩
theorem Mo.pushA {w V2 : World} {base g : Nat} {p : Pg} {vA0 vC0 vN vD vO : Value} {av : List Int} {cu : List Lf} {vA vC : Value} {wr w' : World} (h : Mo w V2 base g p vA0 vC0 vN vD vO av cu vA vC wr) {vA' : Value} {x : Int} (ho : w'.ownsRow base 3 1 vA' (av.length + 1) (is av ++ [.int .i64 x])) (k : Kept (fun i => vA.ownBlock = some i) wr w') (hb : vA'.ownBlock = vA.ownBlock ∨ vA'.ownBlock = some wr.heap.size) :
    Mo w V2 base g p vA0 vC0 vN vD vO (av ++ [x]) cu vA' vC (w'.setCell ⟨g, 0, none⟩ vA') ∧ w'.cell? ⟨g, 0, none⟩ = some vA ∧ w'.frozen? ⟨g, 0, none⟩ = false := by
  have hg : w'.heap[g]? = some (.cells #[vA, vC, vN, .bool p.al, vD, vO] 27 (0, 0)) := k.heap h.box (fun q => own_typed h.av (e' := 27) (by decide) g q _ _ h.box)
  have KS : Kept (fun j => j = g) w' (w'.setCell ⟨g, 0, none⟩ vA') := Kept.setCell w' ⟨g, 0, none⟩ vA'
  have e1 : is av ++ [.int .i64 x] = is (av ++ [x]) := by simp [is]
  refine ⟨⟨heap_setCell_same w' g 0 _ _ vA' hg, ?_, own_past (own_apart h.cu k (own_typed h.av (by decide))) KS hg (by decide), ?_, h.bc, (h.kept.trans k (fun i q => ?_)).trans KS (fun i q => .inl (.inl q)), (h.old.trans k (fun i q => .inr (Nat.le_trans h.bb (h.av.lt i q).1))).trans KS (fun i q => .inr (by rw [q]; exact h.bg)), h.bg, h.bb⟩, cell_of_row _ _ 0 _ _ _ hg, by simp [World.frozen?, hg]⟩
  · rw [← e1, List.length_append]; exact own_past ho KS hg (by decide)
  · rcases hb with q | q
    · rcases h.ba with r | r
      · exact .inl (q.trans r)
      · exact .inr (fun i hi => r i (by rw [← q]; exact hi))
    · refine .inr (fun i hi => ?_)
      rw [q] at hi
      cases Option.some.inj hi
      exact h.kept.size
  · rcases h.ba with r | r
    · exact .inl (.inr (.inl (by rw [← r]; exact q)))
    · exact .inr (r i q)
theorem Mo.pushC {w V2 : World} {base g : Nat} {p : Pg} {vA0 vC0 vN vD vO : Value} {av : List Int} {cu : List Lf} {vA vC : Value} {wr w' : World} (h : Mo w V2 base g p vA0 vC0 vN vD vO av cu vA vC wr) {vC' : Value} {c : Lf} (ho : w'.ownsRow base 49 2 vC' (cu.length + 1) (lfv cu ++ [.int .i64 c.f, .string c.t])) (k : Kept (fun i => vC.ownBlock = some i) wr w') (hb : vC'.ownBlock = vC.ownBlock ∨ vC'.ownBlock = some wr.heap.size) :
    Mo w V2 base g p vA0 vC0 vN vD vO av (cu ++ [c]) vA vC' (w'.setCell ⟨g, 1, none⟩ vC') ∧ w'.cell? ⟨g, 1, none⟩ = some vC ∧ w'.frozen? ⟨g, 1, none⟩ = false := by
  have hg : w'.heap[g]? = some (.cells #[vA, vC, vN, .bool p.al, vD, vO] 27 (0, 0)) := k.heap h.box (fun q => own_typed h.cu (e' := 27) (by decide) g q _ _ h.box)
  have KS : Kept (fun j => j = g) w' (w'.setCell ⟨g, 1, none⟩ vC') := Kept.setCell w' ⟨g, 1, none⟩ vC'
  have e1 : lfv cu ++ [.int .i64 c.f, .string c.t] = lfv (cu ++ [c]) := by simp [lfv]
  refine ⟨⟨heap_setCell_same w' g 1 _ _ vC' hg, own_past (own_apart h.av k (own_typed h.cu (by decide))) KS hg (by decide), ?_, h.ba, ?_, (h.kept.trans k (fun i q => ?_)).trans KS (fun i q => .inl (.inl q)), (h.old.trans k (fun i q => .inr (Nat.le_trans h.bb (h.cu.lt i q).1))).trans KS (fun i q => .inr (by rw [q]; exact h.bg)), h.bg, h.bb⟩, cell_of_row _ _ 1 _ _ _ hg, by simp [World.frozen?, hg]⟩
  · rw [← e1, List.length_append]; exact own_past ho KS hg (by decide)
  · rcases hb with q | q
    · rcases h.bc with r | r
      · exact .inl (q.trans r)
      · exact .inr (fun i hi => r i (by rw [← q]; exact hi))
    · refine .inr (fun i hi => ?_)
      rw [q] at hi
      cases Option.some.inj hi
      exact h.kept.size
  · rcases h.bc with r | r
    · exact .inl (.inr (.inr (by rw [← r]; exact q)))
    · exact .inr (r i q)
/-- A row whose block is not among those that change. -/
theorem own_besides {S : Nat → Prop} {w w' : World} {b e z n : Nat} {v : Value} {xs : List Value} (h : w.ownsRow b e z v n xs) (k : Kept S w w') (hS : ∀ j, v.ownBlock = some j → ¬ S j) : w'.ownsRow b e z v n xs := by
  refine ⟨h.1, ?_⟩
  rcases h.2 with hn | ⟨g', cap, cur, rfl, hg', hb, rest⟩
  · exact .inl hn
  · exact .inr ⟨g', cap, cur, rfl, hg', k.heap hb (hS g' rfl), rest⟩
theorem NrX.besides {S : Nat → Prop} {w w' : World} {b1 : Nat} {xs : List Value} {l : List Nr} (h : NrX w b1 xs l) (k : Kept S w w') (hS : ∀ j o fz, b1 ≤ j → w.heap[j]? = some (.cells o 3 fz) → ¬ S j) : NrX w' b1 xs l := fun i hi => by
  obtain ⟨v1, v2, e1, e2, e3, r1, r2⟩ := h i hi
  have q : ∀ {v : Value} {m : Nat} {ys : List Value}, w.ownsRow b1 3 1 v m ys → w'.ownsRow b1 3 1 v m ys := fun {v m ys} r => own_besides r k (fun j hj => by
    rcases r.2 with ⟨rfl, _⟩ | ⟨g', cap, cur, rfl, hg', hb, _⟩
    · cases hj
    · cases Option.some.inj hj
      exact hS _ _ _ hg' hb)
  exact ⟨v1, v2, e1, e2, e3, q r1, q r2⟩
end Go.Proofs.YtiebmmpnmklpnaaDoor
namespace Go.Proofs.YtiebmmpnmklpnaaDoor
open Go.ChangeShapes Go.WideShapes Go.ChangeAt Go.RowKit

theorem Tryd.infoMI : (Tryd.prog.info? 3).map (fun i => (i.zero, i.size, i.bytes)) = some (some (.int .i64 0), 1, 8) := by kernel_rfl
theorem Tryd.infoML : (Tryd.prog.info? 49).map (fun i => (i.zero, i.size, i.bytes)) = some (some (.agg #[.int .i64 0, .string ByteArray.empty]), 2, 24) := by kernel_rfl
theorem Tryd.infoMN : (Tryd.prog.info? 51).map (fun i => (i.zero, i.size, i.bytes)) = some (some (.agg #[.slice none 0 0, .slice none 0 0, .int .i64 0]), 3, 56) := by kernel_rfl
/-- append of one to the averages of the copy, one to its cursors, one to its phrases. -/
theorem wpList_moA {w V2 : World} {base g : Nat} {p : Pg} {vA0 vC0 vN vD vO vC : Value} {av : List Int} {cu : List Lf} {W : World} {ops : Array Oper} {rest : List Oper} {o : Oper} {act : Act} {Q : Exit → Act → World → Prop} (hgd : o.guard = none) (s x : Operand)
    (ho : o.op = .call { callee := .builtin .append, args := #[s, x], argTypes := #[22, 22] }) (a : Option Addr) (c n : Nat) (hn : Hid (n = av.length)) (hs : act.eval s = .slice a n c) (hM : Hid (Mo w V2 base g p vA0 vC0 vN vD vO av cu (.slice a n c) vC W)) (b : Nat) (hbb : b = W.heap.size) (hB : Hid (base ≤ W.heap.size)) (hx : act.eval x = .slice (some ⟨b, 0, none⟩) 1 1) (y : Int) (hsm : n ≤ 67108864)
    (h : ∀ a' c' W', Hid (Mo w V2 base g p vA0 vC0 vN vD vO (av ++ [y]) cu (.slice a' (n + 1) c') vC (W'.setCell ⟨g, 0, none⟩ (.slice a' (n + 1) c'))) → W'.cell? ⟨g, 0, none⟩ = some (.slice a n c) → W'.frozen? ⟨g, 0, none⟩ = false → wpList Tryd.prog ops Q rest (act.put o.dst (.slice a' (n + 1) c')) W') : wpList Tryd.prog ops Q (o :: rest) act (W.alloc (.cells #[.int .i64 y] 3)) := by
  subst hbb
  obtain ⟨i0, hi, hz0, hz1, hz2⟩ := info_parts Tryd.infoMI
  have hM1 := hM.out.later (Kept.alloc W (.cells #[.int .i64 y] 3))
  have ha := hM1.av
  rw [← hn.out] at ha
  refine wpList_append_own_at _ hgd s x 22 ho base 3 i0 _ 1 8 Tryd.underlying22 hi hz0 hz1 hz2 rfl (by decide) (.slice a n c) n (is av) hs ha ⟨W.heap.size, 0, none⟩ 1 1 [.int .i64 y] hx rfl (row_news W [.int .i64 y] 3) (by intro u hu; simp at hu; subst hu; rfl) (by unfold maxLen; omega) (by omega) (by have := hB.out; simp; omega) ?_
  intro v' W' ho2 hg2 _ hb2
  obtain ⟨a', c', rfl⟩ := own_form ho2
  have ho3 := ho2
  rw [hn.out] at ho3
  obtain ⟨hm, q1, q2⟩ := hM1.pushA (by rw [hn.out] at ho2 ⊢; exact ho2) (Kept.grown hg2) hb2
  exact h a' c' W' (hideI hm) q1 q2
theorem wpList_moC {w V2 : World} {base g : Nat} {p : Pg} {vA0 vC0 vN vD vO vA : Value} {av : List Int} {cu : List Lf} {W : World} {ops : Array Oper} {rest : List Oper} {o : Oper} {act : Act} {Q : Exit → Act → World → Prop} (hgd : o.guard = none) (s x : Operand)
    (ho : o.op = .call { callee := .builtin .append, args := #[s, x], argTypes := #[23, 23] }) (a : Option Addr) (c n : Nat) (hn : Hid (n = cu.length)) (hs : act.eval s = .slice a n c) (hM : Hid (Mo w V2 base g p vA0 vC0 vN vD vO av cu vA (.slice a n c) W)) (b : Nat) (hbb : b = W.heap.size) (hB : Hid (base ≤ W.heap.size)) (hx : act.eval x = .slice (some ⟨b, 0, none⟩) 1 1) (f : Int) (t : ByteArray) (hsm : n ≤ 134217728)
    (h : ∀ a' c' W', Hid (Mo w V2 base g p vA0 vC0 vN vD vO av (cu ++ [⟨f, t⟩]) vA (.slice a' (n + 1) c') (W'.setCell ⟨g, 1, none⟩ (.slice a' (n + 1) c'))) → W'.cell? ⟨g, 1, none⟩ = some (.slice a n c) → W'.frozen? ⟨g, 1, none⟩ = false → wpList Tryd.prog ops Q rest (act.put o.dst (.slice a' (n + 1) c')) W') : wpList Tryd.prog ops Q (o :: rest) act (W.alloc (.cells #[.int .i64 f, .string t] 49)) := by
  subst hbb
  obtain ⟨i0, hi, hz0, hz1, hz2⟩ := info_parts Tryd.infoML
  have hM1 := hM.out.later (Kept.alloc W (.cells #[.int .i64 f, .string t] 49))
  have ha := hM1.cu
  rw [← hn.out] at ha
  refine wpList_append_own_at _ hgd s x 23 ho base 49 i0 _ 2 24 Tryd.underlying23 hi hz0 hz1 hz2 rfl (by decide) (.slice a n c) n (lfv cu) hs ha ⟨W.heap.size, 0, none⟩ 1 1 [.int .i64 f, .string t] hx rfl (row_news W [.int .i64 f, .string t] 49) (by intro u hu; simp at hu; rcases hu with rfl | rfl <;> rfl) (by unfold maxLen; omega) (by omega) (by have := hB.out; simp; omega) ?_
  intro v' W' ho2 hg2 _ hb2
  obtain ⟨a', c', rfl⟩ := own_form ho2
  obtain ⟨hm, q1, q2⟩ := hM1.pushC (c := ⟨f, t⟩) (by rw [hn.out] at ho2 ⊢; exact ho2) (Kept.grown hg2) hb2
  exact h a' c' W' (hideI hm) q1 q2
/-- Texts as they lie. -/
def TxAt (w : World) (a : Option Addr) (l : List ByteArray) : Prop := l ≠ [] → ∃ b off, a = some ⟨b, off, none⟩ ∧ ∀ (k : Nat) (h : k < l.length), w.cell? ⟨b, off + k, none⟩ = some (.string l[k])
theorem TxAt.kept {w w' : World} {a : Option Addr} {l : List ByteArray} (h : TxAt w a l) (k : Kept (fun _ => False) w w') : TxAt w' a l := fun hn => by
  obtain ⟨b, off, e, hc⟩ := h hn
  exact ⟨b, off, e, fun i hi => k.cell (hc i hi) (fun f => f)⟩
def szT (l : List ByteArray) : Nat := (l.map fun t => t.size + 1).sum
end Go.Proofs.YtiebmmpnmklpnaaDoor
namespace Go.Proofs.YtiebmmpnmklpnaaDoor
open Go.ChangeShapes Go.WideShapes Go.ChangeAt Go.RowKit

theorem own_has {w : World} {b e z n : Nat} {v : Value} {xs : List Value} (h : w.ownsRow b e z v n xs) : ∀ k, v.ownBlock = some k → ∃ o, w.heap[k]? = some (.cells o e (0, 0)) := by
  intro k hk
  rcases h.2 with ⟨rfl, _⟩ | ⟨g, cap, cur, rfl, _, hg, _⟩
  · cases hk
  · cases Option.some.inj hk
    exact ⟨cur, hg⟩
theorem NrX.low {w : World} {b1 : Nat} {xs : List Value} {l : List Nr} (h : NrX w b1 xs l) : NrX w 0 xs l := fun i hi => by
  obtain ⟨v1, v2, e1, e2, e3, r1, r2⟩ := h i hi
  exact ⟨v1, v2, e1, e2, e3, own_low r1 (Nat.zero_le _), own_low r2 (Nat.zero_le _)⟩
/-- A program in a box, all of its lists in memory of their own kinds. -/
structure Rwp (w : World) (base g : Nat) (q : Pg) (xs : List Value) (vA vC vN vD vO : Value) (wr : World) : Prop where
  box : wr.heap[g]? = some (.cells #[vA, vC, vN, .bool q.al, vD, vO] 27 (0, 0))
  av : wr.ownsRow base 3 1 vA q.av.length (is q.av)
  cu : wr.ownsRow base 49 2 vC q.cu.length (lfv q.cu)
  nr : wr.ownsRow base 51 3 vN q.nr.length xs
  nx : NrX wr 0 xs q.nr
  dr : wr.ownsRow 0 3 1 vD q.dr.length (is q.dr)
  co : wr.ownsRow base 5 1 vO q.co.length (by4 q.co)
  old : Kept (fun _ => False) w wr
  bg : w.heap.size ≤ g
  bb : w.heap.size ≤ base
theorem Rwp.later {w : World} {base g : Nat} {q : Pg} {xs : List Value} {vA vC vN vD vO : Value} {wr w' : World} (h : Rwp w base g q xs vA vC vN vD vO wr) (k : Kept (fun _ => False) wr w') : Rwp w base g q xs vA vC vN vD vO w' :=
  ⟨k.heap h.box (fun f => f), own_stay h.av k, own_stay h.cu k, own_stay h.nr k, h.nx.apart k (fun _ f => f.elim), own_stay h.dr k, own_stay h.co k, h.old.trans k (fun _ f => f.elim), h.bg, h.bb⟩
theorem Rwp.at {w : World} {base g : Nat} {q : Pg} {xs : List Value} {vA vC vN vD vO : Value} {wr : World} (h : Rwp w base g q xs vA vC vN vD vO wr) : ∃ aA aC aN aD aO cA cC cN cD cO, vA = .slice aA q.av.length cA ∧ vC = .slice aC q.cu.length cC ∧ vN = .slice aN q.nr.length cN ∧ vD = .slice aD q.dr.length cD ∧ vO = .slice aO q.co.length cO ∧ PgAt wr q aA aC aN aD aO := by
  obtain ⟨aA, cA, eA, hA⟩ := own_ints h.av rfl
  obtain ⟨aC, cC, eC, hC⟩ := own_lfs h.cu rfl
  obtain ⟨aD, cD, eD, hD⟩ := own_ints h.dr rfl
  obtain ⟨aO, cO, eO, hO⟩ := own_bts h.co rfl
  obtain ⟨aN, cN, eN, hN⟩ := nx_at h.nr rfl h.nx
  exact ⟨aA, aC, aN, aD, aO, cA, cC, cN, cD, cO, eA, eC, eN, eD, eO, hA, hC, hN, hD, hO⟩
theorem not_int_at {wr : World} {g : Nat} {c : Array Value} (hg : wr.heap[g]? = some (.cells c 27 (0, 0))) : ∀ j, j = g → ∀ o fz, wr.heap[j]? ≠ some (.cells o 3 fz) := by
  intro j hj o fz hc
  rw [hj, hg] at hc
  injection hc with hc
  injection hc with _ hc _
  exact absurd hc (by decide)
theorem Rwp.all {w : World} {base g : Nat} {q : Pg} {xs : List Value} {vA vC vN vD vO : Value} {wr : World} (h : Rwp w base g q xs vA vC vN vD vO wr) (b : Bool) : Rwp w base g ⟨q.av, q.cu, q.nr, b, q.dr, q.co⟩ xs vA vC vN vD vO (wr.setCell ⟨g, 3, none⟩ (.bool b)) ∧ wr.cell? ⟨g, 3, none⟩ = some (.bool q.al) ∧ wr.frozen? ⟨g, 3, none⟩ = false := by
  have KS : Kept (fun j => j = g) wr (wr.setCell ⟨g, 3, none⟩ (.bool b)) := Kept.setCell wr ⟨g, 3, none⟩ (.bool b)
  exact ⟨⟨heap_setCell_same wr g 3 _ _ (.bool b) h.box, own_past h.av KS h.box (by decide), own_past h.cu KS h.box (by decide), own_past h.nr KS h.box (by decide), h.nx.apart KS (not_int_at h.box), own_past h.dr KS h.box (by decide), own_past h.co KS h.box (by decide), h.old.trans KS (fun i e => .inr (by rw [e]; exact h.bg)), h.bg, h.bb⟩, cell_of_row _ _ 3 _ _ _ h.box, by simp [World.frozen?, h.box]⟩
theorem Rwp.drive {w : World} {base g : Nat} {q : Pg} {xs : List Value} {vA vC vN vD vO : Value} {wr : World} (h : Rwp w base g q xs vA vC vN vD vO wr) (vD' : Value) (dr : List Int) (hd : wr.ownsRow 0 3 1 vD' dr.length (is dr)) : Rwp w base g ⟨q.av, q.cu, q.nr, q.al, dr, q.co⟩ xs vA vC vN vD' vO (wr.setCell ⟨g, 4, none⟩ vD') ∧ wr.cell? ⟨g, 4, none⟩ = some vD ∧ wr.frozen? ⟨g, 4, none⟩ = false := by
  have KS : Kept (fun j => j = g) wr (wr.setCell ⟨g, 4, none⟩ vD') := Kept.setCell wr ⟨g, 4, none⟩ vD'
  exact ⟨⟨heap_setCell_same wr g 4 _ _ vD' h.box, own_past h.av KS h.box (by decide), own_past h.cu KS h.box (by decide), own_past h.nr KS h.box (by decide), h.nx.apart KS (not_int_at h.box), own_past hd KS h.box (by decide), own_past h.co KS h.box (by decide), h.old.trans KS (fun i e => .inr (by rw [e]; exact h.bg)), h.bg, h.bb⟩, cell_of_row _ _ 4 _ _ _ h.box, by simp [World.frozen?, h.box]⟩
theorem Rwp.pushN {w : World} {base g : Nat} {q : Pg} {xs : List Value} {vA vC vN vD vO : Value} {wr w' : World} (h : Rwp w base g q xs vA vC vN vD vO wr) {vN' v1 v2 : Value} (m : Nr) (r1 : wr.ownsRow 0 3 1 v1 m.cs.length (is m.cs)) (r2 : wr.ownsRow 0 3 1 v2 m.os.length (is m.os)) (ho : w'.ownsRow base 51 3 vN' (q.nr.length + 1) (xs ++ [v1, v2, .int .i64 m.sl])) (k : Kept (fun i => vN.ownBlock = some i) wr w') :
    Rwp w base g ⟨q.av, q.cu, q.nr ++ [m], q.al, q.dr, q.co⟩ (xs ++ [v1, v2, .int .i64 m.sl]) vA vC vN' vD vO (w'.setCell ⟨g, 2, none⟩ vN') ∧ w'.cell? ⟨g, 2, none⟩ = some vN ∧ w'.frozen? ⟨g, 2, none⟩ = false := by
  have hg : w'.heap[g]? = some (.cells #[vA, vC, vN, .bool q.al, vD, vO] 27 (0, 0)) := k.heap h.box (fun e => own_typed h.nr (e' := 27) (by decide) g e _ _ h.box)
  have KS : Kept (fun j => j = g) w' (w'.setCell ⟨g, 2, none⟩ vN') := Kept.setCell w' ⟨g, 2, none⟩ vN'
  have tI := own_typed h.nr (e' := 3) (by decide)
  refine ⟨⟨heap_setCell_same w' g 2 _ _ vN' hg, own_past (own_apart h.av k tI) KS hg (by decide), own_past (own_apart h.cu k (own_typed h.nr (by decide))) KS hg (by decide), ?_, ?_, own_past (own_apart h.dr k tI) KS hg (by decide), own_past (own_apart h.co k (own_typed h.nr (by decide))) KS hg (by decide), (h.old.trans k (fun i e => .inr (Nat.le_trans h.bb (h.nr.lt i e).1))).trans KS (fun i e => .inr (by rw [e]; exact h.bg)), h.bg, h.bb⟩, cell_of_row _ _ 2 _ _ _ hg, by simp [World.frozen?, hg]⟩
  · rw [show (q.nr ++ [m]).length = q.nr.length + 1 by simp]
    exact own_past ho KS hg (by decide)
  · exact NrX.snoc ((h.nx.apart k tI).apart KS (not_int_at hg)) (by have := h.nr.1; omega) (own_past (own_apart r1 k tI) KS hg (by decide)) (own_past (own_apart r2 k tI) KS hg (by decide))
/-- Behind 'copied': the copy in its box. -/
theorem Mo.start {w V3 W2 : World} {p : Pg} {vA vC vN vD vO : Value} (c : CpP V3 p W2 vA vC vN vD vO) (k : Kept (fun _ => False) w V3) : Mo w (W2.alloc (.cells #[vA, vC, vN, .bool p.al, vD, vO] 27)) V3.heap.size W2.heap.size p vA vC vN vD vO p.av p.cu vA vC (W2.alloc (.cells #[vA, vC, vN, .bool p.al, vD, vO] 27)) :=
  ⟨heap_alloc_new W2 _, own_stay c.av (Kept.alloc _ _), own_stay c.cu (Kept.alloc _ _), .inl rfl, .inl rfl, Kept.refl _ _, (k.trans c.kept (fun _ f => f.elim)).trans (Kept.alloc _ _) (fun _ f => f.elim), Nat.le_trans k.size c.kept.size, k.size⟩
theorem Mo.rest {w V3 W2 wr : World} {p : Pg} {vA0 vC0 vN vD vO vA vC : Value} {av : List Int} {cu : List Lf} (c : CpP V3 p W2 vA0 vC0 vN vD vO) (h : Mo w (W2.alloc (.cells #[vA0, vC0, vN, .bool p.al, vD, vO] 27)) V3.heap.size W2.heap.size p vA0 vC0 vN vD vO av cu vA vC wr) :
    ∃ xs, Rwp w V3.heap.size W2.heap.size ⟨av, cu, p.nr, p.al, p.dr, p.co⟩ xs vA vC vN vD vO wr := by
  have KA := Kept.alloc W2 (.cells #[vA0, vC0, vN, .bool p.al, vD, vO] 27)
  obtain ⟨V2, hV⟩ : ∃ V2, V2 = W2.alloc (.cells #[vA0, vC0, vN, .bool p.al, vD, vO] 27) := ⟨_, rfl⟩
  have hbox : V2.heap[W2.heap.size]? = some (.cells #[vA0, vC0, vN, .bool p.al, vD, vO] 27 (0, 0)) := by rw [hV]; exact heap_alloc_new W2 _
  rw [← hV] at h KA
  obtain ⟨xs, b1, hn, hx, l1, l2⟩ := c.nr
  have rA := own_stay c.av KA
  have rC := own_stay c.cu KA
  have rN := own_stay hn KA
  have rD := own_stay c.dr KA
  have rO := own_stay c.co KA
  have rX := hx.apart KA (fun _ f => f.elim)
  have hS : ∀ {e : TypeId} {o : Array Value} {fz : Nat × Nat} (j : Nat), V2.heap[j]? = some (.cells o e fz) → e ≠ 27 → e ≠ 49 → (e = 3 → vA0.ownBlock ≠ some j) → ¬ (j = W2.heap.size ∨ vA0.ownBlock = some j ∨ vC0.ownBlock = some j) := by
    intro e o fz j hj h1 h2 h3 hs
    rcases hs with q | q | q
    · rw [q, hbox] at hj
      injection hj with hj
      injection hj with _ hj _
      exact h1 hj.symm
    · obtain ⟨o', ho'⟩ := own_has rA j q
      rw [ho'] at hj
      injection hj with hj
      injection hj with _ hj _
      exact h3 hj.symm q
    · obtain ⟨o', ho'⟩ := own_has rC j q
      rw [ho'] at hj
      injection hj with hj
      injection hj with _ hj _
      exact h2 hj.symm
  refine ⟨xs, h.box, h.av, h.cu, own_besides rN h.kept (fun j hj => ?_), (rX.besides h.kept (fun j o fz hj hc => hS j hc (by decide) (by decide) (fun _ q => ?_))).low, own_low (own_besides rD h.kept (fun j hj => ?_)) (Nat.zero_le _), own_besides rO h.kept (fun j hj => ?_), h.old, h.bg, h.bb⟩
  · obtain ⟨o, ho⟩ := own_has rN j hj
    exact hS j ho (by decide) (by decide) (fun e => absurd e (by decide))
  · have := l1 j q
    omega
  · obtain ⟨o, ho⟩ := own_has rD j hj
    exact hS j ho (by decide) (by decide) (fun _ q => c.ap j q hj)
  · obtain ⟨o, ho⟩ := own_has rO j hj
    exact hS j ho (by decide) (by decide) (fun e => absurd e (by decide))
end Go.Proofs.YtiebmmpnmklpnaaDoor
namespace Go.Proofs.YtiebmmpnmklpnaaDoor
open Go.ChangeShapes Go.WideShapes Go.ChangeAt Go.RowKit

theorem mod_y (x m : Int) (hm : 0 < m) (hm2 : m ≤ 9223372036854775807) : 0 ≤ wrap64 ((IntKind.u64.wrap x).tmod m) ∧ wrap64 ((IntKind.u64.wrap x).tmod m) < m := by
  have h0 : 0 ≤ IntKind.u64.wrap x := by rw [IntKind.wrap_u64]; omega
  rw [Int.tmod_eq_emod_of_nonneg h0]
  have h1 := Int.emod_nonneg (IntKind.u64.wrap x) (show m ≠ 0 by omega)
  have h2 := Int.emod_lt_of_pos (IntKind.u64.wrap x) hm
  have e : wrap64 (IntKind.u64.wrap x % m) = IntKind.u64.wrap x % m := by unfold wrap64; omega
  rw [e]
  exact ⟨h1, h2⟩
def szC (l : List Lf) : Nat := (l.map fun c => c.t.size + 1).sum
theorem szC_snoc (l : List Lf) (c : Lf) : szC (l ++ [c]) = szC l + (c.t.size + 1) := by simp [szC]
theorem szT_take {T : List ByteArray} {j : Nat} (h : j < T.length) : szT (T.take (j + 1)) = szT (T.take j) + (T[j].size + 1) := by
  unfold szT
  rw [List.take_succ_eq_append_getElem h, List.map_append, List.sum_append]
  rfl
theorem szT_le : ∀ (T : List ByteArray) (j : Nat), szT (T.take j) ≤ szT T
  | [], j => by simp
  | t :: T, 0 => by simp [szT]
  | t :: T, j + 1 => by have := szT_le T j; simp only [szT, List.take_succ_cons, List.map_cons, List.sum_cons] at this ⊢; omega
theorem Grw.snA {p : Pg} {av : List Int} (h : Grw p av p.cu) {y : Int} (hy : 0 ≤ y) (h16 : av.length < 16) : Grw p (av ++ [y]) p.cu := by
  obtain ⟨xs, e, hx⟩ := h.xa
  refine ⟨⟨xs ++ [y], by rw [e, List.append_assoc], fun x hm => ?_⟩, by simp; omega, ⟨[], by simp, fun x hx => (by cases hx)⟩⟩
  rcases List.mem_append.1 hm with q | q
  · exact hx x q
  · rw [List.mem_singleton.1 q]; exact hy
theorem Grw.snC {p : Pg} {av : List Int} {cu : List Lf} (h : Grw p av cu) {c : Lf} (hc : CuOk av.length c) : Grw p av (cu ++ [c]) := by
  obtain ⟨ys, e, hy⟩ := h.yc
  refine ⟨h.xa, h.a16, ⟨ys ++ [c], by rw [e, List.append_assoc], fun x hm => ?_⟩⟩
  rcases List.mem_append.1 hm with q | q
  · exact hy x q
  · rw [List.mem_singleton.1 q]; exact hc
theorem isI_snoc {l : List Int} {y : Int} (h : IsInts l) (h0 : 0 ≤ y) (h1 : y < 9223372036854775807) : IsInts (l ++ [y]) := by
  intro x hx
  rcases List.mem_append.1 hx with q | q
  · exact h x q
  · rw [List.mem_singleton.1 q]; omega
theorem Grw.ok {p : Pg} {av : List Int} {cu : List Lf} {L : List In} {T : Nat} (h : Grw p av cu) (hv : Vok p L) (hO : p.Ok) (hi : IsInts av) (hs : szC cu ≤ szC p.cu + T) (hp : psz p + T ≤ 67000000) (nr : List Nr) (al : Bool) (dr : List Int) (hnr : ∀ n ∈ nr, IsInts n.cs ∧ IsInts n.os ∧ -9223372036854775808 ≤ n.sl ∧ n.sl ≤ 9223372036854775807) (hns : (nr.map fun n => n.cs.length + n.os.length + 1).sum ≤ (p.nr.map fun n => n.cs.length + n.os.length + 1).sum + 5) (hdi : IsInts dr) (hdl : dr.length ≤ p.dr.length + 1) : Pg.Ok ⟨av, cu, nr, al, dr, p.co⟩ := by
  refine ⟨hi, hdi, fun c hc => ?_, hnr, hO.co, ?_⟩
  · have := h.cuOk hv c hc
    have h16 := h.a16
    exact ⟨by have := this.1; omega, by have := this.2.1; omega⟩
  · have h16 := h.a16
    unfold psz at hp ⊢
    unfold szC at hs
    simp only
    omega
theorem Rwp.pg {w : World} {base g : Nat} {q : Pg} {xs : List Value} {aA aC aN aD aO : Option Addr} {n1 n2 n3 n4 n5 c1 c2 c3 c4 c5 : Nat} {wr : World} (h : Rwp w base g q xs (.slice aA n1 c1) (.slice aC n2 c2) (.slice aN n3 c3) (.slice aD n4 c4) (.slice aO n5 c5) wr) : PgAt wr q aA aC aN aD aO ∧ n1 = q.av.length ∧ n2 = q.cu.length ∧ n3 = q.nr.length ∧ n4 = q.dr.length ∧ n5 = q.co.length := by
  obtain ⟨_, _, _, _, _, _, _, _, _, _, e1, e2, e3, e4, e5, hp⟩ := h.at
  injection e1 with f1 g1 _
  injection e2 with f2 g2 _
  injection e3 with f3 g3 _
  injection e4 with f4 g4 _
  injection e5 with f5 g5 _
  subst f1 f2 f3 f4 f5
  exact ⟨hp, g1, g2, g3, g4, g5⟩
theorem check_rw {w : World} {base g : Nat} {q : Pg} {xs : List Value} {aA aC aN aD aO : Option Addr} {n1 n2 n3 n4 n5 c1 c2 c3 c4 c5 : Nat} {wr : World} (h : Rwp w base g q xs (.slice aA n1 c1) (.slice aC n2 c2) (.slice aN n3 c3) (.slice aD n4 c4) (.slice aO n5 c5) wr) (al : Bool) (hal : al = q.al) (hO : q.Ok) (a0 a1 ac : Addr) (hE : VE wr a0 a1 ac) :
    Calls Tryd.prog 8 #[.agg #[.slice aA n1 c1, .slice aC n2 c2, .slice aN n3 c3, .bool al, .slice aD n4 c4, .slice aO n5 c5]] wr (ckP wr q ac) := by
  obtain ⟨hp, rfl, rfl, rfl, rfl, rfl⟩ := h.pg
  rw [hal]
  exact check_any q aA aC aN aD aO c1 c2 c3 c4 c5 a0 a1 ac wr hp hO hE
theorem row_two (W : World) (x y : Int) : (W.alloc (.cells #[.int .i64 x, .int .i64 y] 3)).ownsRow 0 3 1 (.slice (some ⟨W.heap.size, 0, none⟩) 2 2) 2 (is [x, y]) :=
  ⟨rfl, .inr ⟨W.heap.size, 2, #[.int .i64 x, .int .i64 y], rfl, Nat.zero_le _, heap_alloc_new W _, Nat.le_refl _, by decide, rfl, rfl⟩⟩
theorem row_one (W : World) (x : Int) : (W.alloc (.cells #[.int .i64 x] 3)).ownsRow 0 3 1 (.slice (some ⟨W.heap.size, 0, none⟩) 1 1) 1 (is [x]) :=
  ⟨rfl, .inr ⟨W.heap.size, 1, #[.int .i64 x], rfl, Nat.zero_le _, heap_alloc_new W _, Nat.le_refl _, by decide, rfl, rfl⟩⟩
theorem row_nil (W : World) : W.ownsRow 0 3 1 (.slice none 0 0) 0 (is []) := ⟨rfl, .inl ⟨rfl, rfl⟩⟩
theorem Rwp.drive1 {w : World} {base g : Nat} {q : Pg} {xs : List Value} {vA vC vN vD vO : Value} {Y : World} (h : Rwp w base g q xs vA vC vN vD vO Y) (b : Nat) (hb : Y.heap.size = b) (x : Int) : Rwp w base g ⟨q.av, q.cu, q.nr, q.al, [x], q.co⟩ xs vA vC vN (.slice (some ⟨b, 0, none⟩) 1 1) vO ((Y.setCell ⟨g, 4, none⟩ (.slice (some ⟨b, 0, none⟩) 1 1)).alloc (.cells #[.int .i64 x] 3)) := by
  have KS : Kept (fun j => j = g) Y (Y.setCell ⟨g, 4, none⟩ (.slice (some ⟨b, 0, none⟩) 1 1)) := Kept.setCell Y ⟨g, 4, none⟩ (.slice (some ⟨b, 0, none⟩) 1 1)
  have KA := Kept.alloc (Y.setCell ⟨g, 4, none⟩ (.slice (some ⟨b, 0, none⟩) 1 1)) (.cells #[.int .i64 x] 3)
  have r := row_one (Y.setCell ⟨g, 4, none⟩ (.slice (some ⟨b, 0, none⟩) 1 1)) x
  rw [show (Y.setCell ⟨g, 4, none⟩ (.slice (some ⟨b, 0, none⟩) 1 1)).heap.size = b by simp [hb]] at r
  exact ⟨KA.heap (heap_setCell_same Y g 4 _ _ _ h.box) (fun f => f), own_stay (own_past h.av KS h.box (by decide)) KA, own_stay (own_past h.cu KS h.box (by decide)) KA, own_stay (own_past h.nr KS h.box (by decide)) KA, (h.nx.apart KS (not_int_at h.box)).apart KA (fun _ f => f.elim), r, own_stay (own_past h.co KS h.box (by decide)) KA, (h.old.trans KS (fun i e => .inr (by rw [e]; exact h.bg))).trans KA (fun _ f => f.elim), h.bg, h.bb⟩
theorem nr_more {p : Pg} (hO : p.Ok) {k : Int} (h0 : -1 ≤ k) (h : k ≤ 134217728) : ∀ n ∈ p.nr ++ [(⟨[k, k], [0, 5], 3⟩ : Nr)], IsInts n.cs ∧ IsInts n.os ∧ -9223372036854775808 ≤ n.sl ∧ n.sl ≤ 9223372036854775807 := by
  intro n hn
  rcases List.mem_append.1 hn with q | q
  · exact hO.nr n q
  · rw [List.mem_singleton.1 q]
    refine ⟨fun x hx => ?_, fun x hx => ?_, by simp only; omega, by simp only; omega⟩
    · have e : x = k := by simpa using hx
      omega
    · simp at hx
      rcases hx with rfl | rfl <;> omega
theorem nr_sum (p : Pg) (k : Int) : ((p.nr ++ [(⟨[k, k], [0, 5], 3⟩ : Nr)]).map fun n => n.cs.length + n.os.length + 1).sum ≤ (p.nr.map fun n => n.cs.length + n.os.length + 1).sum + 5 := by
  rw [List.map_append, List.sum_append]
  simp
theorem isI_one {d : Int} (h0 : 0 ≤ d) (h1 : d < 9223372036854775807) : IsInts [d] := by
  intro x hx
  have e : x = d := by simpa using hx
  omega
theorem wpList_moN {w : World} {base g : Nat} {q : Pg} {xs : List Value} {vA vC vD vO : Value} {W : World} {ops : Array Oper} {rest : List Oper} {o : Oper} {act : Act} {Q : Exit → Act → World → Prop} (hgd : o.guard = none) (s x : Operand)
    (ho : o.op = .call { callee := .builtin .append, args := #[s, x], argTypes := #[24, 24] }) (a : Option Addr) (c m : Nat) (hm : Hid (m = q.nr.length)) (hs : act.eval s = .slice a m c) (hM : Hid (Rwp w base g q xs vA vC (.slice a m c) vD vO W)) (b : Nat) (hbb : b = W.heap.size) (hB : Hid (base ≤ W.heap.size)) (hx : act.eval x = .slice (some ⟨b, 0, none⟩) 1 1) (v1 v2 : Value) (nr : Nr) (r1 : Hid (W.ownsRow 0 3 1 v1 nr.cs.length (is nr.cs))) (r2 : Hid (W.ownsRow 0 3 1 v2 nr.os.length (is nr.os))) (hsm : m ≤ 67108864)
    (h : ∀ a' c' W', Hid (Rwp w base g ⟨q.av, q.cu, q.nr ++ [nr], q.al, q.dr, q.co⟩ (xs ++ [v1, v2, .int .i64 nr.sl]) vA vC (.slice a' (m + 1) c') vD vO (W'.setCell ⟨g, 2, none⟩ (.slice a' (m + 1) c'))) → W'.heap[g]? = some (.cells #[vA, vC, .slice a m c, .bool q.al, vD, vO] 27 (0, 0)) → wpList Tryd.prog ops Q rest (act.put o.dst (.slice a' (m + 1) c')) W') : wpList Tryd.prog ops Q (o :: rest) act (W.alloc (.cells #[v1, v2, .int .i64 nr.sl] 51)) := by
  subst hbb
  obtain ⟨i0, hi, hz0, hz1, hz2⟩ := info_parts Tryd.infoMN
  have KA := Kept.alloc W (.cells #[v1, v2, .int .i64 nr.sl] 51)
  have hM1 := hM.out.later KA
  have ha := hM1.nr
  rw [← hm.out] at ha
  refine wpList_append_own_at _ hgd s x 24 ho base 51 i0 _ 3 56 Tryd.underlying24 hi hz0 hz1 hz2 rfl (by decide) (.slice a m c) m xs hs ha ⟨W.heap.size, 0, none⟩ 1 1 [v1, v2, .int .i64 nr.sl] hx rfl (row_news W [v1, v2, .int .i64 nr.sl] 51) (near_one r1.out r2.out) (by unfold maxLen; omega) (by omega) (by have := hB.out; simp; omega) ?_
  intro v' W' ho2 hg2 _ _
  obtain ⟨a', c', rfl⟩ := own_form ho2
  obtain ⟨hr, -, -⟩ := hM1.pushN (vN' := .slice a' (m + 1) c') nr (own_stay r1.out KA) (own_stay r2.out KA) (by rw [hm.out] at ho2 ⊢; exact ho2) (Kept.grown hg2)
  exact h a' c' W' (hideI hr) ((Kept.grown hg2).heap hM1.box (fun e => own_typed hM1.nr (e' := 27) (by decide) g e _ _ hM1.box))
end Go.Proofs.YtiebmmpnmklpnaaDoor
