import Derived.Test.YtiebmmpnmklpnaaDoorVsr
namespace Go.Proofs.YtiebmmpnmklpnaaDoor
open Go.ChangeShapes Go.WideShapes Go.ChangeAt Go.RowKit

theorem mod_y (x m : Int) (hm : 0 < m) (hm2 : m ≤ 9223372036854775807) : 0 ≤ wrap64 ((IntKind.u64.wrap x).tmod m) ∧ wrap64 ((IntKind.u64.wrap x).tmod m) < m := by
  have h0 : 0 ≤ IntKind.u64.wrap x := by rw [IntKind.wrap_u64]; omega
  rw [Int.tmod_eq_emod_of_nonneg h0]
  have h1 := Int.emod_nonneg (IntKind.u64.wrap x) (show m ≠ 0 by omega)
  have h2 := Int.emod_lt_of_pos (IntKind.u64.wrap x) hm
  have e : wrap64 (IntKind.u64.wrap x % m) = IntKind.u64.wrap x % m := by unfold wrap64; omega
  rw [e]
  exact ⟨h1, h2⟩
def szC (l : List Lf) : Nat := (l.map fun c => c.t.size + 1).sum
theorem szC_snoc (l : List Lf) (c : Lf) : szC (l ++ [c]) = szC l + (c.t.size + 1) := by simp [szC]
theorem szT_take {T : List ByteArray} {j : Nat} (h : j < T.length) : szT (T.take (j + 1)) = szT (T.take j) + (T[j].size + 1) := by
  unfold szT
  rw [List.take_succ_eq_append_getElem h, List.map_append, List.sum_append]
  rfl
theorem szT_le : ∀ (T : List ByteArray) (j : Nat), szT (T.take j) ≤ szT T
  | [], j => by simp
  | t :: T, 0 => by simp [szT]
  | t :: T, j + 1 => by have := szT_le T j; simp only [szT, List.take_succ_cons, List.map_cons, List.sum_cons] at this ⊢; omega
theorem Grw.snA {p : Pg} {av : List Int} (h : Grw p av p.cu) {y : Int} (hy : 0 ≤ y) (h16 : av.length < 16) : Grw p (av ++ [y]) p.cu := by
  obtain ⟨xs, e, hx⟩ := h.xa
  refine ⟨⟨xs ++ [y], by rw [e, List.append_assoc], fun x hm => ?_⟩, by simp; omega, ⟨[], by simp, fun x hx => (by cases hx)⟩⟩
  rcases List.mem_append.1 hm with q | q
  · exact hx x q
  · rw [List.mem_singleton.1 q]; exact hy
theorem Grw.snC {p : Pg} {av : List Int} {cu : List Lf} (h : Grw p av cu) {c : Lf} (hc : CuOk av.length c) : Grw p av (cu ++ [c]) := by
  obtain ⟨ys, e, hy⟩ := h.yc
  refine ⟨h.xa, h.a16, ⟨ys ++ [c], by rw [e, List.append_assoc], fun x hm => ?_⟩⟩
  rcases List.mem_append.1 hm with q | q
  · exact hy x q
  · rw [List.mem_singleton.1 q]; exact hc
theorem isI_snoc {l : List Int} {y : Int} (h : IsInts l) (h0 : 0 ≤ y) (h1 : y < 9223372036854775807) : IsInts (l ++ [y]) := by
  intro x hx
  rcases List.mem_append.1 hx with q | q
  · exact h x q
  · rw [List.mem_singleton.1 q]; omega
theorem Grw.ok {p : Pg} {av : List Int} {cu : List Lf} {L : List In} {T : Nat} (h : Grw p av cu) (hv : Vok p L) (hO : p.Ok) (hi : IsInts av) (hs : szC cu ≤ szC p.cu + T) (hp : psz p + T ≤ 67000000) (nr : List Nr) (al : Bool) (dr : List Int) (hnr : ∀ n ∈ nr, IsInts n.cs ∧ IsInts n.os ∧ -9223372036854775808 ≤ n.sl ∧ n.sl ≤ 9223372036854775807) (hns : (nr.map fun n => n.cs.length + n.os.length + 1).sum ≤ (p.nr.map fun n => n.cs.length + n.os.length + 1).sum + 5) (hdi : IsInts dr) (hdl : dr.length ≤ p.dr.length + 1) : Pg.Ok ⟨av, cu, nr, al, dr, p.co⟩ := by
  refine ⟨hi, hdi, fun c hc => ?_, hnr, hO.co, ?_⟩
  · have := h.cuOk hv c hc
    have h16 := h.a16
    exact ⟨by have := this.1; omega, by have := this.2.1; omega⟩
  · have h16 := h.a16
    unfold psz at hp ⊢
    unfold szC at hs
    simp only
    omega
theorem Rw.pg {w : World} {base g : Nat} {q : Pg} {xs : List Value} {aA aC aN aD aO : Option Addr} {n1 n2 n3 n4 n5 c1 c2 c3 c4 c5 : Nat} {wr : World} (h : Rw w base g q xs (.slice aA n1 c1) (.slice aC n2 c2) (.slice aN n3 c3) (.slice aD n4 c4) (.slice aO n5 c5) wr) : PgAt wr q aA aC aN aD aO ∧ n1 = q.av.length ∧ n2 = q.cu.length ∧ n3 = q.nr.length ∧ n4 = q.dr.length ∧ n5 = q.co.length := by
  obtain ⟨_, _, _, _, _, _, _, _, _, _, e1, e2, e3, e4, e5, hp⟩ := h.at
  injection e1 with f1 g1 _
  injection e2 with f2 g2 _
  injection e3 with f3 g3 _
  injection e4 with f4 g4 _
  injection e5 with f5 g5 _
  subst f1 f2 f3 f4 f5
  exact ⟨hp, g1, g2, g3, g4, g5⟩
theorem check_rw {w : World} {base g : Nat} {q : Pg} {xs : List Value} {aA aC aN aD aO : Option Addr} {n1 n2 n3 n4 n5 c1 c2 c3 c4 c5 : Nat} {wr : World} (h : Rw w base g q xs (.slice aA n1 c1) (.slice aC n2 c2) (.slice aN n3 c3) (.slice aD n4 c4) (.slice aO n5 c5) wr) (al : Bool) (hal : al = q.al) (hO : q.Ok) (a0 a1 ac : Addr) (hE : VE wr a0 a1 ac) :
    Calls Tryd.prog 8 #[.agg #[.slice aA n1 c1, .slice aC n2 c2, .slice aN n3 c3, .bool al, .slice aD n4 c4, .slice aO n5 c5]] wr (ckP wr q ac) := by
  obtain ⟨hp, rfl, rfl, rfl, rfl, rfl⟩ := h.pg
  rw [hal]
  exact check_any q aA aC aN aD aO c1 c2 c3 c4 c5 a0 a1 ac wr hp hO hE
theorem row_two (W : World) (x y : Int) : (W.alloc (.cells #[.int .i64 x, .int .i64 y] 3)).ownsRow 0 3 1 (.slice (some ⟨W.heap.size, 0, none⟩) 2 2) 2 (is [x, y]) :=
  ⟨rfl, .inr ⟨W.heap.size, 2, #[.int .i64 x, .int .i64 y], rfl, Nat.zero_le _, heap_alloc_new W _, Nat.le_refl _, by decide, rfl, rfl⟩⟩
theorem row_one (W : World) (x : Int) : (W.alloc (.cells #[.int .i64 x] 3)).ownsRow 0 3 1 (.slice (some ⟨W.heap.size, 0, none⟩) 1 1) 1 (is [x]) :=
  ⟨rfl, .inr ⟨W.heap.size, 1, #[.int .i64 x], rfl, Nat.zero_le _, heap_alloc_new W _, Nat.le_refl _, by decide, rfl, rfl⟩⟩
theorem row_nil (W : World) : W.ownsRow 0 3 1 (.slice none 0 0) 0 (is []) := ⟨rfl, .inl ⟨rfl, rfl⟩⟩
theorem Rw.drive1 {w : World} {base g : Nat} {q : Pg} {xs : List Value} {vA vC vN vD vO : Value} {Y : World} (h : Rw w base g q xs vA vC vN vD vO Y) (b : Nat) (hb : Y.heap.size = b) (x : Int) : Rw w base g ⟨q.av, q.cu, q.nr, q.al, [x], q.co⟩ xs vA vC vN (.slice (some ⟨b, 0, none⟩) 1 1) vO ((Y.setCell ⟨g, 4, none⟩ (.slice (some ⟨b, 0, none⟩) 1 1)).alloc (.cells #[.int .i64 x] 3)) := by
  have KS : Kept (fun j => j = g) Y (Y.setCell ⟨g, 4, none⟩ (.slice (some ⟨b, 0, none⟩) 1 1)) := Kept.setCell Y ⟨g, 4, none⟩ (.slice (some ⟨b, 0, none⟩) 1 1)
  have KA := Kept.alloc (Y.setCell ⟨g, 4, none⟩ (.slice (some ⟨b, 0, none⟩) 1 1)) (.cells #[.int .i64 x] 3)
  have r := row_one (Y.setCell ⟨g, 4, none⟩ (.slice (some ⟨b, 0, none⟩) 1 1)) x
  rw [show (Y.setCell ⟨g, 4, none⟩ (.slice (some ⟨b, 0, none⟩) 1 1)).heap.size = b by simp [hb]] at r
  exact ⟨KA.heap (heap_setCell_same Y g 4 _ _ _ h.box) (fun f => f), own_stay (own_past h.av KS h.box (by decide)) KA, own_stay (own_past h.cu KS h.box (by decide)) KA, own_stay (own_past h.nr KS h.box (by decide)) KA, (h.nx.apart KS (not_int_at h.box)).apart KA (fun _ f => f.elim), r, own_stay (own_past h.co KS h.box (by decide)) KA, (h.old.trans KS (fun i e => .inr (by rw [e]; exact h.bg))).trans KA (fun _ f => f.elim), h.bg, h.bb⟩
theorem nr_more {p : Pg} (hO : p.Ok) {k : Int} (h0 : -1 ≤ k) (h : k ≤ 134217728) : ∀ n ∈ p.nr ++ [(⟨[k, k], [0, 5], 3⟩ : Nr)], IsInts n.cs ∧ IsInts n.os ∧ -9223372036854775808 ≤ n.sl ∧ n.sl ≤ 9223372036854775807 := by
  intro n hn
  rcases List.mem_append.1 hn with q | q
  · exact hO.nr n q
  · rw [List.mem_singleton.1 q]
    refine ⟨fun x hx => ?_, fun x hx => ?_, by simp only; omega, by simp only; omega⟩
    · have e : x = k := by simpa using hx
      omega
    · simp at hx
      rcases hx with rfl | rfl <;> omega
theorem nr_sum (p : Pg) (k : Int) : ((p.nr ++ [(⟨[k, k], [0, 5], 3⟩ : Nr)]).map fun n => n.cs.length + n.os.length + 1).sum ≤ (p.nr.map fun n => n.cs.length + n.os.length + 1).sum + 5 := by
  rw [List.map_append, List.sum_append]
  simp
theorem isI_one {d : Int} (h0 : 0 ≤ d) (h1 : d < 9223372036854775807) : IsInts [d] := by
  intro x hx
  have e : x = d := by simpa using hx
  omega
theorem wpList_moN {w : World} {base g : Nat} {q : Pg} {xs : List Value} {vA vC vD vO : Value} {W : World} {ops : Array Oper} {rest : List Oper} {o : Oper} {act : Act} {Q : Exit → Act → World → Prop} (hgd : o.guard = none) (s x : Operand)
    (ho : o.op = .call { callee := .builtin .append, args := #[s, x], argTypes := #[24, 24] }) (a : Option Addr) (c m : Nat) (hm : Hid (m = q.nr.length)) (hs : act.eval s = .slice a m c) (hM : Hid (Rw w base g q xs vA vC (.slice a m c) vD vO W)) (b : Nat) (hbb : b = W.heap.size) (hB : Hid (base ≤ W.heap.size)) (hx : act.eval x = .slice (some ⟨b, 0, none⟩) 1 1) (v1 v2 : Value) (nr : Nr) (r1 : Hid (W.ownsRow 0 3 1 v1 nr.cs.length (is nr.cs))) (r2 : Hid (W.ownsRow 0 3 1 v2 nr.os.length (is nr.os))) (hsm : m ≤ 67108864)
    (h : ∀ a' c' W', Hid (Rw w base g ⟨q.av, q.cu, q.nr ++ [nr], q.al, q.dr, q.co⟩ (xs ++ [v1, v2, .int .i64 nr.sl]) vA vC (.slice a' (m + 1) c') vD vO (W'.setCell ⟨g, 2, none⟩ (.slice a' (m + 1) c'))) → W'.heap[g]? = some (.cells #[vA, vC, .slice a m c, .bool q.al, vD, vO] 27 (0, 0)) → wpList Tryd.prog ops Q rest (act.put o.dst (.slice a' (m + 1) c')) W') : wpList Tryd.prog ops Q (o :: rest) act (W.alloc (.cells #[v1, v2, .int .i64 nr.sl] 51)) := by
  subst hbb
  obtain ⟨i0, hi, hz0, hz1, hz2⟩ := info_parts Tryd.infoMN
  have KA := Kept.alloc W (.cells #[v1, v2, .int .i64 nr.sl] 51)
  have hM1 := hM.out.later KA
  have ha := hM1.nr
  rw [← hm.out] at ha
  refine wpList_append_own_at _ hgd s x 24 ho base 51 i0 _ 3 56 Tryd.underlying24 hi hz0 hz1 hz2 rfl (by decide) (.slice a m c) m xs hs ha ⟨W.heap.size, 0, none⟩ 1 1 [v1, v2, .int .i64 nr.sl] hx rfl (row_news W [v1, v2, .int .i64 nr.sl] 51) (near_one r1.out r2.out) (by unfold maxLen; omega) (by omega) (by have := hB.out; simp; omega) ?_
  intro v' W' ho2 hg2 _ _
  obtain ⟨a', c', rfl⟩ := own_form ho2
  obtain ⟨hr, -, -⟩ := hM1.pushN (vN' := .slice a' (m + 1) c') nr (own_stay r1.out KA) (own_stay r2.out KA) (by rw [hm.out] at ho2 ⊢; exact ho2) (Kept.grown hg2)
  exact h a' c' W' (hideI hr) ((Kept.grown hg2).heap hM1.box (fun e => own_typed hM1.nr (e' := 27) (by decide) g e _ _ hM1.box))
end Go.Proofs.YtiebmmpnmklpnaaDoor
