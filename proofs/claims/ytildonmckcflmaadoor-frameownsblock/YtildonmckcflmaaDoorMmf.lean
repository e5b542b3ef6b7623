import Derived.Test.YtildonmckcflmaaDoorMme
import Derived.Test.YtildonmckcflmaaDoorFth
import Derived.OwnWalk
import Derived.Laws.CopyOwn
import Derived.OrdersHeld
namespace Go.Proofs.YtildonmckcflmaaDoor
open Go.ChangeShapes Go.WideShapes Go.ChangeAt Go.RowKit

/-- append(x, y...) of bytes behind '&&' or '||', where it is wanted. -/
theorem wpList_apg {w W : World} {ops : Array Oper} {rest : List Oper} {o : Oper} {act : Act} {Q : Exit → Act → World → Prop} (hgd : Region.wanted o (yielded ops act.tmps) = true) (s x : Operand)
    (ho : o.op = .call { callee := .builtin .append, args := #[s, x], argTypes := #[22, 22] })
    (v : Value) (xs l ys : List Int) (m n : Nat) (hs : act.eval s = v) (ad : Addr) (c : Nat) (hx : act.eval x = .slice (some ad) m c)
    (hm : Hid (m = l.length)) (hys : Hid (ys = xs ++ l)) (hn : Hid (n = ys.length))
    (hown : Hid (OwnB w W v xs)) (hB : Hid (BytesAt W (some ad) l)) (hr : Hid (ys.length ≤ 140737488355328))
    (h : ∀ a' c' W', Hid (OwnB w W' (.slice a' n c') ys) → wpList Tryd.prog ops Q rest (act.put o.dst (.slice a' n c')) W') : wpList Tryd.prog ops Q (o :: rest) act W := by
  have h1 := hm.out
  have h2 := hys.out
  have h3 := hn.out
  have h4 := hr.out
  clear hm hys hn hr
  subst h1 h2 h3
  rw [List.length_append] at h4
  obtain ⟨i0, hi, hz0, hz1, hz2⟩ := info_parts Tryd.infoB
  have hle : w.heap.size ≤ W.heap.size := hown.out.kept.size
  have hcl : ∀ j u, (bs l)[j]? = some u → W.cell? (ad.add j) = some u := by
    by_cases hl : l = []
    · subst hl; intro j u hu; simp [bs] at hu
    · obtain ⟨b, off, e, hcc⟩ := hB.out hl
      cases e
      exact BytesAt.cells hcc
  obtain ⟨v', w1, hr, hown1, hgrow, _, _⟩ := run_append_own_at (P := Tryd.prog) W w.heap.size 22 o.type 5 i0 (.int .u8 0) 1 1 Tryd.underlying22 hi hz0 hz1 hz2 rfl (by decide) _ _ _ hown.out.row ad l.length c (bs l) (by rw [bs_length]; omega) hcl (bs_one l) (by unfold maxLen; omega) (by omega) hle
  refine wpList_step fun K hK => ?_
  rw [if_pos hgd]
  unfold Oper.wp execOp
  simp only [ho, resolve, invoke, builtin, Sem.run_bind, Sem.run_pure, Result.andThen_ok, List.map_toArray, List.map_cons, List.map_nil, hs, hx, hr]
  have e : bs xs ++ bs l = bs (xs ++ l) := by simp [bs]
  rw [e, ← List.length_append] at hown1
  have q := hown.out.grow hown1 hgrow
  obtain ⟨a', c', rfl, _⟩ := q.at
  exact hK _ _ (h a' c' w1 q)
theorem made_zeros (n : Nat) : madeCells #[Value.int .u8 0] n = (bs (List.replicate n (0 : Int))).toArray := by
  apply Array.ext
  · rw [size_madeCells, List.size_toArray, bs_length, List.length_replicate]
  · intro i h1 h2
    simp [madeCells, bs, Nat.mod_one]
/-- make([]byte, n). -/
theorem make_zeros (n : Nat) (W : World) (hn : n ≤ 140737488355328) :
    (Instr.makeSlice 22 (.int .i64 (n : Int)) (.int .i64 (n : Int))).run Tryd.prog W = .ok (.slice (some ⟨W.heap.size, 0, none⟩) n n) (W.alloc (.cells (bs (List.replicate n (0 : Int))).toArray 5)) := by
  obtain ⟨i0, hi, hz0, hz1, hz2⟩ := info_parts Tryd.infoB
  have q := run_make (P := Tryd.prog) W 22 5 i0 (.int .u8 0) Tryd.underlying22 hi hz0 .i64 .i64 (n : Int) (n : Int) (by omega) (by omega) (by rw [hz2]; omega) (by omega)
  rw [hz1, Nat.mul_one, Int.toNat_natCast] at q
  rw [q, show (Value.int .u8 0).cells = #[Value.int .u8 0] from rfl, made_zeros]
theorem zeros_own (n : Nat) (W : World) (hn : n ≤ 140737488355328) : OwnB W (W.alloc (.cells (bs (List.replicate n (0 : Int))).toArray 5)) (.slice (some ⟨W.heap.size, 0, none⟩) n n) (List.replicate n 0) := by
  refine ⟨⟨by rw [bs_length]; omega, .inr ⟨W.heap.size, n, (bs (List.replicate n 0)).toArray, by rw [List.length_replicate], Nat.le_refl _, heap_alloc_new W _, by rw [List.length_replicate]; omega, by unfold maxLen; omega, by simp [bs_length], ?_⟩⟩, Kept.alloc W _⟩
  rw [List.toList_toArray, List.take_of_length_le (by rw [bs_length]; omega)]
theorem zeros_bytes (n : Nat) : IsBytes (List.replicate n 0) := fun x hx => by rw [List.eq_of_mem_replicate hx]; omega
/-- The fore part of a row. -/
theorem row_fore {W : World} {base g N n c : Nat} {X l : List Int} (h : W.ownsRow base 5 1 (.slice (some ⟨g, 0, none⟩) N c) X.length (bs X)) (hl : X.take n = l) (hn : n = l.length) : W.ownsRow base 5 1 (.slice (some ⟨g, 0, none⟩) n c) l.length (bs l) := by
  refine ⟨by rw [bs_length]; omega, ?_⟩
  have hnX : n ≤ X.length := by have := congrArg List.length hl; rw [List.length_take] at this; omega
  rcases h.2 with ⟨e, _⟩ | ⟨g', cap, cur, e, hb, hg, hN, hm, hs, ht⟩
  · simp at e
  · simp only [Value.slice.injEq, Option.some.injEq, Addr.mk.injEq, and_true] at e
    obtain ⟨rfl, _, rfl⟩ := e
    refine .inr ⟨g, c, cur, by rw [hn], hb, hg, by omega, hm, hs, ?_⟩
    rw [Nat.mul_one, ← hn]
    rw [Nat.mul_one] at ht
    have : cur.toList.take n = (cur.toList.take X.length).take n := by rw [List.take_take, Nat.min_eq_left hnX]
    rw [this, ht, ← hl]
    simp [bs, List.map_take]
theorem row_base {W : World} {base base' : Nat} {v : Value} {n : Nat} {xs : List Value} (h : W.ownsRow base 5 1 v n xs) (hb : base' ≤ base) : W.ownsRow base' 5 1 v n xs := by
  refine ⟨h.1, ?_⟩
  rcases h.2 with e | ⟨g, cap, cur, e, hg, r⟩
  · exact .inl e
  · exact .inr ⟨g, cap, cur, e, Nat.le_trans hb hg, r⟩
/-- Three lists of the caller's, each in memory of its own. -/
structure Three (W : World) (v0 v1 v2 : Value) (X0 X1 X2 : List Int) : Prop where
  r0 : W.ownsRow 0 5 1 v0 X0.length (bs X0)
  r1 : W.ownsRow 0 5 1 v1 X1.length (bs X1)
  r2 : W.ownsRow 0 5 1 v2 X2.length (bs X2)
  d01 : ∀ g, v0.ownBlock = some g → v1.ownBlock ≠ some g
  d02 : ∀ g, v0.ownBlock = some g → v2.ownBlock ≠ some g
  d12 : ∀ g, v1.ownBlock = some g → v2.ownBlock ≠ some g
  l0 : X0.length ≤ 140737488354000
  l1 : X1.length ≤ 140737488354000
  l2 : X2.length ≤ 140737488354000
/-- What Own leaves of three lists. -/
structure Threed (mk : Nat → Nat → Int) (W W' : World) (a0 : Option Addr) (n0 : Nat) (v1 v2 : Value) : Prop where
  fst : BytesAt W' a0 (mks mk 0 n0)
  ow : ∀ g, a0 = some ⟨g, 0, none⟩ → ∃ cur : Array Value, W'.heap[g]? = some (.cells cur 5 (0, 0)) ∧ n0 ≤ cur.size
  kept : Kept (fun k => (∃ ad, a0 = some ad ∧ ad.block = k) ∨ v1.ownBlock = some k ∨ v2.ownBlock = some k) W W'
theorem own_three (mk : Nat → Nat → Int) (hmk : MarkIs mk) (W : World) (a0 : Option Addr) (n0 c0 : Nat) (v1 v2 : Value) (X0 X1 X2 : List Int) (h : Three W (.slice a0 n0 c0) v1 v2 X0 X1 X2) (hn : n0 = X0.length) :
    Calls Tryd.prog 11 #[.slice (some ⟨W.heap.size, 0, none⟩) 3 3] (W.alloc (.cells #[.slice a0 n0 c0, v1, v2] 22)) fun e W' => e = .returned (.bool true) ∧ Threed mk W W' a0 n0 v1 v2 := by
  obtain ⟨w1, hw1⟩ : ∃ w1, w1 = W.alloc (.cells #[.slice a0 n0 c0, v1, v2] 22) := ⟨_, rfl⟩
  have ka : Kept (fun _ => False) W w1 := by rw [hw1]; exact Kept.alloc W _
  have hnew : w1.heap[W.heap.size]? = some (.cells #[.slice a0 n0 c0, v1, v2] 22) := by rw [hw1]; exact heap_alloc_new W _
  have lt : ∀ {v : Value} {X : List Int}, W.ownsRow 0 5 1 v X.length (bs X) → ∀ g, v.ownBlock = some g → g < W.heap.size := fun r g e => (r.lt g e).2
  obtain ⟨V, hV⟩ : ∃ V : List Value, V = [.slice a0 n0 c0, v1, v2] := ⟨_, rfl⟩
  obtain ⟨L, hL⟩ : ∃ L : Nat → List Int, L = fun t => if t = 0 then X0 else if t = 1 then X1 else X2 := ⟨_, rfl⟩
  have three : ∀ t (ht : t < V.length), t = 0 ∨ t = 1 ∨ t = 2 := fun t ht => by rw [hV] at ht; simp at ht; omega
  have hO : Ow w1 w1 W.heap.size 0 V L := by
    refine ⟨fun t ht => ?_, fun t ht => ?_, Kept.refl _ _⟩
    · rcases three t ht with rfl | rfl | rfl
      · rw [cell_of_row _ _ _ _ _ _ hnew]; subst hV; rfl
      · rw [cell_of_row _ _ _ _ _ _ hnew]; subst hV; rfl
      · rw [cell_of_row _ _ _ _ _ _ hnew]; subst hV; rfl
    · rcases three t ht with rfl | rfl | rfl
      · subst hV hL; exact ka.row h.r0 (fun _ _ f => f)
      · subst hV hL; exact ka.row h.r1 (fun _ _ f => f)
      · subst hV hL; exact ka.row h.r2 (fun _ _ f => f)
  have hA : Apt W.heap.size V := by
    refine ⟨fun t s ht hs hne g e => ?_, fun v hv e => ?_⟩
    · rcases three t ht with rfl | rfl | rfl <;> rcases three s hs with rfl | rfl | rfl <;> subst hV
      · exact (hne rfl).elim
      · exact h.d01 g e
      · exact h.d02 g e
      · exact fun e2 => h.d01 g e2 e
      · exact (hne rfl).elim
      · exact h.d12 g e
      · exact fun e2 => h.d02 g e2 e
      · exact fun e2 => h.d12 g e2 e
      · exact (hne rfl).elim
    · subst hV
      simp only [List.mem_cons, List.not_mem_nil, or_false] at hv
      rcases hv with rfl | rfl | rfl
      · have := lt h.r0 _ e; omega
      · have := lt h.r1 _ e; omega
      · have := lt h.r2 _ e; omega
  rw [← hw1]
  refine (own_any mk hmk V L W.heap.size 0 3 3 w1 hO hA (by rw [hV]; rfl) (by omega) (by omega) ?_ (lt_of_block hnew)).mono ?_
  · intro t ht
    subst hL
    simp only
    split
    · exact h.l0
    · split
      · exact h.l1
      · exact h.l2
  · rintro e W' ⟨rfl, p⟩
    refine ⟨rfl, ?_, fun g e => ?_, ka.mono (fun _ f => f.elim) |>.trans p.kept ?_⟩
    · obtain ⟨a, c, e1, e2⟩ := p.marked 0 (by rw [hV]; simp)
      subst hV hL
      simp only [List.getElem_cons_zero, Value.slice.injEq] at e1
      obtain ⟨rfl, _, _⟩ := e1
      simp only [if_true] at e2
      rw [hn]
      exact e2
    · obtain ⟨cur, e1, e2⟩ := p.ow 0 (by rw [hV]; simp) g (by subst hV; rw [List.getElem_cons_zero, e]; rfl)
      subst hL
      simp only [if_true] at e2
      exact ⟨cur, e1, by omega⟩
    · rintro k ⟨v, hv, e⟩
      subst hV
      simp only [List.mem_cons, List.not_mem_nil, or_false] at hv
      rcases hv with rfl | rfl | rfl
      · cases a0 with
        | none => simp [Value.ownBlock] at e
        | some ad => exact .inl (.inl ⟨ad, rfl, by simpa [Value.ownBlock] using e⟩)
      · exact .inl (.inr (.inl e))
      · exact .inl (.inr (.inr e))
/-- copy(in, other), lists of one length. -/
theorem wpList_cpn {W : World} {ops : Array Oper} {rest : List Oper} {o : Oper} {act : Act} {Q : Exit → Act → World → Prop} (hgd : o.guard = none) (d s : Operand)
    (ho : o.op = .call { callee := .builtin .copy, args := #[d, s], argTypes := #[22, 22] })
    (g n c c2 : Nat) (ad : Option Addr) (E : List Int) (cur : Array Value) (hd : act.eval d = .slice (some ⟨g, 0, none⟩) n c) (hs : act.eval s = .slice ad n c2)
    (hE : Hid (n = E.length ∧ 0 < n)) (hg : Hid (W.heap[g]? = some (.cells cur 5 (0, 0)) ∧ n ≤ cur.size)) (hB : Hid (BytesAt W ad E))
    (h : ∀ W', Hid (BytesAt W' (some ⟨g, 0, none⟩) E ∧ Kept (fun k => k = g) W W') → wpList Tryd.prog ops Q rest (act.put o.dst (.int .i64 (n : Int))) W') : wpList Tryd.prog ops Q (o :: rest) act W := by
  obtain ⟨hn, h0⟩ := hE.out
  obtain ⟨hg1, hg2⟩ := hg.out
  have hne : E ≠ [] := by intro e; rw [e] at hn; simp at hn; omega
  obtain ⟨b, off, rfl, hcc⟩ := hB.out hne
  have hi : (Tryd.prog.info? 5).map (·.size) = some 1 := by
    obtain ⟨i0, hi, hz0, hz1, hz2⟩ := info_parts Tryd.infoB
    rw [hi]; simp [hz1]
  have hbl : (bs E).length = n := by rw [bs_length, hn]
  refine wpList_copy_own hgd d s 22 22 ho 5 Tryd.underlying22 hi g 0 n c ⟨b, off, none⟩ n c2 hd hs cur 5 hg1 (bs E) (by rw [hbl]; simp) (BytesAt.cells hcc) (by rw [hbl]; omega) (bs_one E) ?_
  rw [hbl]
  have q := h (W.setRow g (cur.toList.take 0 ++ (bs E ++ cur.toList.drop (0 + n))).toArray) ⟨?_, ?_⟩
  · exact q
  · intro _
    refine ⟨g, 0, rfl, fun k hk => ?_⟩
    have hrow := setRow_heap W g cur (cur.toList.take 0 ++ (bs E ++ cur.toList.drop (0 + n))).toArray 5 _ hg1
    rw [cell_of_row _ _ _ _ _ _ hrow]
    simp [bs, List.getElem?_append, hk]
  · exact ⟨rfl, rfl, rfl, by simp [World.setRow], fun k _ hF => setRow_other W g k _ hF⟩
end Go.Proofs.YtildonmckcflmaaDoor
