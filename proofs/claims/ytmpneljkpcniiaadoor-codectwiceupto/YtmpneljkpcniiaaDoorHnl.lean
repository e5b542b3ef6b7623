import Derived.Test.YtmpneljkpcniiaaDoorHnk
import Derived.Test.YtmpneljkpcniiaaDoorHne
import Derived.Test.YtmpneljkpcniiaaDoorWrG
import Derived.Test.YtmpneljkpcniiaaDoorBk
namespace Go.Proofs.YtmpneljkpcniiaaDoor
open Go.ChangeShapes Go.WideShapes Go.ChangeAt Go.RowKit

/-- An operation under a guard that is met. -/
theorem wpList_unguard {P : Program} {ops : Array Oper} {Q : Exit → Act → World → Prop} {rest : List Oper} {o : Oper} {a : Act} {w : World} (hw : Region.wanted o (yielded ops a.tmps) = true) (h : wpList P ops Q ({ o with guard := none } :: rest) a w) : wpList P ops Q (o :: rest) a w := by
  unfold wpList at h ⊢
  rw [if_pos hw]
  rw [if_pos (by simp [Region.wanted])] at h
  exact h
theorem LibI.far {W : World} {v : Value} {l : List Int} (h : LibI W v l) {bw : Nat} {u : Value} (hd : ∀ k, v.ownBlock = some k → ¬ WF bw u k) : ∃ a c, v = .slice a l.length c ∧ IntsFar W a l bw u := by
  obtain ⟨a, c, rfl, -, -⟩ := h.shape
  refine ⟨a, c, rfl, fun hne => ?_⟩
  have h0 : 0 < l.length := List.length_pos_iff.2 hne
  obtain ⟨b, c', e, -⟩ := h.cells h0
  simp only [Value.slice.injEq] at e
  obtain ⟨rfl, -, -⟩ := e
  refine ⟨b, 0, rfl, hd b rfl, fun k hk => ?_⟩
  obtain ⟨b', c2, e2, hc, -⟩ := h.cells hk
  simp only [Value.slice.injEq, Option.some.injEq, Addr.mk.injEq, and_true] at e2
  obtain ⟨e3, -, -⟩ := e2
  subst e3
  rw [Nat.zero_add]
  exact hc
theorem Wr.wf_lt {W : World} {bw : Nat} {v : Value} {xs : List Int} (h : Wr W bw v xs) {k : Nat} (hk : WF bw v k) : k < W.heap.size := by
  rcases hk with rfl | e
  · exact h.lt
  · exact (h.own.lt k e).2
/-- Two Writers, a list of numbers, a list of bytes, all apart. -/
structure Sp (W : World) (o : Nat → Nat) (bw : Nat) (vw : Value) (xw : List Int) (bx : Nat) (vx : Value) (xx : List Int) (vl : Value) (l : List Int) (vb : Value) (b : List Int) : Prop where
  w : Wr W bw vw xw
  x : Wr W bx vx xx
  l : LibI W vl l
  b : Lib W vb b
  ow : ∀ k, WF bw vw k → o k = 0
  ox : ∀ k, WF bx vx k → o k = 1
  ol : ∀ k, vl.ownBlock = some k → o k = 2
  ob : ∀ k, vb.ownBlock = some k → o k = 3
theorem Sp.kept {F : Nat → Prop} {W W' : World} {o : Nat → Nat} {bw : Nat} {vw : Value} {xw : List Int} {bx : Nat} {vx : Value} {xx : List Int} {vl : Value} {l : List Int} {vb : Value} {b : List Int} (h : Sp W o bw vw xw bx vx xx vl l vb b) (k : Kept F W W') (hF : ∀ i, F i → i < W.heap.size → 4 ≤ o i) : Sp W' o bw vw xw bx vx xx vl l vb b := by
  refine ⟨h.w.kept k (fun i hi f => ?_), h.x.kept k (fun i hi f => ?_), h.l.kept k (fun i hi f => ?_), h.b.kept k (fun i hi f => ?_), h.ow, h.ox, h.ol, h.ob⟩
  · have := hF i f (h.w.wf_lt hi); have := h.ow i hi; omega
  · have := hF i f (h.x.wf_lt hi); have := h.ox i hi; omega
  · have := hF i f (h.l.lt hi); have := h.ol i hi; omega
  · have := hF i f (h.b.lt hi); have := h.ob i hi; omega
theorem Sp.later {W W' : World} {o : Nat → Nat} {bw : Nat} {vw : Value} {xw : List Int} {bx : Nat} {vx : Value} {xx : List Int} {vl : Value} {l : List Int} {vb : Value} {b : List Int} (h : Sp W o bw vw xw bx vx xx vl l vb b) (k : Kept (fun _ => False) W W') : Sp W' o bw vw xw bx vx xx vl l vb b := h.kept k (fun _ f => f.elim)
/-- The first Writer has written. -/
theorem Sp.stepW {W W' : World} {o : Nat → Nat} {bw : Nat} {vw vw' : Value} {xw xw' : List Int} {bx : Nat} {vx : Value} {xx : List Int} {vl : Value} {l : List Int} {vb : Value} {b : List Int} (h : Sp W o bw vw xw bx vx xx vl l vb b) (s : WStep W W' bw vw vw') (h' : Wr W' bw vw' xw') : ∃ o', Sp W' o' bw vw' xw' bx vx xx vl l vb b ∧ ∀ k, k < W.heap.size → o' k = o k := by
  have key : ∀ q, q < W.heap.size → (if W.heap.size ≤ q then 0 else o q) = o q := fun q hq => if_neg (by omega)
  refine ⟨fun q => if W.heap.size ≤ q then 0 else o q, ⟨h', h.x.kept s.kept (fun i hi f => ?_), h.l.kept s.kept (fun i hi f => ?_), h.b.kept s.kept (fun i hi f => ?_), fun k hk => ?_, fun k hk => (key k (h.x.wf_lt hk)).trans (h.ox k hk), fun k hk => (key k (h.l.lt hk)).trans (h.ol k hk), fun k hk => (key k (h.b.lt hk)).trans (h.ob k hk)⟩, key⟩
  · have := h.ox i hi; have := h.ow i f; omega
  · have := h.ol i hi; have := h.ow i f; omega
  · have := h.ob i hi; have := h.ow i f; omega
  · rcases hk with rfl | e
    · exact (key k h.w.lt).trans (h.ow k (.inl rfl))
    · rcases s.new k e with q | q
      · exact (key k (h.w.wf_lt (.inr q))).trans (h.ow k (.inr q))
      · exact if_pos q
/-- The second Writer has written. -/
theorem Sp.stepX {W W' : World} {o : Nat → Nat} {bw : Nat} {vw : Value} {xw : List Int} {bx : Nat} {vx vx' : Value} {xx xx' : List Int} {vl : Value} {l : List Int} {vb : Value} {b : List Int} (h : Sp W o bw vw xw bx vx xx vl l vb b) (s : WStep W W' bx vx vx') (h' : Wr W' bx vx' xx') : ∃ o', Sp W' o' bw vw xw bx vx' xx' vl l vb b ∧ ∀ k, k < W.heap.size → o' k = o k := by
  have key : ∀ q, q < W.heap.size → (if W.heap.size ≤ q then 1 else o q) = o q := fun q hq => if_neg (by omega)
  refine ⟨fun q => if W.heap.size ≤ q then 1 else o q, ⟨h.w.kept s.kept (fun i hi f => ?_), h', h.l.kept s.kept (fun i hi f => ?_), h.b.kept s.kept (fun i hi f => ?_), fun k hk => (key k (h.w.wf_lt hk)).trans (h.ow k hk), fun k hk => ?_, fun k hk => (key k (h.l.lt hk)).trans (h.ol k hk), fun k hk => (key k (h.b.lt hk)).trans (h.ob k hk)⟩, key⟩
  · have := h.ow i hi; have := h.ox i f; omega
  · have := h.ol i hi; have := h.ox i f; omega
  · have := h.ob i hi; have := h.ox i f; omega
  · rcases hk with rfl | e
    · exact (key k h.x.lt).trans (h.ox k (.inl rfl))
    · rcases s.new k e with q | q
      · exact (key k (h.x.wf_lt (.inr q))).trans (h.ox k (.inr q))
      · exact if_pos q
/-- Something was put behind the list of numbers. -/
theorem Sp.stepL {W W' : World} {o : Nat → Nat} {bw : Nat} {vw : Value} {xw : List Int} {bx : Nat} {vx : Value} {xx : List Int} {vl v' : Value} {l : List Int} {vb : Value} {b : List Int} (h : Sp W o bw vw xw bx vx xx vl l vb b) (s : LStepI W W' vl v' l.length) : ∃ o', Sp W' o' bw vw xw bx vx xx vl l vb b ∧ (∀ k, v'.ownBlock = some k → o' k = 2) ∧ ∀ k, k < W.heap.size → o' k = o k := by
  have key : ∀ q, q < W.heap.size → (if W.heap.size ≤ q then 2 else o q) = o q := fun q hq => if_neg (by omega)
  refine ⟨fun q => if W.heap.size ≤ q then 2 else o q, ⟨h.w.kept s.kept (fun i hi f => ?_), h.x.kept s.kept (fun i hi f => ?_), s.pre _ _ (fun _ => Nat.le_refl _) h.l, h.b.kept s.kept (fun i hi f => ?_), fun k hk => (key k (h.w.wf_lt hk)).trans (h.ow k hk), fun k hk => (key k (h.x.wf_lt hk)).trans (h.ox k hk), fun k hk => (key k (h.l.lt hk)).trans (h.ol k hk), fun k hk => (key k (h.b.lt hk)).trans (h.ob k hk)⟩, fun k hk => ?_, key⟩
  · have := h.ow i hi; have := h.ol i f; omega
  · have := h.ox i hi; have := h.ol i f; omega
  · have := h.ob i hi; have := h.ol i f; omega
  · rcases s.new k hk with q | q
    · exact (key k (h.l.lt q)).trans (h.ol k q)
    · exact if_pos q
/-- The numbers that samePlace writes over its list. -/
def thr (k : Nat) : List Int := (List.range k).map (fun (i : Nat) => 3 * (i : Int) + 1)
theorem thr_length (k : Nat) : (thr k).length = k := by simp [thr]
theorem thr_succ (k : Nat) : thr (k + 1) = thr k ++ [3 * (k : Int) + 1] := by simp [thr, List.range_succ]
def thd (j : Nat) (l : List Int) : List Int := thr j ++ l.drop j
theorem thd_zero (l : List Int) : thd 0 l = l := by simp [thd, thr]
theorem thd_all (l : List Int) : thd l.length l = thr l.length := by simp [thd]
theorem thd_length (j : Nat) (l : List Int) (h : j ≤ l.length) : (thd j l).length = l.length := by
  rw [thd, List.length_append, thr_length, List.length_drop]; omega
theorem thd_set (j : Nat) (l : List Int) (h : j < l.length) : (thd j l).set j (3 * (j : Int) + 1) = thd (j + 1) l := by
  have hm := thr_length j
  have e := List.drop_eq_getElem_cons h
  rw [thd, List.set_append_right _ _ (by omega), hm, Nat.sub_self, thd, thr_succ, List.append_assoc, e]
  rfl
/-- Lists that Rising takes. -/
structure Rsn (l : List Int) : Prop where
  nn : ∀ x ∈ l, 0 ≤ x
  ii : IsInts l
  rb : riseB l = true
theorem thr_rsn (k : Nat) (hk : k ≤ 1099511627776) : Rsn (thr k) := by
  refine ⟨fun x hx => ?_, fun x hx => ?_, ?_⟩
  · obtain ⟨i, hi, rfl⟩ := List.mem_map.1 hx
    omega
  · obtain ⟨i, hi, rfl⟩ := List.mem_map.1 hx
    have := List.mem_range.1 hi
    omega
  · rw [riseB_iff]
    intro j hj
    rw [thr_length] at hj
    have e : ∀ q, q < k → (thr k)[q]?.getD 0 = 3 * (q : Int) + 1 := fun q hq => by simp [thr, hq]
    rw [e j (by omega), e (j + 1) hj]
    omega
theorem xor51_byte (x : Int) : 0 ≤ bits .xor .u8 x 51 ∧ bits .xor .u8 x 51 ≤ 255 := by
  have h : bits .xor .u8 x 51 = IntKind.u8.wrap ((BitVec.ofInt 8 x ^^^ BitVec.ofInt 8 51).toNat : Int) := rfl
  rw [h, IntKind.wrap_u8]
  omega
end Go.Proofs.YtmpneljkpcniiaaDoor
