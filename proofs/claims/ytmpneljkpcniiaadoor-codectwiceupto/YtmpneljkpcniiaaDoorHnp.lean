import Derived.Test.YtmpneljkpcniiaaDoorHno
namespace Go.Proofs.YtmpneljkpcniiaaDoor
open Go.ChangeShapes Go.WideShapes Go.ChangeAt Go.RowKit

/-- The Writer (0), the sorted list (1), the texts (2), the book (3, 4, 5), its lists (10 and more): who owns a block is told by o. -/
structure Tw (w0 bw : Nat) (v : Value) (Dt : List Int) (kb : Nat) (vs : Value) (s : List Int) (st : ByteArray) (base : Nat) (W : World) (o : Nat → Nat) (i : Nat) (vW vB vI : Value) (V I : List Value) (LB LI : Nat → List Int) : Prop where
  wr : Wr W bw v Dt
  ow : ∀ k, WF bw v k → o k = 0
  so : LibI W vs s
  os : ∀ k, vs.ownBlock = some k → o k = 1
  wh : W.ownsRow base 9 1 vW i (List.replicate i (.string st))
  oh : ∀ k, vW.ownBlock = some k → o k = 2
  bk : Bk2 base W kb vB vI V I
  ok : o kb = 3
  oB : ∀ k, vB.ownBlock = some k → o k = 4
  oI : ∀ k, vI.ownBlock = some k → o k = 5
  bl : ∀ t (h : t < V.length), Lib W V[t] (LB t)
  bo : ∀ t (h : t < V.length) k, V[t].ownBlock = some k → o k = 10 + 2 * t
  il : ∀ t (h : t < I.length), LibI W I[t] (LI t)
  io : ∀ t (h : t < I.length) k, I[t].ownBlock = some k → o k = 11 + 2 * t
  lo : ∀ k, k < w0 → o k = 7
  sz : w0 ≤ W.heap.size
theorem snoc_get {V : List Value} {b : Value} {t : Nat} (ht : t < (V ++ [b]).length) : (∃ h : t < V.length, (V ++ [b])[t] = V[t]) ∨ (t = V.length ∧ (V ++ [b])[t] = b) := by
  rw [List.length_append, List.length_singleton] at ht
  by_cases q : t < V.length
  · exact .inl ⟨q, List.getElem_append_left q⟩
  · refine .inr ⟨by omega, ?_⟩
    rw [List.getElem_append_right (by omega)]
    simp
theorem Tw.step {w0 bw : Nat} {v : Value} {Dt : List Int} {kb : Nat} {vs : Value} {s : List Int} {st : ByteArray} {base : Nat} {W W' : World} {o : Nat → Nat} {i : Nat} {vW vB vI : Value} {V I : List Value} {LB LI : Nat → List Int} {F : Nat → Prop} (c : Nat) (h : Tw w0 bw v Dt kb vs s st base W o i vW vB vI V I LB LI) (k : Kept (F) W W') (hF : ∀ q, F q → q < W.heap.size → o q = 6 ∨ o q = 8) : Tw w0 bw v Dt kb vs s st base W' (fun q => if W.heap.size ≤ q then c else o q) i vW vB vI V I LB LI := by
  have key : ∀ q, q < W.heap.size → (if W.heap.size ≤ q then c else o q) = o q := fun q hq => if_neg (by omega)
  have kl : kb < W.heap.size := lt_of_block h.bk.obj
  exact { wr := h.wr.kept k (fun j hj f => by have h1 := hF j f (h.wr.wf_lt hj); have h2 := h.ow j hj; omega)
          ow := fun k hk => (key k (h.wr.wf_lt hk)).trans (h.ow k hk)
          so := h.so.kept k (fun j hj f => by have h1 := hF j f (h.so.lt hj); have h2 := h.os j hj; omega)
          os := fun k hk => (key k (h.so.lt hk)).trans (h.os k hk)
          wh := k.row h.wh (fun j hj f => by have h1 := hF j f (h.wh.lt j hj).2; have h2 := h.oh j hj; omega)
          oh := fun k hk => (key k (h.wh.lt k hk).2).trans (h.oh k hk)
          bk := h.bk.kept k (fun f => by have h1 := hF kb f kl; have h2 := h.ok; omega) (fun j hj f => by have h1 := hF j f (h.bk.rowB.lt j hj).2; have h2 := h.oB j hj; omega) (fun j hj f => by have h1 := hF j f (h.bk.rowI.lt j hj).2; have h2 := h.oI j hj; omega)
          ok := (key kb kl).trans h.ok
          oB := fun k hk => (key k (h.bk.rowB.lt k hk).2).trans (h.oB k hk)
          oI := fun k hk => (key k (h.bk.rowI.lt k hk).2).trans (h.oI k hk)
          bl := fun t ht => (h.bl t ht).kept k (fun j hj f => by have h1 := hF j f ((h.bl t ht).lt hj); have h2 := h.bo t ht j hj; omega)
          bo := fun t ht k hk => (key k ((h.bl t ht).lt hk)).trans (h.bo t ht k hk)
          il := fun t ht => (h.il t ht).kept k (fun j hj f => by have h1 := hF j f ((h.il t ht).lt hj); have h2 := h.io t ht j hj; omega)
          io := fun t ht k hk => (key k ((h.il t ht).lt hk)).trans (h.io t ht k hk)
          lo := fun k hk => (key k (Nat.lt_of_lt_of_le hk h.sz)).trans (h.lo k hk)
          sz := Nat.le_trans h.sz k.size }
theorem Tw.whole {w0 bw : Nat} {v : Value} {Dt : List Int} {kb : Nat} {vs : Value} {s : List Int} {st : ByteArray} {base : Nat} {W W' : World} {o : Nat → Nat} {i : Nat} {vW vB vI : Value} {V I : List Value} {LB LI : Nat → List Int} {vW' : Value} (h : Tw w0 bw v Dt kb vs s st base W o i vW vB vI V I LB LI) (k : Kept (fun q => vW.ownBlock = some q) W W') (r : W'.ownsRow base 9 1 vW' (i + 1) (List.replicate (i + 1) (.string st))) (nw : ∀ q, vW'.ownBlock = some q → vW.ownBlock = some q ∨ W.heap.size ≤ q) : Tw w0 bw v Dt kb vs s st base W' (fun q => if W.heap.size ≤ q then 2 else o q) (i + 1) vW' vB vI V I LB LI := by
  have key : ∀ q, q < W.heap.size → (if W.heap.size ≤ q then 2 else o q) = o q := fun q hq => if_neg (by omega)
  have kl : kb < W.heap.size := lt_of_block h.bk.obj
  have hF : ∀ q, vW.ownBlock = some q → q < W.heap.size → o q = 2 := fun q e _ => h.oh q e
  exact { wr := h.wr.kept k (fun j hj f => by have h1 := hF j f (h.wr.wf_lt hj); have h2 := h.ow j hj; omega)
          ow := fun k hk => (key k (h.wr.wf_lt hk)).trans (h.ow k hk)
          so := h.so.kept k (fun j hj f => by have h1 := hF j f (h.so.lt hj); have h2 := h.os j hj; omega)
          os := fun k hk => (key k (h.so.lt hk)).trans (h.os k hk)
          wh := r
          oh := fun k hk => (nw k hk).elim (fun q => (key k (h.wh.lt k q).2).trans (h.oh k q)) (fun q => if_pos q)
          bk := h.bk.kept k (fun f => by have h1 := hF kb f kl; have h2 := h.ok; omega) (fun j hj f => by have h1 := hF j f (h.bk.rowB.lt j hj).2; have h2 := h.oB j hj; omega) (fun j hj f => by have h1 := hF j f (h.bk.rowI.lt j hj).2; have h2 := h.oI j hj; omega)
          ok := (key kb kl).trans h.ok
          oB := fun k hk => (key k (h.bk.rowB.lt k hk).2).trans (h.oB k hk)
          oI := fun k hk => (key k (h.bk.rowI.lt k hk).2).trans (h.oI k hk)
          bl := fun t ht => (h.bl t ht).kept k (fun j hj f => by have h1 := hF j f ((h.bl t ht).lt hj); have h2 := h.bo t ht j hj; omega)
          bo := fun t ht k hk => (key k ((h.bl t ht).lt hk)).trans (h.bo t ht k hk)
          il := fun t ht => (h.il t ht).kept k (fun j hj f => by have h1 := hF j f ((h.il t ht).lt hj); have h2 := h.io t ht j hj; omega)
          io := fun t ht k hk => (key k ((h.il t ht).lt hk)).trans (h.io t ht k hk)
          lo := fun k hk => (key k (Nat.lt_of_lt_of_le hk h.sz)).trans (h.lo k hk)
          sz := Nat.le_trans h.sz k.size }
theorem Tw.bytes {w0 bw : Nat} {v : Value} {Dt : List Int} {kb : Nat} {vs : Value} {s : List Int} {st : ByteArray} {base : Nat} {W W' : World} {o : Nat → Nat} {i : Nat} {vW vB vI : Value} {V I : List Value} {LB LI : Nat → List Int} {vB' b : Value} {l : List Int} (h : Tw w0 bw v Dt kb vs s st base W o i vW vB vI V I LB LI) (k : Kept (fun q => q = kb ∨ vB.ownBlock = some q) W W') (r : Bk2 base W' kb vB' vI (V ++ [b]) I) (nw : ∀ q, vB'.ownBlock = some q → vB.ownBlock = some q ∨ W.heap.size ≤ q) (hb : Lib W b l) (ho : ∀ q, b.ownBlock = some q → o q = 10 + 2 * V.length) : Tw w0 bw v Dt kb vs s st base W' (fun q => if W.heap.size ≤ q then 4 else o q) i vW vB' vI (V ++ [b]) I (fun t => if t < V.length then LB t else l) LI := by
  have key : ∀ q, q < W.heap.size → (if W.heap.size ≤ q then 4 else o q) = o q := fun q hq => if_neg (by omega)
  have kl : kb < W.heap.size := lt_of_block h.bk.obj
  have hF : ∀ q, (q = kb ∨ vB.ownBlock = some q) → q < W.heap.size → o q = 3 ∨ o q = 4 := fun q e _ => e.elim (fun e => .inl (by rw [e]; exact h.ok)) (fun e => .inr (h.oB q e))
  exact { wr := h.wr.kept k (fun j hj f => by have h1 := hF j f (h.wr.wf_lt hj); have h2 := h.ow j hj; omega)
          ow := fun k hk => (key k (h.wr.wf_lt hk)).trans (h.ow k hk)
          so := h.so.kept k (fun j hj f => by have h1 := hF j f (h.so.lt hj); have h2 := h.os j hj; omega)
          os := fun k hk => (key k (h.so.lt hk)).trans (h.os k hk)
          wh := k.row h.wh (fun j hj f => by have h1 := hF j f (h.wh.lt j hj).2; have h2 := h.oh j hj; omega)
          oh := fun k hk => (key k (h.wh.lt k hk).2).trans (h.oh k hk)
          bk := r
          ok := (key kb kl).trans h.ok
          oB := fun k hk => (nw k hk).elim (fun q => (key k (h.bk.rowB.lt k q).2).trans (h.oB k q)) (fun q => if_pos q)
          oI := fun k hk => (key k (h.bk.rowI.lt k hk).2).trans (h.oI k hk)
          bl := fun t ht => by
            rcases snoc_get ht with ⟨q, e⟩ | ⟨q, e⟩
            · rw [e]
              show Lib W' V[t] (if t < V.length then LB t else l)
              rw [if_pos q]
              exact (h.bl t q).kept k (fun j hj f => by have h1 := hF j f ((h.bl t q).lt hj); have h2 := h.bo t q j hj; omega)
            · rw [e]
              show Lib W' b (if t < V.length then LB t else l)
              rw [if_neg (by omega)]
              exact hb.kept k (fun j hj f => by have h1 := hF j f (hb.lt hj); have h2 := ho j hj; omega)
          bo := fun t ht k hk => by
            rcases snoc_get ht with ⟨q, e⟩ | ⟨q, e⟩
            · rw [e] at hk
              exact (key k ((h.bl t q).lt hk)).trans (h.bo t q k hk)
            · rw [e] at hk
              rw [q]
              exact (key k (hb.lt hk)).trans (ho k hk)
          il := fun t ht => (h.il t ht).kept k (fun j hj f => by have h1 := hF j f ((h.il t ht).lt hj); have h2 := h.io t ht j hj; omega)
          io := fun t ht k hk => (key k ((h.il t ht).lt hk)).trans (h.io t ht k hk)
          lo := fun k hk => (key k (Nat.lt_of_lt_of_le hk h.sz)).trans (h.lo k hk)
          sz := Nat.le_trans h.sz k.size }
theorem Tw.ints {w0 bw : Nat} {v : Value} {Dt : List Int} {kb : Nat} {vs : Value} {s : List Int} {st : ByteArray} {base : Nat} {W W' : World} {o : Nat → Nat} {i : Nat} {vW vB vI : Value} {V I : List Value} {LB LI : Nat → List Int} {vI' b : Value} {l : List Int} (h : Tw w0 bw v Dt kb vs s st base W o i vW vB vI V I LB LI) (k : Kept (fun q => q = kb ∨ vI.ownBlock = some q) W W') (r : Bk2 base W' kb vB vI' V (I ++ [b])) (nw : ∀ q, vI'.ownBlock = some q → vI.ownBlock = some q ∨ W.heap.size ≤ q) (hb : LibI W b l) (ho : ∀ q, b.ownBlock = some q → o q = 11 + 2 * I.length) : Tw w0 bw v Dt kb vs s st base W' (fun q => if W.heap.size ≤ q then 5 else o q) i vW vB vI' V (I ++ [b]) LB (fun t => if t < I.length then LI t else l) := by
  have key : ∀ q, q < W.heap.size → (if W.heap.size ≤ q then 5 else o q) = o q := fun q hq => if_neg (by omega)
  have kl : kb < W.heap.size := lt_of_block h.bk.obj
  have hF : ∀ q, (q = kb ∨ vI.ownBlock = some q) → q < W.heap.size → o q = 3 ∨ o q = 5 := fun q e _ => e.elim (fun e => .inl (by rw [e]; exact h.ok)) (fun e => .inr (h.oI q e))
  exact { wr := h.wr.kept k (fun j hj f => by have h1 := hF j f (h.wr.wf_lt hj); have h2 := h.ow j hj; omega)
          ow := fun k hk => (key k (h.wr.wf_lt hk)).trans (h.ow k hk)
          so := h.so.kept k (fun j hj f => by have h1 := hF j f (h.so.lt hj); have h2 := h.os j hj; omega)
          os := fun k hk => (key k (h.so.lt hk)).trans (h.os k hk)
          wh := k.row h.wh (fun j hj f => by have h1 := hF j f (h.wh.lt j hj).2; have h2 := h.oh j hj; omega)
          oh := fun k hk => (key k (h.wh.lt k hk).2).trans (h.oh k hk)
          bk := r
          ok := (key kb kl).trans h.ok
          oB := fun k hk => (key k (h.bk.rowB.lt k hk).2).trans (h.oB k hk)
          oI := fun k hk => (nw k hk).elim (fun q => (key k (h.bk.rowI.lt k q).2).trans (h.oI k q)) (fun q => if_pos q)
          bl := fun t ht => (h.bl t ht).kept k (fun j hj f => by have h1 := hF j f ((h.bl t ht).lt hj); have h2 := h.bo t ht j hj; omega)
          bo := fun t ht k hk => (key k ((h.bl t ht).lt hk)).trans (h.bo t ht k hk)
          il := fun t ht => by
            rcases snoc_get ht with ⟨q, e⟩ | ⟨q, e⟩
            · rw [e]
              show LibI W' I[t] (if t < I.length then LI t else l)
              rw [if_pos q]
              exact (h.il t q).kept k (fun j hj f => by have h1 := hF j f ((h.il t q).lt hj); have h2 := h.io t q j hj; omega)
            · rw [e]
              show LibI W' b (if t < I.length then LI t else l)
              rw [if_neg (by omega)]
              exact hb.kept k (fun j hj f => by have h1 := hF j f (hb.lt hj); have h2 := ho j hj; omega)
          io := fun t ht k hk => by
            rcases snoc_get ht with ⟨q, e⟩ | ⟨q, e⟩
            · rw [e] at hk
              exact (key k ((h.il t q).lt hk)).trans (h.io t q k hk)
            · rw [e] at hk
              rw [q]
              exact (key k (hb.lt hk)).trans (ho k hk)
          lo := fun k hk => (key k (Nat.lt_of_lt_of_le hk h.sz)).trans (h.lo k hk)
          sz := Nat.le_trans h.sz k.size }
/-- The rising part of a list, as the law picks it. -/
def srt (L : List Int) : List Int × Int := L.foldl (fun p x => if p.2 < x then (p.1 ++ [x], x) else p) ([], -1)
theorem srt_snoc (L : List Int) (x : Int) : srt (L ++ [x]) = if (srt L).2 < x then ((srt L).1 ++ [x], x) else srt L := by
  unfold srt
  rw [List.foldl_append]
  rfl
structure Srt (L : List Int) : Prop where
  rs : Rsn (srt L).1
  ge : -1 ≤ (srt L).2
  le : ∀ y ∈ (srt L).1, y ≤ (srt L).2
  ln : (srt L).1.length ≤ L.length
  hi : (srt L).2 ≤ 9223372036854775807
theorem rev_ind {P : List Int → Prop} (h0 : P []) (h1 : ∀ L x, P L → P (L ++ [x])) (L : List Int) : P L := by
  have h : ∀ M : List Int, P M.reverse := by
    intro M
    induction M with
    | nil => exact h0
    | cons x M ih => rw [List.reverse_cons]; exact h1 _ _ ih
  have := h L.reverse
  rwa [List.reverse_reverse] at this

theorem srt_ok (L : List Int) : IsInts L → Srt L := by
  refine rev_ind (P := fun L => IsInts L → Srt L) ?_ ?_ L
  · intro _
    exact ⟨⟨fun x hx => (by cases hx), fun x hx => (by cases hx), rfl⟩, by decide, fun y hy => (by cases hy), Nat.le_refl _, by decide⟩
  · intro L x ih hI
    have h := ih (fun y hy => hI y (List.mem_append_left _ hy))
    have hx := hI x (List.mem_append_right _ List.mem_cons_self)
    have e := srt_snoc L x
    by_cases q : (srt L).2 < x
    · rw [if_pos q] at e
      have hge := h.ge
      refine ⟨⟨fun y hy => ?_, fun y hy => ?_, ?_⟩, ?_, fun y hy => ?_, ?_, ?_⟩
      · rw [e] at hy
        rcases List.mem_append.1 hy with p | p
        · exact h.rs.nn y p
        · simp only [List.mem_singleton] at p
          omega
      · rw [e] at hy
        rcases List.mem_append.1 hy with p | p
        · exact h.rs.ii y p
        · simp only [List.mem_singleton] at p
          rw [p]; exact hx
      · rw [e, riseB_iff]
        intro j hj
        have hr := (riseB_iff _).1 h.rs.rb
        show ((srt L).1 ++ [x])[j]?.getD 0 < ((srt L).1 ++ [x])[j + 1]?.getD 0
        have hj' : j + 1 < (srt L).1.length + 1 := by
          have : ((srt L).1 ++ [x]).length = (srt L).1.length + 1 := by rw [List.length_append, List.length_singleton]
          rw [← this]; exact hj
        by_cases c : j + 1 < (srt L).1.length
        · rw [List.getElem?_append_left (by omega), List.getElem?_append_left c]
          exact hr j c
        · have c1 : j + 1 = (srt L).1.length := by omega
          rw [List.getElem?_append_left (by omega), c1, List.getElem?_append_right (Nat.le_refl _), Nat.sub_self, List.getElem?_eq_getElem (by omega)]
          have := h.le _ (List.getElem_mem (show j < (srt L).1.length by omega))
          show (srt L).1[j] < x
          omega
      · rw [e]
        show -1 ≤ x
        omega
      · rw [e] at hy ⊢
        show y ≤ x
        rcases List.mem_append.1 hy with p | p
        · have := h.le y p
          omega
        · simp only [List.mem_singleton] at p
          omega
      · rw [e, List.length_append, List.length_singleton, List.length_append, List.length_singleton]
        have := h.ln
        omega
      · rw [e]
        exact hx.2
    · rw [if_neg q] at e
      rw [← List.append_nil L] at h
      refine ⟨?_, ?_, ?_, ?_, ?_⟩
      · rw [e]; rw [List.append_nil] at h; exact h.rs
      · rw [e]; rw [List.append_nil] at h; exact h.ge
      · rw [e]; rw [List.append_nil] at h; exact h.le
      · rw [e, List.length_append]; rw [List.append_nil] at h; have := h.ln; omega
      · rw [e]; rw [List.append_nil] at h; exact h.hi
end Go.Proofs.YtmpneljkpcniiaaDoor
