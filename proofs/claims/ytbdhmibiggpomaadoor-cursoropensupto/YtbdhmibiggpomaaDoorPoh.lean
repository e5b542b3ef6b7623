import Derived.Test.YtbdhmibiggpomaaDoorPog
import Derived.Test.YtbdhmibiggpomaaDoorCcd
namespace Go.Proofs.YtbdhmibiggpomaaDoor
open Go.ChangeShapes Go.WideShapes Go.ChangeAt Go.RowKit Go.Shelf
attribute [local go_sem] Oper.semAt_some

/-- Two Writers side by side. -/
structure Two (w : World) (b1 : Nat) (v1 : Value) (b2 : Nat) (v2 : Value) (xs ys : List Int) : Prop where
  w1 : Wr w b1 v1 xs
  w2 : Wr w b2 v2 ys
  ne : b1 ≠ b2
  n1 : v1.ownBlock ≠ some b2
  n2 : v2.ownBlock ≠ some b1
  nn : ∀ k, v1.ownBlock = some k → v2.ownBlock ≠ some k
theorem Two.step1 {w w' : World} {b1 b2 : Nat} {v1 v2 v1' : Value} {xs ys xs' : List Int} (h : Two w b1 v1 b2 v2 xs ys) (hw : Wr w' b1 v1' xs') (s : WStep w w' b1 v1 v1') : Two w' b1 v1' b2 v2 xs' ys := by
  refine ⟨hw, h.w2.kept s.kept ?_, h.ne, ?_, h.n2, ?_⟩
  · rintro i (e | e) (f | f)
    · exact h.ne (f.symm.trans e)
    · rw [e] at f; exact h.n1 f
    · rw [f] at e; exact h.n2 e
    · exact h.nn i f e
  · intro e
    rcases s.new _ e with f | f
    · exact h.n1 f
    · have := h.w2.lt; omega
  · intro k e f
    rcases s.new k e with x | x
    · exact h.nn k x f
    · have := (h.w2.own.lt k f).2; omega
theorem Two.step2 {w w' : World} {b1 b2 : Nat} {v1 v2 v2' : Value} {xs ys ys' : List Int} (h : Two w b1 v1 b2 v2 xs ys) (hw : Wr w' b2 v2' ys') (s : WStep w w' b2 v2 v2') : Two w' b1 v1 b2 v2' xs ys' := by
  refine ⟨h.w1.kept s.kept ?_, hw, h.ne, h.n1, ?_, ?_⟩
  · rintro i (e | e) (f | f)
    · exact h.ne (e.symm.trans f)
    · rw [e] at f; exact h.n2 f
    · rw [f] at e; exact h.n1 e
    · exact h.nn i e f
  · intro e
    rcases s.new _ e with f | f
    · exact h.n2 f
    · have := h.w1.lt; omega
  · intro k e f
    rcases s.new k f with x | x
    · exact h.nn k e x
    · have := (h.w1.own.lt k e).2; omega
theorem Two.kept {w w' : World} {F : Nat → Prop} {b1 b2 : Nat} {v1 v2 : Value} {xs ys : List Int} (h : Two w b1 v1 b2 v2 xs ys) (k : Kept F w w') (h1 : ∀ i, WF b1 v1 i → ¬ F i) (h2 : ∀ i, WF b2 v2 i → ¬ F i) : Two w' b1 v1 b2 v2 xs ys :=
  ⟨h.w1.kept k h1, h.w2.kept k h2, h.ne, h.n1, h.n2, h.nn⟩
theorem PsAt.cut {w : World} {b off : Nat} {L : List Pg} (h : PsAt w (some ⟨b, off, none⟩) L) (m n : Nat) : PsAt w (some ⟨b, off + m * 2, none⟩) ((L.drop m).take n) := by
  intro hne
  have hL : L ≠ [] := by intro e; rw [e] at hne; simp at hne
  obtain ⟨b', off', e, hc⟩ := h hL
  simp only [Option.some.injEq, Addr.mk.injEq, and_true] at e
  obtain ⟨rfl, rfl⟩ := e
  refine ⟨b, off + m * 2, rfl, fun k hk => ?_⟩
  have hk2 : m + k < L.length := by rw [List.length_take, List.length_drop] at hk; omega
  have e2 : ((L.drop m).take n)[k] = L[m + k] := by rw [List.getElem_take, List.getElem_drop]
  rw [e2]
  have := hc (m + k) hk2
  rw [show off + (m + k) * 2 = off + m * 2 + k * 2 by omega] at this
  exact this
theorem PsAt.lows {w : World} {a : Option Addr} {L : List Pg} (h : PsAt w a L) (hne : L ≠ []) {b off : Nat} (ha : a = some ⟨b, off, none⟩) : b < w.heap.size := by
  obtain ⟨b', off', e, hc⟩ := h hne
  rw [ha] at e
  simp only [Option.some.injEq, Addr.mk.injEq, and_true] at e
  obtain ⟨rfl, rfl⟩ := e
  exact World.block_lt_of_cell? w _ (hc 0 (List.length_pos_iff.2 hne)).1
theorem lastd_end : ∀ {F : List Pg} {b : Int} (h : 0 < F.length), lastd b (pol F) = (F[F.length - 1]'(by omega)).d
  | [p], b, _ => rfl
  | p :: q :: F, b, _ => by
    have := lastd_end (F := q :: F) (b := p.d) (by simp)
    simp only [List.length_cons, Nat.add_sub_cancel] at this ⊢
    rw [show pol (p :: q :: F) = p.po :: pol (q :: F) by rfl, lastd]
    exact this
theorem uvb_le10P (n : Nat) (h : n < 18446744073709551616) : (uvb n).length ≤ 10 := by
  rw [uvb_length]
  exact (ulen_le n (by omega)).2
theorem blk_le {F : List Po} {b : Int} (hg : gdl b F) (hb : -1 ≤ b) (hl : F.length ≤ 16) : (blk b F).length ≤ 400 + 10 * tot F := by
  have gi := gps_ints hg hb
  have mi := mos_intsG hg
  have p1 : (packed (gps b F)).length ≤ 200 := packed_le (fun x hx => (gi x hx).1) (fun x hx => by have := gi x hx; omega) (by rw [gps_length]; exact hl)
  have p2 : (packed (mos F)).length ≤ 200 := packed_le (fun x hx => (mi x hx).1) (fun x hx => by have := mi x hx; omega) (by rw [mos_length]; exact hl)
  have p3 := psb_le (F := F) (fun p hp => (gdl_pos hg p hp).2)
  rw [blk, List.length_append, List.length_append]
  omega
theorem bkb_le : ∀ {m : Nat} {L : List Po} {b : Int}, gdl b L → -1 ≤ b → tot L ≤ 1099511627776 → (bkb b (chp m L)).length ≤ 400 * m + 10 * tot L ∧ (skb b (chp m L)).length ≤ 20 * m
  | 0, _, _, _, _, _ => ⟨Nat.zero_le _, Nat.zero_le _⟩
  | m + 1, L, b, hg, hb, ht => by
    obtain ⟨g1, g2⟩ := gdl_split hg
    have h3 := tot_append (L.take 16) (L.drop 16)
    rw [List.take_append_drop] at h3
    have q := (gdl_last _ _ g1).1
    have q2 : lastd b (L.take 16) ≤ 2147483646 ∨ L.take 16 = [] := by
      by_cases e : L.take 16 = []
      · exact .inr e
      · exact .inl ((gdl_last _ _ g1).2 e).2
    have i := bkb_le (m := m) g2 (by omega) (by omega)
    have j := blk_le g1 hb (by rw [List.length_take]; omega)
    have u1 := uvb_le10P (lastd b (L.take 16) - 1 - b).toNat (by
      rcases q2 with q2 | q2
      · omega
      · rw [q2, lastd]; omega)
    have u2 := uvb_le10P (blk b (L.take 16)).length (by omega)
    rw [chp, bkb, skb, List.length_append, List.length_append, List.length_append]
    omega
/-- Where the loop of bytesOf stands. -/
structure BoI (Wc : World) (b2 b3 bb : Nat) (L : List Po) (pre : List Nat) (A : World) : Prop where
  k : Kept (fun i => i = b2 ∨ i = b3 ∨ i = bb) Wc A
  tw : ∃ v2 v3, Two A b2 v2 b3 v3 (skb (-1) (chp pre.length L)) (bkb (-1) (chp pre.length L)) ∧ (∀ k, v2.ownBlock = some k → Wc.heap.size + 2 ≤ k) ∧ (∀ k, v3.ownBlock = some k → Wc.heap.size + 2 ≤ k)
  bs : A.heap[bb]? = some (.cells #[.int .i64 (lastd (-1) (L.take (16 * pre.length)))] 3 (0, 0))
theorem BoI.same {Wc A B : World} {b2 b3 bb : Nat} {L : List Po} {pre : List Nat} (h : BoI Wc b2 b3 bb L pre A) (k : Kept (fun _ => False) A B) : BoI Wc b2 b3 bb L pre B := by
  obtain ⟨v2, v3, t, n2, n3⟩ := h.tw
  exact ⟨h.k.trans k (fun _ f => f.elim), ⟨v2, v3, t.kept k (fun _ _ f => f) (fun _ _ f => f), n2, n3⟩, k.heap h.bs (fun f => f)⟩
end Go.Proofs.YtbdhmibiggpomaaDoor
