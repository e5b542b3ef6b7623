import Derived.Test.YtoglgicmnhklbaaDoorScb
import Derived.Test.YtoglgicmnhklbaaDoorScc
namespace Go.Proofs.YtoglgicmnhklbaaDoor
open Go.ChangeShapes Go.WideShapes Go.ChangeAt Go.RowKit

/-- blocks = append(blocks, b): the list behind it. -/
theorem bl_push {w W W1 : World} {v : Value} {D : List BkD} {b : BkD} {g m cap : Nat} (hB : Bl w W v D) (hb : b.At W) (hfar : b.B ≠ [] → ∀ ad, b.a = some ad → v.ownBlock ≠ some ad.block)
    (hm : m = (D ++ [b]).length) (hown : W1.ownsRow w.heap.size 35 2 (.slice (some ⟨g, 0, none⟩) m cap) m (rowsB D ++ b.cells)) (hgrow : W.grownBy W1 v.ownBlock) (hat : v.ownBlock = some g ∨ g = W.heap.size) : Bl w W1 (.slice (some ⟨g, 0, none⟩) m cap) (D ++ [b]) := by
  have kg := Kept.grown hgrow
  have hlow : ∀ y : BkD, y.At W → (y.B ≠ [] → ∀ ad, y.a = some ad → v.ownBlock ≠ some ad.block) → y.At W1 ∧ (y.B ≠ [] → ∀ ad, y.a = some ad → (some g : Option Nat) ≠ some ad.block) := by
    intro y hy hf
    refine ⟨⟨hy.t2, fun hne => ?_, hy.i, hy.z⟩, fun hne ad had hg => ?_⟩
    · obtain ⟨b', off', e', hc⟩ := hy.b hne
      exact ⟨b', off', e', fun k hk => kg.cell (hc k hk) (fun f => hf hne _ e' (by rw [f]))⟩
    · have hlt := bytesAt_lt hy.b hne ad had
      have hg := Option.some.inj hg
      rcases hat with e1 | e1
      · exact hf hne ad had (by rw [e1, hg])
      · omega
  refine ⟨?_, fun y hy => ?_, fun y hy => ?_, hB.kept.trans kg (fun i hi => .inr (hB.row.lt i hi).1)⟩
  · rw [← hm, rowsB_snoc]
    exact hown
  · rcases List.mem_append.1 hy with hy | hy
    · exact (hlow y (hB.each y hy) (hB.far y hy)).1
    · rw [List.mem_singleton] at hy; subst hy
      exact (hlow y hb hfar).1
  · rcases List.mem_append.1 hy with hy | hy
    · exact (hlow y (hB.each y hy) (hB.far y hy)).2
    · rw [List.mem_singleton] at hy; subst hy
      exact (hlow y hb hfar).2
def pls (P : List Nat) : List Value := P.map fun p => .int .i64 (p : Nat)
theorem pls_length (P : List Nat) : (pls P).length = P.length := by simp [pls]
/-- A list of places and a list of blocks that grow beside one another; what grows lies in g0, in g1 or from s on. -/
structure Two (w : World) (s g0 g1 : Nat) (W : World) (v1 v2 : Value) (P : List Nat) (D : List BkD) : Prop where
  r1 : W.ownsRow w.heap.size 3 1 v1 P.length (pls P)
  r2 : Bl w W v2 D
  f1 : ∀ i, v1.ownBlock = some i → i = g0 ∨ s ≤ i
  f2 : ∀ i, v2.ownBlock = some i → i = g1 ∨ s ≤ i
  far : ∀ i, v1.ownBlock = some i → v2.ownBlock ≠ some i
  yng : ∀ x ∈ D, x.B ≠ [] → ∀ ad, x.a = some ad → s ≤ ad.block ∧ v1.ownBlock ≠ some ad.block
theorem Two.keptX {w W W' : World} {s g0 g1 : Nat} {v1 v2 : Value} {P : List Nat} {D : List BkD} {X : Nat → Prop} (h : Two w s g0 g1 W v1 v2 P D) (k : Kept X W W') (hX : ∀ i, X i → i < s ∧ i ≠ g0 ∧ i ≠ g1 ∧ w.heap.size ≤ i) : Two w s g0 g1 W' v1 v2 P D := by
  refine ⟨k.row h.r1 (fun i hi hx => ?_), ⟨k.row h.r2.row (fun i hi hx => ?_), fun x hx => ?_, h.r2.far, h.r2.kept.trans k (fun i hi => .inr (hX i hi).2.2.2)⟩, h.f1, h.f2, h.far, h.yng⟩
  · have := hX i hx
    rcases h.f1 i hi with e | e <;> omega
  · have := hX i hx
    rcases h.f2 i hi with e | e <;> omega
  · have hx' := h.r2.each x hx
    refine ⟨hx'.t2, fun hne => ?_, hx'.i, hx'.z⟩
    obtain ⟨b', off', e', hc⟩ := hx'.b hne
    refine ⟨b', off', e', fun j hj => k.cell (hc j hj) (fun f => ?_)⟩
    have h1 := (h.yng x hx hne _ e').1
    have h2 := hX _ f
    simp only at h1 h2
    omega
theorem Two.same {w W W' : World} {s g0 g1 : Nat} {v1 v2 : Value} {P : List Nat} {D : List BkD} (h : Two w s g0 g1 W v1 v2 P D) (k : Kept (fun _ => False) W W') : Two w s g0 g1 W' v1 v2 P D := h.keptX k (fun _ f => f.elim)
theorem Two.int {w W W1 : World} {s g0 g1 : Nat} {v1 v2 : Value} {P : List Nat} {D : List BkD} {p g m cap : Nat} (h : Two w s g0 g1 W v1 v2 P D) (hs : s ≤ W.heap.size) (hm : m = (P ++ [p]).length)
    (hown : W1.ownsRow w.heap.size 3 1 (.slice (some ⟨g, 0, none⟩) m cap) m (pls P ++ [.int .i64 p])) (hgrow : W.grownBy W1 v1.ownBlock) (hat : v1.ownBlock = some g ∨ g = W.heap.size) : Two w s g0 g1 W1 (.slice (some ⟨g, 0, none⟩) m cap) v2 (P ++ [p]) D := by
  have kg := Kept.grown hgrow
  have ob : (Value.slice (some ⟨g, 0, none⟩) m cap).ownBlock = some g := rfl
  refine ⟨?_, ⟨kg.row h.r2.row (fun i hi hx => h.far i hx hi), fun x hx => ?_, h.r2.far, h.r2.kept.trans kg (fun i hi => .inr (h.r1.lt i hi).1)⟩, fun i hi => ?_, h.f2, fun i hi hv => ?_, fun x hx hne ad had => ⟨(h.yng x hx hne ad had).1, fun hv => ?_⟩⟩
  · rw [← hm]
    have e : pls (P ++ [p]) = pls P ++ [.int .i64 p] := by simp [pls]
    rw [e]
    exact hown
  · have hx' := h.r2.each x hx
    refine ⟨hx'.t2, fun hne => ?_, hx'.i, hx'.z⟩
    obtain ⟨b', off', e', hc⟩ := hx'.b hne
    exact ⟨b', off', e', fun j hj => kg.cell (hc j hj) (fun f => (h.yng x hx hne _ e').2 f)⟩
  · rw [ob] at hi
    have hi := Option.some.inj hi
    rcases hat with e | e
    · exact h.f1 i (by rw [e, hi])
    · right; omega
  · rw [ob] at hi
    have hi := Option.some.inj hi
    rcases hat with e | e
    · exact h.far i (by rw [e, hi]) hv
    · have := (h.r2.row.lt i hv).2
      omega
  · rw [ob] at hv
    have hv := Option.some.inj hv
    rcases hat with e | e
    · exact (h.yng x hx hne ad had).2 (by rw [e, hv])
    · have := bytesAt_lt (h.r2.each x hx).b hne ad had
      omega
theorem Two.blk {w W W1 : World} {s g0 g1 : Nat} {v1 v2 : Value} {P : List Nat} {D : List BkD} {b : BkD} {g m cap : Nat} (h : Two w s g0 g1 W v1 v2 P D) (hs : s ≤ W.heap.size) (hb : b.At W) (hfar : b.B ≠ [] → ∀ ad, b.a = some ad → s ≤ ad.block ∧ v1.ownBlock ≠ some ad.block ∧ v2.ownBlock ≠ some ad.block)
    (hm : m = (D ++ [b]).length) (hown : W1.ownsRow w.heap.size 35 2 (.slice (some ⟨g, 0, none⟩) m cap) m (rowsB D ++ b.cells)) (hgrow : W.grownBy W1 v2.ownBlock) (hat : v2.ownBlock = some g ∨ g = W.heap.size) : Two w s g0 g1 W1 v1 (.slice (some ⟨g, 0, none⟩) m cap) P (D ++ [b]) := by
  have kg := Kept.grown hgrow
  have ob : (Value.slice (some ⟨g, 0, none⟩) m cap).ownBlock = some g := rfl
  refine ⟨kg.row h.r1 (fun i hi hx => h.far i hi hx), bl_push h.r2 hb (fun hne ad had => (hfar hne ad had).2.2) hm hown hgrow hat, h.f1, fun i hi => ?_, fun i hi hv => ?_, fun x hx hne ad had => ?_⟩
  · rw [ob] at hi
    have hi := Option.some.inj hi
    rcases hat with e | e
    · exact h.f2 i (by rw [e, hi])
    · right; omega
  · rw [ob] at hv
    have hv := Option.some.inj hv
    rcases hat with e | e
    · exact h.far i hi (by rw [e, hv])
    · have := (h.r1.lt i hi).2
      omega
  · rcases List.mem_append.1 hx with hx | hx
    · exact h.yng x hx hne ad had
    · rw [List.mem_singleton] at hx
      subst hx
      exact ⟨(hfar hne ad had).1, (hfar hne ad had).2.1⟩
theorem Two.places {w W : World} {s g0 g1 : Nat} {v1 v2 : Value} {P : List Nat} {D : List BkD} (h : Two w s g0 g1 W v1 v2 P D) : ∃ a c, v1 = .slice a P.length c ∧ PlacesAt W a P := by
  rcases h.r1.2 with ⟨rfl, h0⟩ | ⟨g, cap, cur, rfl, hb, hg, hle, _, hcs, ht⟩
  · exact ⟨none, 0, by rw [h0], fun hne => (hne (List.length_eq_zero_iff.1 h0)).elim⟩
  · refine ⟨_, _, rfl, fun _ => ⟨g, 0, rfl, fun k hk => ?_⟩⟩
    have h1 : W.cell? ⟨g, 0 + k, none⟩ = cur[k]? := by
      rw [Nat.zero_add]
      exact cell_of_row W g _ cur _ _ hg
    have h2 : (pls P)[k]? = some (.int .i64 (P[k]?.getD 0 : Nat)) := by
      simp only [pls, List.getElem?_map, List.getElem?_eq_getElem hk, Option.map_some, Option.getD_some]
    rw [h1, ← h2, ← ht, List.getElem?_take, if_pos (by omega), Array.getElem?_toList]
theorem BkD.At.far {W W' : World} {x : BkD} {X : Nat → Prop} (h : x.At W) (k : Kept X W W') (hf : x.B ≠ [] → ∀ ad, x.a = some ad → ¬ X ad.block) : x.At W' := by
  refine ⟨h.t2, fun hne => ?_, h.i, h.z⟩
  obtain ⟨b', off', e', hc⟩ := h.b hne
  exact ⟨b', off', e', fun j hj => k.cell (hc j hj) (fun f => hf hne ⟨b', off', none⟩ e' f)⟩
theorem ScM.at_ {L : List Int} {pre : List Sx} {x : Sx} {s : Nat} {W : World} (h : ScM L pre x s W) : x.D.At W ∧ ∀ ad, x.D.a = some ad → s ≤ ad.block ∧ ad.block < W.heap.size := by
  obtain ⟨a, c, e, hb, _⟩ := bytes_of_own h.row
  simp only [Value.slice.injEq] at e
  obtain ⟨rfl, _, rfl⟩ := e
  refine ⟨⟨h.t2, hb, h.isb, fun hz => ?_⟩, fun ad had => ?_⟩
  · rcases h.row.2 with ⟨e, _⟩ | ⟨g, cap, cur, e, _⟩
    · simp only [Value.slice.injEq] at e
      exact e.2.2
    · simp only [Value.slice.injEq] at e
      rw [hz] at e
      cases e.1
  · exact h.row.lt _ (by rw [had]; rfl)
/-- 'scanned' between two rounds. -/
structure ScI (w Wc : World) (L : List Int) (most : Int) (v1 v2 : Value) (pre : List Sx) (W : World) : Prop where
  two : Two w (Wc.heap.size + 2) (w.heap.size + 1) (w.heap.size + 1 + 1 + 1) W v1 v2 (pre.map Sx.p) (pre.map Sx.D)
  b0 : W.heap[w.heap.size]? = some (.cells #[.int .i64 most] 3 (0, 0))
  b1 : W.heap[w.heap.size + 1 + 1]? = some (.cells #[v1] 24 (0, 0))
  b2 : W.heap[w.heap.size + 1 + 1 + 1 + 1]? = some (.cells #[v2] 25 (0, 0))
  kc : Kept (fun i => w.heap.size ≤ i ∧ i < w.heap.size + 5) Wc W
  le : pre.length ≤ most.toNat
  come : ∃ rest, scan L = pre.map Sx.dat ++ rest
  sz : Wc.heap.size + 2 ≤ W.heap.size
  lo : w.heap.size + 5 ≤ Wc.heap.size
theorem ScI.keptX {w Wc W W' : World} {L : List Int} {most : Int} {v1 v2 : Value} {pre : List Sx} {X : Nat → Prop} (h : ScI w Wc L most v1 v2 pre W) (k : Kept X W W') (hX : ∀ i, X i → Wc.heap.size ≤ i ∧ i < Wc.heap.size + 2) : ScI w Wc L most v1 v2 pre W' := by
  have lo := h.lo
  refine ⟨h.two.keptX k (fun i hi => ?_), k.heap h.b0 (fun f => ?_), k.heap h.b1 (fun f => ?_), k.heap h.b2 (fun f => ?_), h.kc.trans k (fun i hi => .inr (hX i hi).1), h.le, h.come, Nat.le_trans h.sz k.size, lo⟩
  · have := hX i hi
    omega
  all_goals
    have := hX _ f
    omega
theorem ScI.same {w Wc W W' : World} {L : List Int} {most : Int} {v1 v2 : Value} {pre : List Sx} (h : ScI w Wc L most v1 v2 pre W) (k : Kept (fun _ => False) W W') : ScI w Wc L most v1 v2 pre W' := h.keptX k (fun _ f => f.elim)
/-- Behind the first append of a round. -/
structure ScH (w Wc B : World) (v1 v2 : Value) (P : List Nat) (D : List BkD) (x : Sx) (W : World) : Prop where
  two : Two w (Wc.heap.size + 2) (w.heap.size + 1) (w.heap.size + 1 + 1 + 1) W v1 v2 P D
  at_ : x.D.At W
  far : x.D.B ≠ [] → ∀ ad, x.D.a = some ad → Wc.heap.size + 2 ≤ ad.block ∧ v1.ownBlock ≠ some ad.block ∧ v2.ownBlock ≠ some ad.block
  b1 : W.heap[w.heap.size + 1 + 1]? = some (.cells #[v1] 24 (0, 0))
  b2 : W.heap[w.heap.size + 1 + 1 + 1 + 1]? = some (.cells #[v2] 25 (0, 0))
  k : Kept (fun i => i = w.heap.size + 1 + 1 ∨ i = w.heap.size + 1 ∨ Wc.heap.size + 2 ≤ i) B W
  sz : Wc.heap.size + 2 ≤ W.heap.size
theorem sc_first {w Wc A B W1 : World} {L : List Int} {most : Int} {v1 v2 : Value} {pre : List Sx} {x : Sx} {Bx g m cap : Nat} {o ox : Obj} (hI : ScI w Wc L most v1 v2 pre A) (kAB : Kept (fun _ => False) A B) (hM : ScM L pre x A.heap.size B) (hBx : A.heap.size ≤ Bx) (hX : B.heap[Bx]? = some ox)
    (hm : m = (pre.map Sx.p ++ [x.p]).length) (hown : W1.ownsRow w.heap.size 3 1 (.slice (some ⟨g, 0, none⟩) m cap) m (pls (pre.map Sx.p) ++ [.int .i64 x.p])) (hgrow : (B.alloc o).grownBy W1 v1.ownBlock) (hat : v1.ownBlock = some g ∨ g = (B.alloc o).heap.size) :
    W1.heap[w.heap.size + 1 + 1]? = some (.cells #[v1] 24 (0, 0)) ∧ (W1.setCell ⟨w.heap.size + 1 + 1, 0, none⟩ (.slice (some ⟨g, 0, none⟩) m cap)).heap[Bx]? = some ox ∧
    ScH w Wc B (.slice (some ⟨g, 0, none⟩) m cap) v2 (pre.map Sx.p ++ [x.p]) (pre.map Sx.D) x (W1.setCell ⟨w.heap.size + 1 + 1, 0, none⟩ (.slice (some ⟨g, 0, none⟩) m cap)) := by
  have hB := hI.same kAB
  have lo := hI.lo
  have T1 := hB.two.same (Kept.alloc B o)
  have sz1 : B.heap.size + 1 = (B.alloc o).heap.size := by simp
  have szB := hB.sz
  have T2 := T1.int (by omega) hm hown hgrow hat
  have kg := Kept.grown hgrow
  have ka := Kept.alloc B o
  have f1 : ∀ i, v1.ownBlock = some i → i = w.heap.size + 1 ∨ Wc.heap.size + 2 ≤ i := hB.two.f1
  have lt1 : ∀ i, v1.ownBlock = some i → i < A.heap.size := fun i hi => (hI.two.r1.lt i hi).2
  have lt2 : ∀ i, v2.ownBlock = some i → i < A.heap.size := fun i hi => (hI.two.r2.row.lt i hi).2
  have kl : ∀ i, i = w.heap.size + 1 + 1 ∨ i = w.heap.size + 1 + 1 + 1 + 1 → ¬ v1.ownBlock = some i := fun i hi e => by rcases f1 i e with h | h <;> omega
  have e1 := kg.heap (ka.heap hB.b1 (fun f => f)) (kl _ (.inl rfl))
  have e2 := kg.heap (ka.heap hB.b2 (fun f => f)) (kl _ (.inr rfl))
  have ks := Kept.setCell W1 ⟨w.heap.size + 1 + 1, 0, none⟩ (.slice (some ⟨g, 0, none⟩) m cap)
  have sA := hI.sz
  have ob : (Value.slice (some ⟨g, 0, none⟩) m cap).ownBlock = some g := rfl
  obtain ⟨hx, hxa⟩ := hM.at_
  refine ⟨e1, ks.heap (kg.heap (ka.heap hX (fun f => f)) (fun e => ?_)) (fun e => ?_), ⟨T2.keptX ks (fun i hi => ?_), ?_, fun hne ad had => ?_, one_setCell e1, ks.heap e2 (fun e => ?_), ?_, ?_⟩⟩
  · have := lt1 _ e
    omega
  · simp only at e
    omega
  · simp only at hi
    omega
  · refine ((hx.kept ka).far kg (fun hne ad had e => ?_)).far ks (fun hne ad had e => ?_)
    · have := lt1 _ e
      have := (hxa ad had).1
      omega
    · have := (hxa ad had).1
      simp only at e
      omega
  · have h1 := hxa ad had
    refine ⟨by omega, fun e => ?_, fun e => ?_⟩
    · rw [ob] at e
      have e := Option.some.inj e
      rcases hat with h | h
      · have := lt1 g h
        omega
      · omega
    · have := lt2 _ e
      omega
  · simp only at e
    omega
  · refine ((ka.mono fun _ f => f.elim).trans kg (fun i hi => ?_)).trans ks (fun i hi => .inl (.inl hi))
    rcases f1 i hi with h | h
    · exact .inl (.inr (.inl h))
    · exact .inl (.inr (.inr h))
  · have := kg.size
    have := ks.size
    omega
theorem sc_second {w Wc A B W W4 : World} {L : List Int} {most : Int} {v1 v1' v2 : Value} {pre : List Sx} {x : Sx} {g m cap : Nat} {o : Obj} (hI : ScI w Wc L most v1 v2 pre A) (kAB : Kept (fun _ => False) A B) (hM : ScM L pre x A.heap.size B)
    (hH : ScH w Wc B v1' v2 (pre.map Sx.p ++ [x.p]) (pre.map Sx.D) x W) (hlt : pre.length < most.toNat)
    (hm : m = (pre.map Sx.D ++ [x.D]).length) (hown : W4.ownsRow w.heap.size 35 2 (.slice (some ⟨g, 0, none⟩) m cap) m (rowsB (pre.map Sx.D) ++ x.D.cells)) (hgrow : (W.alloc o).grownBy W4 v2.ownBlock) (hat : v2.ownBlock = some g ∨ g = (W.alloc o).heap.size) :
    W4.heap[w.heap.size + 1 + 1 + 1 + 1]? = some (.cells #[v2] 25 (0, 0)) ∧
    Still Wc.heap.size B (W4.setCell ⟨w.heap.size + 1 + 1 + 1 + 1, 0, none⟩ (.slice (some ⟨g, 0, none⟩) m cap)) ∧
    ScI w Wc L most v1' (.slice (some ⟨g, 0, none⟩) m cap) (pre ++ [x]) (W4.setCell ⟨w.heap.size + 1 + 1 + 1 + 1, 0, none⟩ (.slice (some ⟨g, 0, none⟩) m cap)) := by
  have lo := hI.lo
  have hB := hI.same kAB
  have ka := Kept.alloc W o
  have kg := Kept.grown hgrow
  have sz1 : W.heap.size + 1 = (W.alloc o).heap.size := by simp
  have szW := hH.sz
  have T1 := (hH.two.same ka).blk (by omega) (hH.at_.kept ka) hH.far hm hown hgrow hat
  have f2 : ∀ i, v2.ownBlock = some i → i = w.heap.size + 1 + 1 + 1 ∨ Wc.heap.size + 2 ≤ i := hH.two.f2
  have kl : ∀ i, i = w.heap.size ∨ i = w.heap.size + 1 + 1 ∨ i = w.heap.size + 1 + 1 + 1 + 1 → ¬ v2.ownBlock = some i := fun i hi e => by rcases f2 i e with h | h <;> omega
  have e1 := kg.heap (ka.heap hH.b1 (fun f => f)) (kl _ (.inr (.inl rfl)))
  have e2 := kg.heap (ka.heap hH.b2 (fun f => f)) (kl _ (.inr (.inr rfl)))
  have ks := Kept.setCell W4 ⟨w.heap.size + 1 + 1 + 1 + 1, 0, none⟩ (.slice (some ⟨g, 0, none⟩) m cap)
  have kT : Kept (fun i => (w.heap.size + 1 ≤ i ∧ i < w.heap.size + 5) ∨ Wc.heap.size + 2 ≤ i) B (W4.setCell ⟨w.heap.size + 1 + 1 + 1 + 1, 0, none⟩ (.slice (some ⟨g, 0, none⟩) m cap)) := by
    refine (((hH.k.mono fun i hi => .inl ?_).trans ka (fun _ f => f.elim)).trans kg (fun i hi => .inl ?_)).trans ks (fun i hi => .inl ?_)
    · omega
    · rcases f2 i hi with h | h <;> omega
    · simp only at hi
      omega
  refine ⟨e2, Still.of_kept kT (by have := hB.sz; omega) (fun k hk h => by omega), ?_⟩
  obtain ⟨rest, hrest⟩ := hM.come
  refine ⟨?_, kT.heap hB.b0 (fun f => by omega), ks.heap e1 (fun e => ?_), one_setCell e2, hB.kc.trans kT (fun i hi => ?_), by rw [List.length_append]; simp only [List.length_cons, List.length_nil]; omega, ⟨rest, hrest⟩, Nat.le_trans hB.sz kT.size, lo⟩
  · rw [List.map_append, List.map_append]
    refine T1.keptX ks (fun i hi => ?_)
    simp only at hi
    omega
  · simp only at e
    omega
  · rcases hi with h | h
    · exact .inl (by omega)
    · exact .inr (by omega)
end Go.Proofs.YtoglgicmnhklbaaDoor
