import Derived.Test.YtidgofpmnlddaaaGreatDoorMii
import Derived.Deep.AppendLies
import Derived.Deep.RegionLaw
import Derived.ArgAppend
namespace Go.Proofs.YtidgofpmnlddaaaGreatDoor
open Go.ChangeShapes Go.WideShapes Go.ChangeAt Go.RowKit

/-- The first j places marked, the others as they were. -/
def mid (mk : Nat → Nat → Int) (t j : Nat) (l : List Int) : List Int := mis mk t j ++ l.drop j
theorem mid_zero (mk : Nat → Nat → Int) (t : Nat) (l : List Int) : mid mk t 0 l = l := by simp [mid, mis]
theorem mid_all (mk : Nat → Nat → Int) (t : Nat) (l : List Int) : mid mk t l.length l = mis mk t l.length := by simp [mid]
theorem mid_length (mk : Nat → Nat → Int) (t j : Nat) (l : List Int) (h : j ≤ l.length) : (mid mk t j l).length = l.length := by
  rw [mid, List.length_append, mis_length, List.length_drop]; omega
theorem mid_set (mk : Nat → Nat → Int) (t j : Nat) (l : List Int) (h : j < l.length) : (mid mk t j l).set j (mk t j) = mid mk t (j + 1) l := by
  have hm := mis_length mk t j
  have e := List.drop_eq_getElem_cons h
  rw [mid, List.set_append_right _ _ (by omega), hm, Nat.sub_self, mid, mis_succ, List.append_assoc, e]
  rfl
theorem row_setI {W : World} {base g n c j : Nat} {l : List Int} {x : Int} (ho : W.ownsRow base 3 1 (.slice (some ⟨g, 0, none⟩) n c) n (is l)) (hj : j < n) (hn : n = l.length) :
    (W.setCell ⟨g, j, none⟩ (.int .i64 x)).ownsRow base 3 1 (.slice (some ⟨g, 0, none⟩) n c) n (is (l.set j x)) ∧ W.cell? ⟨g, j, none⟩ = some (.int .i64 (l[j]?.getD 0)) ∧ W.frozen? ⟨g, j, none⟩ = false := by
  rcases ho.2 with ⟨e, _⟩ | ⟨g', cap, cur, hv, hb, hg, h1, h2, h3, h4⟩
  · cases e
  simp only [Value.slice.injEq, Option.some.injEq, Addr.mk.injEq, and_true, true_and] at hv
  obtain ⟨rfl, rfl⟩ := hv
  have hc : W.cell? ⟨g, j, none⟩ = some (.int .i64 (l[j]?.getD 0)) := by
    rw [cell_of_row _ _ j _ _ _ hg]
    have h5 : (cur.toList.take (n * 1))[j]? = (is l)[j]? := by rw [h4]
    rw [List.getElem?_take, if_pos (by omega), Array.getElem?_toList] at h5
    rw [h5]
    simp [is, List.getElem?_eq_getElem (show j < l.length by omega)]
  refine ⟨⟨by rw [is_lenM, List.length_set]; omega, .inr ⟨g, c, _, rfl, hb, heap_setCell_same W g j cur _ (.int .i64 x) hg, h1, h2, by simp [h3], ?_⟩⟩, hc, by simp [World.frozen?, hg]⟩
  rw [Array.toList_setIfInBounds, List.take_set, h4]
  simp [is, List.map_set]
theorem own_intsM {w : World} {base g n cap : Nat} {l : List Int} (h : w.ownsRow base 3 1 (.slice (some ⟨g, 0, none⟩) n cap) n (is l)) : IntsAt w (some ⟨g, 0, none⟩) l := by
  have hn : n = l.length := by have := h.1; rw [is_lenM] at this; omega
  rcases h.2 with ⟨e1, e2⟩ | ⟨g', cap', cur, e1, hg, hh, hnc, _⟩
  · cases e1
  · refine fun _ => ⟨g, 0, rfl, fun k hk => ?_⟩
    have q0 := h.cells (g := g) rfl k (.int .i64 (l[k]?.getD 0)) (by unfold is; rw [List.getElem?_map, List.getElem?_eq_getElem hk]; simp)
    rw [Go.WideShapes.add_plain] at q0
    exact q0
/-- A list of lists of bytes, each in memory of its own. -/
structure Owi (w W : World) (b off : Nat) (V : List Value) (X : Nat → List Int) : Prop where
  out : ∀ t (h : t < V.length), W.cell? ⟨b, off + t, none⟩ = some V[t]
  row : ∀ t (h : t < V.length), W.ownsRow 0 3 1 V[t] (X t).length (is (X t))
  kept : Kept (fun k => ∃ v ∈ V, v.ownBlock = some k) w W
structure Apti (b : Nat) (V : List Value) : Prop where
  two : ∀ t s (ht : t < V.length) (hs : s < V.length), t ≠ s → ∀ g, V[t].ownBlock = some g → V[s].ownBlock ≠ some g
  outer : ∀ v ∈ V, v.ownBlock ≠ some b
theorem Owi.put {w W : World} {b off : Nat} {V : List Value} {X X' : Nat → List Int} {i j g n c : Nat} {x : Int} (h : Owi w W b off V X) (ha : Apti b V) (hi : i < V.length) (hv : V[i] = .slice (some ⟨g, 0, none⟩) n c) (hn : n = (X i).length) (hj : j < n) (hX : X' i = (X i).set j x) (hX2 : ∀ t, t ≠ i → X' t = X t) :
    Owi w (W.setCell ⟨g, j, none⟩ (.int .i64 x)) b off V X' := by
  have hr := h.row i hi
  rw [hv, ← hn] at hr
  obtain ⟨r1, r2, r3⟩ := row_setI (x := x) hr hj hn
  have hown : V[i].ownBlock = some g := by rw [hv]; rfl
  have ks := Kept.setCell W ⟨g, j, none⟩ (.int .i64 x)
  refine ⟨fun t ht => ks.cell (h.out t ht) (fun e => ha.outer _ (List.getElem_mem hi) (by rw [hown]; exact congrArg some e.symm)), fun t ht => ?_, h.kept.trans ks (fun k e => .inl ⟨V[i], List.getElem_mem hi, by rw [hown]; exact congrArg some e.symm⟩)⟩
  by_cases hti : t = i
  · subst hti
    rw [hX, List.length_set, ← hn, hv]
    exact r1
  · rw [hX2 t hti]
    exact ks.row (h.row t ht) (fun k e1 e2 => ha.two t i ht hi hti k e1 (by rw [hown]; exact congrArg some e2.symm))
/-- The lists while they grow: V as they came, V2 as they have grown. -/
structure Ogi (mk : Nat → Nat → Int) (w W : World) (b off gb : Nat) (V V2 : List Value) (ns m : Nat → Nat) : Prop where
  len : V2.length = V.length
  out : ∀ t (h : t < V.length), W.cell? ⟨b, off + t, none⟩ = some V[t]
  old : ∀ t (h : t < V.length), ∃ a c, V[t] = .slice a (ns t) c ∧ IntsAt W a (mis mk t (ns t)) ∧ (∀ ad, a = some ad → ad.off = 0 ∧ ad.spot = none)
  outG : ∃ cs : Array Value, W.heap[gb]? = some (.cells cs 24 (0, 0)) ∧ ∀ t (h : t < V2.length), cs[t]? = some V2[t]
  row : ∀ t (h : t < V2.length), W.ownsRow 0 3 1 V2[t] (m t) (is (mis mk t (m t)))
  two : ∀ t s (ht : t < V2.length) (hs : s < V2.length), t ≠ s → ∀ g, V2[t].ownBlock = some g → V2[s].ownBlock ≠ some g
  cross : ∀ t s (ht : t < V2.length) (hs : s < V.length), t ≠ s → ∀ g, V2[t].ownBlock = some g → V[s].ownBlock ≠ some g
  same : ∀ t, t < V.length → ns t ≤ m t
  far : ∀ v ∈ V2, v.ownBlock ≠ some gb ∧ v.ownBlock ≠ some b
  farV : gb ≠ b ∧ ∀ v ∈ V, v.ownBlock ≠ some gb
  new : ∀ v ∈ V2, ∀ g, v.ownBlock = some g → (∃ v' ∈ V, v'.ownBlock = some g) ∨ w.heap.size ≤ g
  newb : w.heap.size ≤ gb
  vlt : ∀ t (h : t < V.length) k, V[t].ownBlock = some k → k < W.heap.size
  blt : b < W.heap.size
  ow : ∀ t (h : t < V.length) g, V[t].ownBlock = some g → ∃ cur : Array Value, W.heap[g]? = some (.cells cur 3 (0, 0)) ∧ ns t ≤ cur.size
  kept : Kept (fun k => ∃ v ∈ V, v.ownBlock = some k) w W
theorem Ogi.same' {mk : Nat → Nat → Int} {w W W' : World} {b off gb : Nat} {V V2 : List Value} {ns m : Nat → Nat} (h : Ogi mk w W b off gb V V2 ns m) (k : Kept (fun _ => False) W W') : Ogi mk w W' b off gb V V2 ns m := by
  obtain ⟨cs, c1, c2⟩ := h.outG
  exact ⟨h.len, fun t ht => k.cell (h.out t ht) (fun f => f), fun t ht => (h.old t ht).imp fun a ⟨c, e, hb, hz⟩ => ⟨c, e, hb.kept k, hz⟩, ⟨cs, k.heap c1 (fun f => f), c2⟩, fun t ht => k.row (h.row t ht) (fun _ _ f => f), h.two, h.cross, h.same, h.far, h.farV, h.new, h.newb, fun t ht j e => Nat.lt_of_lt_of_le (h.vlt t ht j e) k.size, Nat.lt_of_lt_of_le h.blt k.size, fun t ht g e => (h.ow t ht g e).imp fun cur ⟨e1, e2⟩ => ⟨k.heap e1 (fun f => f), e2⟩, h.kept.trans k (fun _ f => f.elim)⟩
/-- grown[i] = append(grown[i], mark). -/
theorem Ogi.grow {mk : Nat → Nat → Int} {w W W1 : World} {b off gb : Nat} {V V2 : List Value} {ns m m' : Nat → Nat} {i g cap : Nat} (h : Ogi mk w W b off gb V V2 ns m) (hi : i < V2.length)
    (hrow : W1.ownsRow 0 3 1 (.slice (some ⟨g, 0, none⟩) (m i + 1) cap) (m i + 1) (is (mis mk i (m i + 1)))) (hat : V2[i].ownBlock = some g ∧ Kept (fun k => k = g) W W1 ∨ W.heap.size ≤ g ∧ Kept (fun _ => False) W W1) (hm : m' i = m i + 1) (hm2 : ∀ t, t ≠ i → m' t = m t) :
    W1.cell? ⟨gb, i, none⟩ = some V2[i] ∧ W1.frozen? ⟨gb, i, none⟩ = false ∧ Ogi mk w (W1.setCell ⟨gb, i, none⟩ (.slice (some ⟨g, 0, none⟩) (m i + 1) cap)) b off gb V (V2.set i (.slice (some ⟨g, 0, none⟩) (m i + 1) cap)) ns m' := by
  obtain ⟨v', hv'⟩ : ∃ v' : Value, v' = .slice (some ⟨g, 0, none⟩) (m i + 1) cap := ⟨_, rfl⟩
  have ho' : v'.ownBlock = some g := by rw [hv']; rfl
  obtain ⟨cs, c1, c2⟩ := h.outG
  have hiV : i < V.length := by rw [← h.len]; exact hi
  have hf := h.far _ (List.getElem_mem hi)
  -- the block that is written is none of the others'
  have kg : Kept (fun k => k = g) W W1 := by
    rcases hat with ⟨_, k⟩ | ⟨_, k⟩
    · exact k
    · exact k.mono (fun _ f => f.elim)
  have gne : ∀ k, k < W.heap.size → V2[i].ownBlock ≠ some k → k ≠ g := by
    intro k hk hne e
    rcases hat with ⟨e1, _⟩ | ⟨e1, _⟩
    · exact hne (by rw [e1, e])
    · omega
  have hgb : gb < W.heap.size := lt_of_block c1
  have gbg : gb ≠ g := gne gb hgb hf.1
  have h1b : W1.heap[gb]? = some (.cells cs 24 (0, 0)) := kg.heap c1 gbg
  have ks := Kept.setCell W1 ⟨gb, i, none⟩ v'
  have hs := heap_setCell_same W1 gb i cs _ v' h1b
  have hci := c2 i hi
  rw [← hv']
  refine ⟨(cell_of_row _ _ i _ _ _ h1b).trans hci, by simp [World.frozen?, h1b], ?_⟩
  have hlenS : (V2.set i v').length = V2.length := List.length_set ..
  have hget : ∀ t (ht : t < (V2.set i v').length), (V2.set i v')[t] = if t = i then v' else V2[t]'(by rw [hlenS] at ht; exact ht) := by
    intro t ht
    rw [List.getElem_set]
    by_cases e : i = t
    · rw [if_pos e, if_pos e.symm]
    · rw [if_neg e, if_neg (fun e' => e e'.symm)]
  have rowlt : ∀ t (ht : t < V2.length) k, V2[t].ownBlock = some k → k < W.heap.size := fun t ht k hk => ((h.row t ht).lt k hk).2
  refine ⟨by rw [hlenS, h.len], fun t ht => ?_, fun t ht => ?_, ⟨_, hs, fun t ht => ?_⟩, fun t ht => ?_, fun t s ht hs' hts k e1 => ?_, fun t s ht hs' hts k e1 => ?_, fun t ht => ?_, fun v hv => ?_, h.farV, fun v hv k hk => ?_, h.newb, fun t ht k e => Nat.lt_of_lt_of_le (h.vlt t ht k e) (Nat.le_trans kg.size ks.size), Nat.lt_of_lt_of_le h.blt (Nat.le_trans kg.size ks.size), fun t ht k e1 => ?_, ?_⟩
  · -- out
    have hb := World.block_lt_of_cell? W _ (h.out t ht)
    refine ks.cell (kg.cell (h.out t ht) (gne b hb hf.2)) (fun e => h.farV.1 e.symm)
  · -- old
    obtain ⟨a, c, e, hb, hz⟩ := h.old t ht
    refine ⟨a, c, e, ?_, hz⟩
    intro hne
    obtain ⟨b', o', ea, hc⟩ := hb hne
    have hVt : V[t].ownBlock = some b' := by rw [e, ea]; rfl
    have hbgb : b' ≠ gb := fun e' => h.farV.2 _ (List.getElem_mem ht) (by rw [hVt, e'])
    have hblt : b' < W.heap.size := World.block_lt_of_cell? W ⟨b', o' + 0, none⟩ (hc 0 (List.length_pos_iff.2 hne))
    by_cases hbg : b' = g
    · -- in place: only where t is i
      have hti : t = i := by
        apply Classical.byContradiction
        intro hne2
        rcases hat with ⟨e1, _⟩ | ⟨e1, _⟩
        · exact h.cross i t hi ht (fun e' => hne2 e'.symm) g e1 (by rw [hVt, hbg])
        · omega
      subst hti
      have hle := h.same t ht
      have ho0 : o' = 0 := by
        have := (hz _ ea).1
        exact this
      refine ⟨b', o', ea, fun k hk => ?_⟩
      rw [mis_length] at hk
      have hcell : W1.cell? ⟨g, k, none⟩ = some (.int .i64 (mk t k)) := by
        obtain ⟨b2, o2, e2, hc2⟩ := own_intsM hrow (by intro e'; have := congrArg List.length e'; rw [mis_length] at this; simp at this)
        simp only [Option.some.injEq, Addr.mk.injEq, and_true] at e2
        obtain ⟨rfl, rfl⟩ := e2
        have := hc2 k (by rw [mis_length]; omega)
        rw [Nat.zero_add, mis_get _ _ _ _ (by omega)] at this
        exact this
      rw [mis_get _ _ _ _ hk, ho0, Nat.zero_add, hbg]
      exact ks.cell hcell (fun e' => gbg e'.symm)
    · exact ⟨b', o', ea, fun k hk => ks.cell (kg.cell (hc k hk) hbg) hbgb⟩
  · -- the outer list of those that grow
    rw [hlenS] at ht
    have hg2 := hget t (by rw [hlenS]; exact ht)
    rw [hg2]
    by_cases e : t = i
    · subst e
      rw [if_pos rfl, Array.getElem?_setIfInBounds_self, if_pos (Array.getElem?_eq_some_iff.1 hci).1]
    · rw [if_neg e, Array.getElem?_setIfInBounds_ne (fun e' => e e'.symm)]
      exact c2 t ht
  · -- rows
    have ht' : t < V2.length := by rw [hlenS] at ht; exact ht
    rw [hget t ht]
    by_cases e : t = i
    · subst e
      rw [if_pos rfl, hm]
      have hrow' := hrow
      rw [← hv'] at hrow'
      exact ks.row hrow' (fun k e1 e2 => gbg (by rw [ho'] at e1; rw [Option.some.inj e1]; exact e2.symm))
    · rw [if_neg e, hm2 t e]
      refine ks.row (kg.row (h.row t ht') (fun k e1 => gne k (rowlt t ht' k e1) (fun e2 => h.two t i ht' hi e k e1 e2))) (fun k e1 e2 => (h.far _ (List.getElem_mem ht')).1 (by rw [e1]; exact congrArg some e2))
  · -- two
    have ht' : t < V2.length := by rw [hlenS] at ht; exact ht
    have hs2 : s < V2.length := by rw [hlenS] at hs'; exact hs'
    rw [hget t ht] at e1
    rw [hget s hs']
    by_cases e : t = i
    · rw [if_pos e] at e1
      rw [if_neg (fun e' => hts (e.trans e'.symm))]
      intro e2
      have hkg : k = g := by rw [ho'] at e1; exact (Option.some.inj e1).symm
      rcases hat with ⟨q1, _⟩ | ⟨q1, _⟩
      · exact h.two s i hs2 hi (fun e' => hts (e.trans e'.symm)) k e2 (by rw [q1, hkg])
      · have := rowlt s hs2 k e2
        omega
    · rw [if_neg e] at e1
      by_cases e3 : s = i
      · rw [if_pos e3]
        intro e2
        have hkg : k = g := by rw [ho'] at e2; exact (Option.some.inj e2).symm
        exact gne k (rowlt t ht' k e1) (fun q => h.two t i ht' hi e k e1 q) hkg
      · rw [if_neg e3]
        exact h.two t s ht' hs2 hts k e1
  · -- cross
    have ht' : t < V2.length := by rw [hlenS] at ht; exact ht
    rw [hget t ht] at e1
    by_cases e : t = i
    · rw [if_pos e] at e1
      have hkg : k = g := by rw [ho'] at e1; exact (Option.some.inj e1).symm
      rcases hat with ⟨q1, _⟩ | ⟨q1, _⟩
      · subst e
        exact h.cross t s hi hs' hts k (by rw [q1, hkg])
      · intro e2
        obtain ⟨a, c, e3, hb, hz⟩ := h.old s hs'
        rw [e3] at e2
        have hlt : k < W.heap.size := by
          have hcell := h.out s hs'
          exact h.vlt s hs' k (by rw [e3]; exact e2)
        omega
    · rw [if_neg e] at e1
      exact h.cross t s ht' hs' hts k e1
  · -- lengths
    by_cases e : t = i
    · subst e
      rw [hm]
      have := h.same t ht
      omega
    · rw [hm2 t e]
      exact h.same t ht
  · -- far
    rcases List.mem_or_eq_of_mem_set hv with hv | rfl
    · exact h.far v hv
    · rw [ho']
      refine ⟨fun e => gbg (Option.some.inj e).symm, fun e => ?_⟩
      rcases hat with ⟨q1, _⟩ | ⟨q1, _⟩
      · exact hf.2 (by rw [q1]; exact e)
      · have hbl := h.blt
        have := Option.some.inj e
        omega
  · -- new
    rcases List.mem_or_eq_of_mem_set hv with hv | rfl
    · exact h.new v hv k hk
    · rw [ho'] at hk
      have hkg := Option.some.inj hk
      rcases hat with ⟨q1, _⟩ | ⟨q1, _⟩
      · exact h.new _ (List.getElem_mem hi) k (by rw [q1, hkg])
      · have := h.kept.size
        exact .inr (by omega)
  · -- ow
    obtain ⟨cur, hcur, hle⟩ := h.ow t ht k e1
    have hkgb : k ≠ gb := fun e' => h.farV.2 _ (List.getElem_mem ht) (by rw [e1, e'])
    by_cases hkg : k = g
    · have hti : t = i := by
        apply Classical.byContradiction
        intro hne2
        rcases hat with ⟨q1, _⟩ | ⟨q1, _⟩
        · exact h.cross i t hi ht (fun e' => hne2 e'.symm) g q1 (by rw [e1, hkg])
        · have := lt_of_block hcur
          omega
      subst hti
      have hle2 := h.same t ht
      rcases hrow.2 with ⟨e2, _⟩ | ⟨g2, cap2, cur2, e2, _, hg2, hn2, _, hs2, _⟩
      · simp at e2
      · simp only [Value.slice.injEq, Option.some.injEq, Addr.mk.injEq, and_true, true_and] at e2
        obtain ⟨e3, e4⟩ := e2
        rw [← e3, ← hkg] at hg2
        exact ⟨cur2, ks.heap hg2 hkgb, by omega⟩
    · exact ⟨cur, ks.heap (kg.heap hcur hkg) hkgb, hle⟩
  · -- kept
    refine (h.kept.trans kg ?_).trans ks ?_
    · intro k e
      rcases hat with ⟨q1, _⟩ | ⟨q1, _⟩
      · exact h.new _ (List.getElem_mem hi) k (by rw [q1, e])
      · have := h.kept.size
        exact .inr (by omega)
    · intro k e
      have := h.newb
      exact .inr (by simp only at e; omega)
theorem row_pushI {W : World} {base k n c : Nat} {l : List Int} {x : Int} (ho : W.ownsRow base 3 1 (.slice (some ⟨k, 0, none⟩) n c) n (is l)) (hn : n = l.length) (hc : n + 1 ≤ c) :
    (W.setCell ⟨k, n, none⟩ (.int .i64 x)).ownsRow base 3 1 (.slice (some ⟨k, 0, none⟩) (n + 1) c) (n + 1) (is (l ++ [x])) ∧ (W.cell? ⟨k, n, none⟩).isSome = true ∧ W.frozen? ⟨k, n, none⟩ = false := by
  rcases ho.2 with ⟨e, _⟩ | ⟨g', cap, cur, hv, hb, hg, h1, h2, h3, h4⟩
  · cases e
  simp only [Value.slice.injEq, Option.some.injEq, Addr.mk.injEq, and_true, true_and] at hv
  obtain ⟨rfl, rfl⟩ := hv
  have hlt : n < cur.size := by omega
  refine ⟨⟨by rw [is_lenM, List.length_append]; simp; omega, .inr ⟨k, c, _, rfl, hb, heap_setCell_same W k n cur _ (.int .i64 x) hg, hc, h2, by simp [h3], ?_⟩⟩, ?_, by simp [World.frozen?, hg]⟩
  · rw [Array.toList_setIfInBounds, Nat.mul_one, List.take_add_one, List.take_set_of_le (by omega), is_appM]
    rw [Nat.mul_one] at h4
    rw [h4, List.getElem?_set_self (by simpa using hlt)]
    rfl
  · rw [cell_of_row _ _ n _ _ _ hg, Array.getElem?_eq_getElem hlt]
    rfl
/-- The append of a mark, as one step of a region that draws. -/
theorem step_growI {mk : Nat → Nat → Int} {W : World} {v : Value} {t m : Nat} {ops : Array Oper} {o : Oper} {a : Act} {K : Act → World → Prop} {Q : Exit → Act → World → Prop} {E : Prop} (hgd : o.guard = none) (s x : Operand)
    (ho : o.op = .call { callee := .builtin .append, args := #[s, x], argTypes := #[24, 24] }) (hrow : W.ownsRow 0 3 1 v m (is (mis mk t m))) (hs : a.eval s = v) (ad : Nat) (c : Nat) (hx : a.eval x = .slice (some ⟨ad, 0, none⟩) 1 c) (hc : W.cell? ⟨ad, 0, none⟩ = some (.int .i64 (mk t m))) (hm : m ≤ 1099511627000)
    (h : ∀ g cap W1, W1.ownsRow 0 3 1 (.slice (some ⟨g, 0, none⟩) (m + 1) cap) (m + 1) (is (mis mk t (m + 1))) → (v.ownBlock = some g ∧ Kept (fun k => k = g) W W1 ∨ W.heap.size ≤ g ∧ Kept (fun _ => False) W W1) → K (a.put o.dst (.slice (some ⟨g, 0, none⟩) (m + 1) cap)) W1) :
    if Region.wanted o (yielded ops a.tmps) = true then Oper.wp Tryz.prog o a W K Q else E := by
  obtain ⟨i0, hi, hz0, hz1, hz2⟩ := info_partsP Tryz.infoI
  have hnews : ∀ j u, (is [mk t m])[j]? = some u → W.cell? ((⟨ad, 0, none⟩ : Addr).add j) = some u := by
    intro j u hj
    match j, hj with
    | 0, hj => simp only [is, List.map_cons, List.map_nil, List.getElem?_cons_zero, Option.some.injEq] at hj; subst hj; simpa [Addr.add] using hc
  have hms : is (mis mk t m) ++ is [mk t m] = is (mis mk t (m + 1)) := by rw [mis_succ, is_appM]
  rcases hrow.2 with ⟨rfl, h0⟩ | ⟨k, cap, cur, rfl, hb, hg, h1, h2, h3, h4⟩
  · refine step_append_lies (w := W) hgd s x 24 ho 0 3 i0 (.int .i64 0) 1 8 Tryz.underlying24 hi hz0 hz1 hz2 rfl (by decide) _ m (is (mis mk t m)) hs hrow ⟨ad, 0, none⟩ 1 c (is [mk t m]) hx rfl hnews (is_oneM _) (by decide) (by unfold maxLen; omega) (by omega) (Nat.zero_le _) _ rfl ?_
    intro g cap w' r1 r2 r3 _
    rw [hms] at r1
    refine h g cap w' r1 (.inr ⟨?_, (Kept.grown r2).mono (fun _ e => by cases e)⟩)
    rcases r3 with e | e
    · cases e
    · omega
  · by_cases hroom : m + 1 ≤ cap
    · obtain ⟨q1, q2, q3⟩ := row_pushI (x := mk t m) hrow (mis_length mk t m).symm hroom
      refine step_append_room hgd s x 24 ho 3 i0 1 Tryz.underlying24 hi hz1 k 0 m cap hs ⟨ad, 0, none⟩ 1 c (is [mk t m]) hx rfl hnews (is_oneM _) hroom ?_ ?_
      · intro j hj
        have : j = 0 := by simp [is] at hj; omega
        subst this
        simp only [Nat.zero_add, Nat.mul_one, Nat.add_zero]
        exact ⟨q2, q3⟩
      · have e : W.setCells k (0 + m * 1) (is [mk t m]) = W.setCell ⟨k, m, none⟩ (.int .i64 (mk t m)) := by
          rw [Nat.zero_add, Nat.mul_one]; rfl
        rw [e]
        rw [← mis_succ] at q1
        exact h k cap _ q1 (.inl ⟨rfl, Kept.setCell W ⟨k, m, none⟩ _⟩)
    · have hw : Region.wanted o (yielded ops a.tmps) = true := by simp [Region.wanted, hgd]
      rw [if_pos hw]
      have holds : ∀ j u, (is (mis mk t m))[j]? = some u → W.cell? ((⟨k, 0, none⟩ : Addr).add j) = some u := by
        intro j u hj
        rw [← h4, List.getElem?_take] at hj
        split at hj
        · have hadd : (⟨k, 0, none⟩ : Addr).add j = ⟨k, j, none⟩ := by rw [Go.WideShapes.add_plain, Nat.zero_add]
          rw [hadd, cell_of_row _ _ j _ _ _ hg]
          simpa using hj
        · cases hj
      obtain ⟨v', w', hrun, r1, r2⟩ := run_append_arg_grows (P := Tryz.prog) (w := W) 24 o.type 3 i0 (.int .i64 0) 1 8 Tryz.underlying24 hi hz0 hz1 hz2 rfl (by decide) ⟨k, 0, none⟩ m cap (is (mis mk t m)) (by rw [is_lenM, mis_length]; omega) holds ⟨ad, 0, none⟩ 1 c (is [mk t m]) rfl hnews (by omega) (by unfold maxLen; omega) (by omega)
      rw [hms] at r1
      rcases r1.2 with ⟨_, e⟩ | ⟨g, cap', cur', rfl, hb', r⟩
      · omega
      unfold Oper.wp
      simp [execOp, ho, resolve, invoke, builtin, hs, hx, hrun, Result.andThen]
      exact h g cap' w' ⟨r1.1, .inr ⟨g, cap', cur', rfl, Nat.zero_le _, r⟩⟩ (.inr ⟨hb', (Kept.grown r2).mono (fun _ e => by cases e)⟩)
end Go.Proofs.YtidgofpmnlddaaaGreatDoor
