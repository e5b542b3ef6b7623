import Derived.Test.YtiebmmpnmklpnaaDoorRows
import Derived.WalkKit
import Derived.OrdersHeld
import Derived.Test.YtiebmmpnmklpnaaDoorGro
import Derived.Test.YtiebmmpnmklpnaaDoorIzb
import Derived.Test.YtiebmmpnmklpnaaDoorWrG
import Derived.Test.YtiebmmpnmklpnaaDoorIs
import Derived.Test.YtiebmmpnmklpnaaDoorPgm
import Derived.Laws.MakeOwn
import Derived.Laws.AppendOwnNone
import Derived.BigQuiet
import Derived.Deep.RegionWith
import Derived.Deep.AppendLies
import Derived.Deep.RegionLaw
import Derived.ArgAppend
namespace Go.Proofs.YtiebmmpnmklpnaaDoor
open Go.RowKit
/-- Whatever the world. -/
def AnyZ (_ : World) : Prop := True
theorem anyZ (W : World) : AnyZ W := trivial
theorem takeZ {P : Program} {ops : Array Oper} {Q : Exit → Act → World → Prop} {md : Region.Mode} {S : World → Prop} {i d : Nat} {oi : Oper} {v : Value} {fuel : Nat} {listed : Array Bool} {a : Act} {w : World} (hi : ops[i]? = some oi) (hd : oi.dst = some d)
    (hs : Region.noSelect ops = true) (hf : Region.free md ops listed i = true) (hr : (Region.ready md ops listed).contains i = true)
    (hQ : ∀ c a w, Q (.panic c) (a.put (some d) v) w → Q (.panic c) a w) (hy : YieldsIf P ops S oi v a) (hS : S w)
    (h : wpAnyH P md ops Q S fuel (listed.setIfInBounds i true) (a.put (some d) v) w) : wpAnyH P md ops Q S (fuel + 1) listed a w := by
  rw [← hd] at hQ h
  exact wpAnyH_take hi hs hf hr hQ hy hS h
end Go.Proofs.YtiebmmpnmklpnaaDoor
namespace Go.Proofs.YtiebmmpnmklpnaaDoor
open Go.ChangeShapes Go.WideShapes Go.ChangeAt Go.RowKit


/-- What Mark answers hangs on its two numbers alone. -/
def MarkIV (mk : Nat → Nat → Int) : Prop := ∀ (i j : Nat), i < 281474976710656 → j < 281474976710656 → ∀ w, Calls Tryd.prog 29 #[.int .i64 i, .int .i64 j] w fun e w' => e = .returned (.int .i64 (mk i j)) ∧ w' = w
set_option maxRecDepth 20000 in
set_option maxHeartbeats 1000000 in
theorem markI_oneV (i j : Nat) (hi : i < 281474976710656) (hj : j < 281474976710656) : ∃ m : Int, ∀ w, Calls Tryd.prog 29 #[.int .i64 i, .int .i64 j] w fun e w' => e = .returned (.int .i64 m) ∧ w' = w := by
  apply Exists.intro
  case h =>
    intro w
    go_enter Tryd.func29, Tryd.ntmps29
    go_wp2
    go_ret
    exact ⟨rfl, rfl⟩
theorem markI_funV : ∃ mk, MarkIV mk := by
  have h : ∀ i j : Nat, ∃ m : Int, i < 281474976710656 → j < 281474976710656 → ∀ w, Calls Tryd.prog 29 #[.int .i64 i, .int .i64 j] w fun e w' => e = .returned (.int .i64 m) ∧ w' = w := by
    intro i j
    by_cases hi : i < 281474976710656
    · by_cases hj : j < 281474976710656
      · obtain ⟨m, hm⟩ := markI_oneV i j hi hj
        exact ⟨m, fun _ _ => hm⟩
      · exact ⟨0, fun _ h => (hj h).elim⟩
    · exact ⟨0, fun h => (hi h).elim⟩
  exact ⟨fun i j => Classical.choose (h i j), fun i j hi hj w => Classical.choose_spec (h i j) hi hj w⟩
def misV (mk : Nat → Nat → Int) (i n : Nat) : List Int := (List.range n).map (mk i)
theorem mis_lengthV (mk : Nat → Nat → Int) (i n : Nat) : (misV mk i n).length = n := by simp [misV]
theorem mis_succV (mk : Nat → Nat → Int) (i n : Nat) : misV mk i (n + 1) = misV mk i n ++ [mk i n] := by simp [misV, List.range_succ]
theorem mis_getV (mk : Nat → Nat → Int) (i n j : Nat) (h : j < n) : (misV mk i n)[j]?.getD 0 = mk i j := by simp [misV, h]
theorem is_lenMV (l : List Int) : (is l).length = l.length := List.length_map ..
theorem is_appMV (a b : List Int) : is (a ++ b) = is a ++ is b := List.map_append
theorem is_oneMV (l : List Int) : ∀ u ∈ is l, u.oneCell' = true := by
  intro u hu
  obtain ⟨x, _, rfl⟩ := List.mem_map.1 hu
  rfl
theorem ints_cellsMV {W : World} {b off : Nat} {l : List Int} (h : ∀ k, k < l.length → W.cell? ⟨b, off + k, none⟩ = some (.int .i64 (l[k]?.getD 0))) : ∀ j u, (is l)[j]? = some u → W.cell? ((⟨b, off, none⟩ : Addr).add j) = some u := by
  intro j u hu
  unfold is at hu
  rw [List.getElem?_map] at hu
  rcases Nat.lt_or_ge j l.length with q | q
  · rw [List.getElem?_eq_getElem q] at hu
    simp only [Option.map_some, Option.some.injEq] at hu
    have := h j q
    rw [List.getElem?_eq_getElem q] at this
    rw [Go.WideShapes.add_plain, this, ← hu]
    rfl
  · rw [List.getElem?_eq_none q] at hu
    cases hu
end Go.Proofs.YtiebmmpnmklpnaaDoor
namespace Go.Proofs.YtiebmmpnmklpnaaDoor
open Go.ChangeShapes Go.WideShapes Go.ChangeAt Go.RowKit

/-- The first j places marked, the others as they were. -/
def midV (mk : Nat → Nat → Int) (t j : Nat) (l : List Int) : List Int := misV mk t j ++ l.drop j
theorem mid_zeroV (mk : Nat → Nat → Int) (t : Nat) (l : List Int) : midV mk t 0 l = l := by simp [midV, misV]
theorem mid_allV (mk : Nat → Nat → Int) (t : Nat) (l : List Int) : midV mk t l.length l = misV mk t l.length := by simp [midV]
theorem mid_lengthV (mk : Nat → Nat → Int) (t j : Nat) (l : List Int) (h : j ≤ l.length) : (midV mk t j l).length = l.length := by
  rw [midV, List.length_append, mis_lengthV, List.length_drop]; omega
theorem mid_setV (mk : Nat → Nat → Int) (t j : Nat) (l : List Int) (h : j < l.length) : (midV mk t j l).set j (mk t j) = midV mk t (j + 1) l := by
  have hm := mis_lengthV mk t j
  have e := List.drop_eq_getElem_cons h
  rw [midV, List.set_append_right _ _ (by omega), hm, Nat.sub_self, midV, mis_succV, List.append_assoc, e]
  rfl
theorem row_setIV {W : World} {base g n c j : Nat} {l : List Int} {x : Int} (ho : W.ownsRow base 3 1 (.slice (some ⟨g, 0, none⟩) n c) n (is l)) (hj : j < n) (hn : n = l.length) :
    (W.setCell ⟨g, j, none⟩ (.int .i64 x)).ownsRow base 3 1 (.slice (some ⟨g, 0, none⟩) n c) n (is (l.set j x)) ∧ W.cell? ⟨g, j, none⟩ = some (.int .i64 (l[j]?.getD 0)) ∧ W.frozen? ⟨g, j, none⟩ = false := by
  rcases ho.2 with ⟨e, _⟩ | ⟨g', cap, cur, hv, hb, hg, h1, h2, h3, h4⟩
  · cases e
  simp only [Value.slice.injEq, Option.some.injEq, Addr.mk.injEq, and_true, true_and] at hv
  obtain ⟨rfl, rfl⟩ := hv
  have hc : W.cell? ⟨g, j, none⟩ = some (.int .i64 (l[j]?.getD 0)) := by
    rw [cell_of_row _ _ j _ _ _ hg]
    have h5 : (cur.toList.take (n * 1))[j]? = (is l)[j]? := by rw [h4]
    rw [List.getElem?_take, if_pos (by omega), Array.getElem?_toList] at h5
    rw [h5]
    simp [is, List.getElem?_eq_getElem (show j < l.length by omega)]
  refine ⟨⟨by rw [is_lenMV, List.length_set]; omega, .inr ⟨g, c, _, rfl, hb, heap_setCell_same W g j cur _ (.int .i64 x) hg, h1, h2, by simp [h3], ?_⟩⟩, hc, by simp [World.frozen?, hg]⟩
  rw [Array.toList_setIfInBounds, List.take_set, h4]
  simp [is, List.map_set]
theorem own_intsMV {w : World} {base g n cap : Nat} {l : List Int} (h : w.ownsRow base 3 1 (.slice (some ⟨g, 0, none⟩) n cap) n (is l)) : IntsAt w (some ⟨g, 0, none⟩) l := by
  have hn : n = l.length := by have := h.1; rw [is_lenMV] at this; omega
  rcases h.2 with ⟨e1, e2⟩ | ⟨g', cap', cur, e1, hg, hh, hnc, _⟩
  · cases e1
  · refine fun _ => ⟨g, 0, rfl, fun k hk => ?_⟩
    have q0 := h.cells (g := g) rfl k (.int .i64 (l[k]?.getD 0)) (by unfold is; rw [List.getElem?_map, List.getElem?_eq_getElem hk]; simp)
    rw [Go.WideShapes.add_plain] at q0
    exact q0
/-- A list of lists of bytes, each in memory of its own. -/
structure OwiV (w W : World) (b off : Nat) (V : List Value) (X : Nat → List Int) : Prop where
  out : ∀ t (h : t < V.length), W.cell? ⟨b, off + t, none⟩ = some V[t]
  row : ∀ t (h : t < V.length), W.ownsRow 0 3 1 V[t] (X t).length (is (X t))
  kept : Kept (fun k => ∃ v ∈ V, v.ownBlock = some k) w W
structure AptiV (b : Nat) (V : List Value) : Prop where
  two : ∀ t s (ht : t < V.length) (hs : s < V.length), t ≠ s → ∀ g, V[t].ownBlock = some g → V[s].ownBlock ≠ some g
  outer : ∀ v ∈ V, v.ownBlock ≠ some b
theorem OwiV.put {w W : World} {b off : Nat} {V : List Value} {X X' : Nat → List Int} {i j g n c : Nat} {x : Int} (h : OwiV w W b off V X) (ha : AptiV b V) (hi : i < V.length) (hv : V[i] = .slice (some ⟨g, 0, none⟩) n c) (hn : n = (X i).length) (hj : j < n) (hX : X' i = (X i).set j x) (hX2 : ∀ t, t ≠ i → X' t = X t) :
    OwiV w (W.setCell ⟨g, j, none⟩ (.int .i64 x)) b off V X' := by
  have hr := h.row i hi
  rw [hv, ← hn] at hr
  obtain ⟨r1, r2, r3⟩ := row_setIV (x := x) hr hj hn
  have hown : V[i].ownBlock = some g := by rw [hv]; rfl
  have ks := Kept.setCell W ⟨g, j, none⟩ (.int .i64 x)
  refine ⟨fun t ht => ks.cell (h.out t ht) (fun e => ha.outer _ (List.getElem_mem hi) (by rw [hown]; exact congrArg some e.symm)), fun t ht => ?_, h.kept.trans ks (fun k e => .inl ⟨V[i], List.getElem_mem hi, by rw [hown]; exact congrArg some e.symm⟩)⟩
  by_cases hti : t = i
  · subst hti
    rw [hX, List.length_set, ← hn, hv]
    exact r1
  · rw [hX2 t hti]
    exact ks.row (h.row t ht) (fun k e1 e2 => ha.two t i ht hi hti k e1 (by rw [hown]; exact congrArg some e2.symm))
/-- The lists while they grow: V as they came, V2 as they have grown. -/
structure OgiV (mk : Nat → Nat → Int) (w W : World) (b off gb : Nat) (V V2 : List Value) (ns m : Nat → Nat) : Prop where
  len : V2.length = V.length
  out : ∀ t (h : t < V.length), W.cell? ⟨b, off + t, none⟩ = some V[t]
  old : ∀ t (h : t < V.length), ∃ a c, V[t] = .slice a (ns t) c ∧ IntsAt W a (misV mk t (ns t)) ∧ (∀ ad, a = some ad → ad.off = 0 ∧ ad.spot = none)
  outG : ∃ cs : Array Value, W.heap[gb]? = some (.cells cs 22 (0, 0)) ∧ ∀ t (h : t < V2.length), cs[t]? = some V2[t]
  row : ∀ t (h : t < V2.length), W.ownsRow 0 3 1 V2[t] (m t) (is (misV mk t (m t)))
  two : ∀ t s (ht : t < V2.length) (hs : s < V2.length), t ≠ s → ∀ g, V2[t].ownBlock = some g → V2[s].ownBlock ≠ some g
  cross : ∀ t s (ht : t < V2.length) (hs : s < V.length), t ≠ s → ∀ g, V2[t].ownBlock = some g → V[s].ownBlock ≠ some g
  same : ∀ t, t < V.length → ns t ≤ m t
  far : ∀ v ∈ V2, v.ownBlock ≠ some gb ∧ v.ownBlock ≠ some b
  farV : gb ≠ b ∧ ∀ v ∈ V, v.ownBlock ≠ some gb
  new : ∀ v ∈ V2, ∀ g, v.ownBlock = some g → (∃ v' ∈ V, v'.ownBlock = some g) ∨ w.heap.size ≤ g
  newb : w.heap.size ≤ gb
  vlt : ∀ t (h : t < V.length) k, V[t].ownBlock = some k → k < W.heap.size
  blt : b < W.heap.size
  ow : ∀ t (h : t < V.length) g, V[t].ownBlock = some g → ∃ cur : Array Value, W.heap[g]? = some (.cells cur 3 (0, 0)) ∧ ns t ≤ cur.size
  kept : Kept (fun k => ∃ v ∈ V, v.ownBlock = some k) w W
theorem OgiV.same' {mk : Nat → Nat → Int} {w W W' : World} {b off gb : Nat} {V V2 : List Value} {ns m : Nat → Nat} (h : OgiV mk w W b off gb V V2 ns m) (k : Kept (fun _ => False) W W') : OgiV mk w W' b off gb V V2 ns m := by
  obtain ⟨cs, c1, c2⟩ := h.outG
  exact ⟨h.len, fun t ht => k.cell (h.out t ht) (fun f => f), fun t ht => (h.old t ht).imp fun a ⟨c, e, hb, hz⟩ => ⟨c, e, hb.keptI k, hz⟩, ⟨cs, k.heap c1 (fun f => f), c2⟩, fun t ht => k.row (h.row t ht) (fun _ _ f => f), h.two, h.cross, h.same, h.far, h.farV, h.new, h.newb, fun t ht j e => Nat.lt_of_lt_of_le (h.vlt t ht j e) k.size, Nat.lt_of_lt_of_le h.blt k.size, fun t ht g e => (h.ow t ht g e).imp fun cur ⟨e1, e2⟩ => ⟨k.heap e1 (fun f => f), e2⟩, h.kept.trans k (fun _ f => f.elim)⟩
/-- grown[i] = append(grown[i], mark). -/
theorem OgiV.grow {mk : Nat → Nat → Int} {w W W1 : World} {b off gb : Nat} {V V2 : List Value} {ns m m' : Nat → Nat} {i g cap : Nat} (h : OgiV mk w W b off gb V V2 ns m) (hi : i < V2.length)
    (hrow : W1.ownsRow 0 3 1 (.slice (some ⟨g, 0, none⟩) (m i + 1) cap) (m i + 1) (is (misV mk i (m i + 1)))) (hat : V2[i].ownBlock = some g ∧ Kept (fun k => k = g) W W1 ∨ W.heap.size ≤ g ∧ Kept (fun _ => False) W W1) (hm : m' i = m i + 1) (hm2 : ∀ t, t ≠ i → m' t = m t) :
    W1.cell? ⟨gb, i, none⟩ = some V2[i] ∧ W1.frozen? ⟨gb, i, none⟩ = false ∧ OgiV mk w (W1.setCell ⟨gb, i, none⟩ (.slice (some ⟨g, 0, none⟩) (m i + 1) cap)) b off gb V (V2.set i (.slice (some ⟨g, 0, none⟩) (m i + 1) cap)) ns m' := by
  obtain ⟨v', hv'⟩ : ∃ v' : Value, v' = .slice (some ⟨g, 0, none⟩) (m i + 1) cap := ⟨_, rfl⟩
  have ho' : v'.ownBlock = some g := by rw [hv']; rfl
  obtain ⟨cs, c1, c2⟩ := h.outG
  have hiV : i < V.length := by rw [← h.len]; exact hi
  have hf := h.far _ (List.getElem_mem hi)
  -- the block that is written is none of the others'
  have kg : Kept (fun k => k = g) W W1 := by
    rcases hat with ⟨_, k⟩ | ⟨_, k⟩
    · exact k
    · exact k.mono (fun _ f => f.elim)
  have gne : ∀ k, k < W.heap.size → V2[i].ownBlock ≠ some k → k ≠ g := by
    intro k hk hne e
    rcases hat with ⟨e1, _⟩ | ⟨e1, _⟩
    · exact hne (by rw [e1, e])
    · omega
  have hgb : gb < W.heap.size := lt_of_block c1
  have gbg : gb ≠ g := gne gb hgb hf.1
  have h1b : W1.heap[gb]? = some (.cells cs 22 (0, 0)) := kg.heap c1 gbg
  have ks := Kept.setCell W1 ⟨gb, i, none⟩ v'
  have hs := heap_setCell_same W1 gb i cs _ v' h1b
  have hci := c2 i hi
  rw [← hv']
  refine ⟨(cell_of_row _ _ i _ _ _ h1b).trans hci, by simp [World.frozen?, h1b], ?_⟩
  have hlenS : (V2.set i v').length = V2.length := List.length_set ..
  have hget : ∀ t (ht : t < (V2.set i v').length), (V2.set i v')[t] = if t = i then v' else V2[t]'(by rw [hlenS] at ht; exact ht) := by
    intro t ht
    rw [List.getElem_set]
    by_cases e : i = t
    · rw [if_pos e, if_pos e.symm]
    · rw [if_neg e, if_neg (fun e' => e e'.symm)]
  have rowlt : ∀ t (ht : t < V2.length) k, V2[t].ownBlock = some k → k < W.heap.size := fun t ht k hk => ((h.row t ht).lt k hk).2
  refine ⟨by rw [hlenS, h.len], fun t ht => ?_, fun t ht => ?_, ⟨_, hs, fun t ht => ?_⟩, fun t ht => ?_, fun t s ht hs' hts k e1 => ?_, fun t s ht hs' hts k e1 => ?_, fun t ht => ?_, fun v hv => ?_, h.farV, fun v hv k hk => ?_, h.newb, fun t ht k e => Nat.lt_of_lt_of_le (h.vlt t ht k e) (Nat.le_trans kg.size ks.size), Nat.lt_of_lt_of_le h.blt (Nat.le_trans kg.size ks.size), fun t ht k e1 => ?_, ?_⟩
  · -- out
    have hb := World.block_lt_of_cell? W _ (h.out t ht)
    refine ks.cell (kg.cell (h.out t ht) (gne b hb hf.2)) (fun e => h.farV.1 e.symm)
  · -- old
    obtain ⟨a, c, e, hb, hz⟩ := h.old t ht
    refine ⟨a, c, e, ?_, hz⟩
    intro hne
    obtain ⟨b', o', ea, hc⟩ := hb hne
    have hVt : V[t].ownBlock = some b' := by rw [e, ea]; rfl
    have hbgb : b' ≠ gb := fun e' => h.farV.2 _ (List.getElem_mem ht) (by rw [hVt, e'])
    have hblt : b' < W.heap.size := World.block_lt_of_cell? W ⟨b', o' + 0, none⟩ (hc 0 (List.length_pos_iff.2 hne))
    by_cases hbg : b' = g
    · -- in place: only where t is i
      have hti : t = i := by
        apply Classical.byContradiction
        intro hne2
        rcases hat with ⟨e1, _⟩ | ⟨e1, _⟩
        · exact h.cross i t hi ht (fun e' => hne2 e'.symm) g e1 (by rw [hVt, hbg])
        · omega
      subst hti
      have hle := h.same t ht
      have ho0 : o' = 0 := by
        have := (hz _ ea).1
        exact this
      refine ⟨b', o', ea, fun k hk => ?_⟩
      rw [mis_lengthV] at hk
      have hcell : W1.cell? ⟨g, k, none⟩ = some (.int .i64 (mk t k)) := by
        obtain ⟨b2, o2, e2, hc2⟩ := own_intsMV hrow (by intro e'; have := congrArg List.length e'; rw [mis_lengthV] at this; simp at this)
        simp only [Option.some.injEq, Addr.mk.injEq, and_true] at e2
        obtain ⟨rfl, rfl⟩ := e2
        have := hc2 k (by rw [mis_lengthV]; omega)
        rw [Nat.zero_add, mis_getV _ _ _ _ (by omega)] at this
        exact this
      rw [mis_getV _ _ _ _ hk, ho0, Nat.zero_add, hbg]
      exact ks.cell hcell (fun e' => gbg e'.symm)
    · exact ⟨b', o', ea, fun k hk => ks.cell (kg.cell (hc k hk) hbg) hbgb⟩
  · -- the outer list of those that grow
    rw [hlenS] at ht
    have hg2 := hget t (by rw [hlenS]; exact ht)
    rw [hg2]
    by_cases e : t = i
    · subst e
      rw [if_pos rfl, Array.getElem?_setIfInBounds_self, if_pos (Array.getElem?_eq_some_iff.1 hci).1]
    · rw [if_neg e, Array.getElem?_setIfInBounds_ne (fun e' => e e'.symm)]
      exact c2 t ht
  · -- rows
    have ht' : t < V2.length := by rw [hlenS] at ht; exact ht
    rw [hget t ht]
    by_cases e : t = i
    · subst e
      rw [if_pos rfl, hm]
      have hrow' := hrow
      rw [← hv'] at hrow'
      exact ks.row hrow' (fun k e1 e2 => gbg (by rw [ho'] at e1; rw [Option.some.inj e1]; exact e2.symm))
    · rw [if_neg e, hm2 t e]
      refine ks.row (kg.row (h.row t ht') (fun k e1 => gne k (rowlt t ht' k e1) (fun e2 => h.two t i ht' hi e k e1 e2))) (fun k e1 e2 => (h.far _ (List.getElem_mem ht')).1 (by rw [e1]; exact congrArg some e2))
  · -- two
    have ht' : t < V2.length := by rw [hlenS] at ht; exact ht
    have hs2 : s < V2.length := by rw [hlenS] at hs'; exact hs'
    rw [hget t ht] at e1
    rw [hget s hs']
    by_cases e : t = i
    · rw [if_pos e] at e1
      rw [if_neg (fun e' => hts (e.trans e'.symm))]
      intro e2
      have hkg : k = g := by rw [ho'] at e1; exact (Option.some.inj e1).symm
      rcases hat with ⟨q1, _⟩ | ⟨q1, _⟩
      · exact h.two s i hs2 hi (fun e' => hts (e.trans e'.symm)) k e2 (by rw [q1, hkg])
      · have := rowlt s hs2 k e2
        omega
    · rw [if_neg e] at e1
      by_cases e3 : s = i
      · rw [if_pos e3]
        intro e2
        have hkg : k = g := by rw [ho'] at e2; exact (Option.some.inj e2).symm
        exact gne k (rowlt t ht' k e1) (fun q => h.two t i ht' hi e k e1 q) hkg
      · rw [if_neg e3]
        exact h.two t s ht' hs2 hts k e1
  · -- cross
    have ht' : t < V2.length := by rw [hlenS] at ht; exact ht
    rw [hget t ht] at e1
    by_cases e : t = i
    · rw [if_pos e] at e1
      have hkg : k = g := by rw [ho'] at e1; exact (Option.some.inj e1).symm
      rcases hat with ⟨q1, _⟩ | ⟨q1, _⟩
      · subst e
        exact h.cross t s hi hs' hts k (by rw [q1, hkg])
      · intro e2
        obtain ⟨a, c, e3, hb, hz⟩ := h.old s hs'
        rw [e3] at e2
        have hlt : k < W.heap.size := by
          have hcell := h.out s hs'
          exact h.vlt s hs' k (by rw [e3]; exact e2)
        omega
    · rw [if_neg e] at e1
      exact h.cross t s ht' hs' hts k e1
  · -- lengths
    by_cases e : t = i
    · subst e
      rw [hm]
      have := h.same t ht
      omega
    · rw [hm2 t e]
      exact h.same t ht
  · -- far
    rcases List.mem_or_eq_of_mem_set hv with hv | rfl
    · exact h.far v hv
    · rw [ho']
      refine ⟨fun e => gbg (Option.some.inj e).symm, fun e => ?_⟩
      rcases hat with ⟨q1, _⟩ | ⟨q1, _⟩
      · exact hf.2 (by rw [q1]; exact e)
      · have hbl := h.blt
        have := Option.some.inj e
        omega
  · -- new
    rcases List.mem_or_eq_of_mem_set hv with hv | rfl
    · exact h.new v hv k hk
    · rw [ho'] at hk
      have hkg := Option.some.inj hk
      rcases hat with ⟨q1, _⟩ | ⟨q1, _⟩
      · exact h.new _ (List.getElem_mem hi) k (by rw [q1, hkg])
      · have := h.kept.size
        exact .inr (by omega)
  · -- ow
    obtain ⟨cur, hcur, hle⟩ := h.ow t ht k e1
    have hkgb : k ≠ gb := fun e' => h.farV.2 _ (List.getElem_mem ht) (by rw [e1, e'])
    by_cases hkg : k = g
    · have hti : t = i := by
        apply Classical.byContradiction
        intro hne2
        rcases hat with ⟨q1, _⟩ | ⟨q1, _⟩
        · exact h.cross i t hi ht (fun e' => hne2 e'.symm) g q1 (by rw [e1, hkg])
        · have := lt_of_block hcur
          omega
      subst hti
      have hle2 := h.same t ht
      rcases hrow.2 with ⟨e2, _⟩ | ⟨g2, cap2, cur2, e2, _, hg2, hn2, _, hs2, _⟩
      · simp at e2
      · simp only [Value.slice.injEq, Option.some.injEq, Addr.mk.injEq, and_true, true_and] at e2
        obtain ⟨e3, e4⟩ := e2
        rw [← e3, ← hkg] at hg2
        exact ⟨cur2, ks.heap hg2 hkgb, by omega⟩
    · exact ⟨cur, ks.heap (kg.heap hcur hkg) hkgb, hle⟩
  · -- kept
    refine (h.kept.trans kg ?_).trans ks ?_
    · intro k e
      rcases hat with ⟨q1, _⟩ | ⟨q1, _⟩
      · exact h.new _ (List.getElem_mem hi) k (by rw [q1, e])
      · have := h.kept.size
        exact .inr (by omega)
    · intro k e
      have := h.newb
      exact .inr (by simp only at e; omega)
theorem row_pushIV {W : World} {base k n c : Nat} {l : List Int} {x : Int} (ho : W.ownsRow base 3 1 (.slice (some ⟨k, 0, none⟩) n c) n (is l)) (hn : n = l.length) (hc : n + 1 ≤ c) :
    (W.setCell ⟨k, n, none⟩ (.int .i64 x)).ownsRow base 3 1 (.slice (some ⟨k, 0, none⟩) (n + 1) c) (n + 1) (is (l ++ [x])) ∧ (W.cell? ⟨k, n, none⟩).isSome = true ∧ W.frozen? ⟨k, n, none⟩ = false := by
  rcases ho.2 with ⟨e, _⟩ | ⟨g', cap, cur, hv, hb, hg, h1, h2, h3, h4⟩
  · cases e
  simp only [Value.slice.injEq, Option.some.injEq, Addr.mk.injEq, and_true, true_and] at hv
  obtain ⟨rfl, rfl⟩ := hv
  have hlt : n < cur.size := by omega
  refine ⟨⟨by rw [is_lenMV, List.length_append]; simp; omega, .inr ⟨k, c, _, rfl, hb, heap_setCell_same W k n cur _ (.int .i64 x) hg, hc, h2, by simp [h3], ?_⟩⟩, ?_, by simp [World.frozen?, hg]⟩
  · rw [Array.toList_setIfInBounds, Nat.mul_one, List.take_add_one, List.take_set_of_le (by omega), is_appMV]
    rw [Nat.mul_one] at h4
    rw [h4, List.getElem?_set_self (by simpa using hlt)]
    rfl
  · rw [cell_of_row _ _ n _ _ _ hg, Array.getElem?_eq_getElem hlt]
    rfl
/-- The append of a mark, as one step of a region that draws. -/
theorem step_growIV {mk : Nat → Nat → Int} {W : World} {v : Value} {t m : Nat} {ops : Array Oper} {o : Oper} {a : Act} {K : Act → World → Prop} {Q : Exit → Act → World → Prop} {E : Prop} (hgd : o.guard = none) (s x : Operand)
    (ho : o.op = .call { callee := .builtin .append, args := #[s, x], argTypes := #[22, 22] }) (hrow : W.ownsRow 0 3 1 v m (is (misV mk t m))) (hs : a.eval s = v) (ad : Nat) (c : Nat) (hx : a.eval x = .slice (some ⟨ad, 0, none⟩) 1 c) (hc : W.cell? ⟨ad, 0, none⟩ = some (.int .i64 (mk t m))) (hm : m ≤ 1099511627000)
    (h : ∀ g cap W1, W1.ownsRow 0 3 1 (.slice (some ⟨g, 0, none⟩) (m + 1) cap) (m + 1) (is (misV mk t (m + 1))) → (v.ownBlock = some g ∧ Kept (fun k => k = g) W W1 ∨ W.heap.size ≤ g ∧ Kept (fun _ => False) W W1) → K (a.put o.dst (.slice (some ⟨g, 0, none⟩) (m + 1) cap)) W1) :
    if Region.wanted o (yielded ops a.tmps) = true then Oper.wp Tryd.prog o a W K Q else E := by
  obtain ⟨i0, hi, hz0, hz1, hz2⟩ := info_parts Tryd.infoI
  have hnews : ∀ j u, (is [mk t m])[j]? = some u → W.cell? ((⟨ad, 0, none⟩ : Addr).add j) = some u := by
    intro j u hj
    match j, hj with
    | 0, hj => simp only [is, List.map_cons, List.map_nil, List.getElem?_cons_zero, Option.some.injEq] at hj; subst hj; simpa [Addr.add] using hc
  have hms : is (misV mk t m) ++ is [mk t m] = is (misV mk t (m + 1)) := by rw [mis_succV, is_appMV]
  rcases hrow.2 with ⟨rfl, h0⟩ | ⟨k, cap, cur, rfl, hb, hg, h1, h2, h3, h4⟩
  · refine step_append_lies (w := W) hgd s x 22 ho 0 3 i0 (.int .i64 0) 1 8 Tryd.underlying22 hi hz0 hz1 hz2 rfl (by decide) _ m (is (misV mk t m)) hs hrow ⟨ad, 0, none⟩ 1 c (is [mk t m]) hx rfl hnews (is_oneMV _) (by decide) (by unfold maxLen; omega) (by omega) (Nat.zero_le _) _ rfl ?_
    intro g cap w' r1 r2 r3 _
    rw [hms] at r1
    refine h g cap w' r1 (.inr ⟨?_, (Kept.grown r2).mono (fun _ e => by cases e)⟩)
    rcases r3 with e | e
    · cases e
    · omega
  · by_cases hroom : m + 1 ≤ cap
    · obtain ⟨q1, q2, q3⟩ := row_pushIV (x := mk t m) hrow (mis_lengthV mk t m).symm hroom
      refine step_append_room hgd s x 22 ho 3 i0 1 Tryd.underlying22 hi hz1 k 0 m cap hs ⟨ad, 0, none⟩ 1 c (is [mk t m]) hx rfl hnews (is_oneMV _) hroom ?_ ?_
      · intro j hj
        have : j = 0 := by simp [is] at hj; omega
        subst this
        simp only [Nat.zero_add, Nat.mul_one, Nat.add_zero]
        exact ⟨q2, q3⟩
      · have e : W.setCells k (0 + m * 1) (is [mk t m]) = W.setCell ⟨k, m, none⟩ (.int .i64 (mk t m)) := by
          rw [Nat.zero_add, Nat.mul_one]; rfl
        rw [e]
        rw [← mis_succV] at q1
        exact h k cap _ q1 (.inl ⟨rfl, Kept.setCell W ⟨k, m, none⟩ _⟩)
    · have hw : Region.wanted o (yielded ops a.tmps) = true := by simp [Region.wanted, hgd]
      rw [if_pos hw]
      have holds : ∀ j u, (is (misV mk t m))[j]? = some u → W.cell? ((⟨k, 0, none⟩ : Addr).add j) = some u := by
        intro j u hj
        rw [← h4, List.getElem?_take] at hj
        split at hj
        · have hadd : (⟨k, 0, none⟩ : Addr).add j = ⟨k, j, none⟩ := by rw [Go.WideShapes.add_plain, Nat.zero_add]
          rw [hadd, cell_of_row _ _ j _ _ _ hg]
          simpa using hj
        · cases hj
      obtain ⟨v', w', hrun, r1, r2⟩ := run_append_arg_grows (P := Tryd.prog) (w := W) 22 o.type 3 i0 (.int .i64 0) 1 8 Tryd.underlying22 hi hz0 hz1 hz2 rfl (by decide) ⟨k, 0, none⟩ m cap (is (misV mk t m)) (by rw [is_lenMV, mis_lengthV]; omega) holds ⟨ad, 0, none⟩ 1 c (is [mk t m]) rfl hnews (by omega) (by unfold maxLen; omega) (by omega)
      rw [hms] at r1
      rcases r1.2 with ⟨_, e⟩ | ⟨g, cap', cur', rfl, hb', r⟩
      · omega
      unfold Oper.wp
      simp [execOp, ho, resolve, invoke, builtin, hs, hx, hrun, Result.andThen]
      exact h g cap' w' ⟨r1.1, .inr ⟨g, cap', cur', rfl, Nat.zero_le _, r⟩⟩ (.inr ⟨hb', (Kept.grown r2).mono (fun _ e => by cases e)⟩)
end Go.Proofs.YtiebmmpnmklpnaaDoor
namespace Go.Proofs.YtiebmmpnmklpnaaDoor
open Go.ChangeShapes Go.WideShapes Go.ChangeAt Go.RowKit

theorem OwiV.congr {w W : World} {b off : Nat} {V : List Value} {X X' : Nat → List Int} (h : OwiV w W b off V X) (e : ∀ t, t < V.length → X t = X' t) : OwiV w W b off V X' :=
  ⟨h.out, fun t ht => by rw [← e t ht]; exact h.row t ht, h.kept⟩
theorem row_sliceIV {W : World} {base n : Nat} {v : Value} {xs : List Value} (h : W.ownsRow base 3 1 v n xs) : ∃ a c, v = .slice a n c ∧ (0 < n → ∃ g, a = some ⟨g, 0, none⟩) ∧ (∀ ad, a = some ad → ad.off = 0 ∧ ad.spot = none) := by
  rcases h.2 with ⟨rfl, e⟩ | ⟨g, cap, cur, rfl, _⟩
  · exact ⟨none, 0, by rw [e], fun h => by omega, fun ad e => by cases e⟩
  · exact ⟨_, _, rfl, fun _ => ⟨g, rfl⟩, fun ad e => by cases e; exact ⟨rfl, rfl⟩⟩
theorem Tryd.infoSlIV : (Tryd.prog.info? 22).map (fun i => (i.zero, i.size, i.bytes)) = some (some (.slice none 0 0), 1, 24) := by kernel_rfl
theorem og_startIV {mk : Nat → Nat → Int} {w wr w1 : World} {b off gb : Nat} {V : List Value} {ns : Nat → Nat} {cs : Array Value} (h : OwiV w wr b off V (fun t => misV mk t (ns t))) (ha : AptiV b V) (hb : b < w.heap.size) (k : Kept (fun _ => False) wr w1) (hgb : wr.heap.size ≤ gb) (hc : w1.heap[gb]? = some (.cells cs 22 (0, 0))) (ht : cs.toList.take V.length = V) :
    OgiV mk w w1 b off gb V V ns (fun t => ns t + 0) := by
  have hsz := h.kept.size
  have rw1 : ∀ t (ht : t < V.length), w1.ownsRow 0 3 1 V[t] (ns t) (is (misV mk t (ns t))) := fun t ht => by
    have := k.row (h.row t ht) (fun _ _ f => f)
    rwa [mis_lengthV] at this
  have hlt : ∀ t (ht : t < V.length) j, V[t].ownBlock = some j → j < wr.heap.size := fun t ht j e => ((h.row t ht).lt j e).2
  have hmem : ∀ v ∈ V, ∀ j, v.ownBlock = some j → j < wr.heap.size := fun v hv j e => by
    obtain ⟨t, ht, rfl⟩ := List.mem_iff_getElem.1 hv
    exact hlt t ht j e
  refine ⟨rfl, fun t ht => k.cell (h.out t ht) (fun f => f), fun t ht => ?_, ⟨cs, hc, fun t h2 => ?_⟩, fun t ht => by rw [Nat.add_zero]; exact rw1 t ht, ha.two, fun t s ht hs hts => ha.two t s ht hs hts, fun t _ => by rw [Nat.add_zero]; exact Nat.le_refl _, fun v hv => ⟨fun e => ?_, ha.outer v hv⟩, ⟨by omega, fun v hv e => ?_⟩, fun v hv g e => .inl ⟨v, hv, e⟩, by omega, fun t ht j e => Nat.lt_of_lt_of_le (hlt t ht j e) k.size, by have := k.size; omega, fun t ht g e => ?_, h.kept.trans k (fun _ f => f.elim)⟩
  · obtain ⟨a, c, e, hp, hz⟩ := row_sliceIV (rw1 t ht)
    refine ⟨a, c, e, ?_, hz⟩
    have hr := rw1 t ht
    rw [e] at hr
    intro hne
    obtain ⟨g, rfl⟩ := hp (by have := List.length_pos_iff.2 hne; rw [mis_lengthV] at this; exact this)
    exact own_intsMV hr hne
  · have h3 : (cs.toList.take V.length)[t]? = V[t]? := by rw [ht]
    rw [List.getElem?_take, if_pos h2, Array.getElem?_toList, List.getElem?_eq_getElem h2] at h3
    exact h3
  · have := hmem v hv gb e
    omega
  · have := hmem v hv gb e
    omega
  · have hr := rw1 t ht
    rcases hr.2 with ⟨e2, _⟩ | ⟨g2, cap2, cur2, e2, _, hg2, hn2, _, hs2, _⟩
    · rw [e2] at e; simp [Value.ownBlock] at e
    · rw [e2] at e
      simp only [Value.ownBlock, Option.some.injEq] at e
      subst e
      exact ⟨cur2, hg2, by omega⟩
/-- What Own leaves: each list marked; nothing else written. -/
structure OwnPostIV (mk : Nat → Nat → Int) (V : List Value) (L : Nat → List Int) (w w' : World) : Prop where
  marked : ∀ t (h : t < V.length), ∃ a c, V[t] = .slice a (L t).length c ∧ IntsAt w' a (misV mk t (L t).length)
  ow : ∀ t (h : t < V.length) g, V[t].ownBlock = some g → ∃ cur : Array Value, w'.heap[g]? = some (.cells cur 3 (0, 0)) ∧ (L t).length ≤ cur.size
  kept : Kept (fun k => ∃ v ∈ V, v.ownBlock = some k) w w'
theorem wpOp_ofIV {P : Program} {ops : Array Oper} {Q : Exit → Act → World → Prop} {i : Nat} {o : Oper} {K : Act → World → Prop} {a : Act} {w : World} (hi : ops[i]? = some o) (h : if Region.wanted o (yielded ops a.tmps) = true then Oper.wp P o a w K Q else K (a.put o.dst undef) w) : wpOp P ops Q i K a w := by
  unfold wpOp
  simp only [hi]
  by_cases hw : Region.wanted o (yielded ops a.tmps) = true
  · rw [if_pos hw] at h ⊢
    exact .inl h
  · rw [if_neg hw] at h ⊢
    exact h
set_option maxRecDepth 20000 in
set_option maxHeartbeats 8000000 in
theorem ownI_anyV (mk : Nat → Nat → Int) (hmk : MarkIV mk) (V : List Value) (L : Nat → List Int) (b off c N : Nat) (w : World) (hO : OwiV w w b off V L) (hA : AptiV b V) (hN : N = V.length) (hN0 : 0 < N) (hNb : N ≤ 68719476736) (hL : ∀ t, t < N → (L t).length ≤ 1099511620000) (hb : b < w.heap.size) :
    Calls Tryd.prog 15 #[.slice (some ⟨b, off, none⟩) N c] w fun e w' => e = .returned (.bool true) ∧ OwnPostIV mk V L w w' := by
  have HM := hideI hmk
  have HA := hideI hA
  have HO := hideI hO
  have HL := hideI hL
  have HN := hideI hN
  clear hmk hA hO hL hN
  go_enter Tryd.func15, Tryd.ntmps15
  go_wp2
  go_loopw [15] (fun i wr => ∃ k : Nat, k ≤ N ∧ i = .int .i64 k ∧ Hid (OwiV w wr b off V (fun t => if t < k then midV mk t (L t).length (L t) else L t))) (fun i _ => N - (intOf i).toNat)
  case atStart => exact ⟨0, Nat.zero_le _, rfl, HO.out.congr (fun t _ => by simp)⟩
  case round =>
    obtain ⟨k, hk, rfl, HK⟩ := hrel
    by_cases hlt : k < N
    · have hkV : k < V.length := by rw [← HN.out]; exact hlt
      have hx := HK.out.out k hkV
      have hrw := HK.out.row k hkV
      simp only [Nat.lt_irrefl, if_false] at hrw
      obtain ⟨a, cc, hv, hva, _⟩ := row_sliceIV hrw
      have hlen := HL.out k hlt
      rw [hv] at hx
      obtain ⟨n, hn⟩ : ∃ n, n = (L k).length := ⟨_, rfl⟩
      rw [← hn] at hx hva hlen
      have HV := hideI hv
      have Hn := hideI hn
      have i1 : (k : Int) < (N : Int) := by omega
      clear hrw hv hn
      go_wp2
      go_loopw [22] (fun j wr => ∃ q : Nat, q ≤ n ∧ j = .int .i64 q ∧ Hid (OwiV w wr b off V (fun t => if t < k then midV mk t (L t).length (L t) else if t = k then midV mk k q (L k) else L t))) (fun j _ => n - (intOf j).toNat)
      case atStart =>
        refine ⟨0, Nat.zero_le _, rfl, HK.out.congr (fun t _ => ?_)⟩
        by_cases e1 : t < k
        · rw [if_pos e1, if_pos e1]
        · rw [if_neg e1, if_neg e1]
          by_cases e2 : t = k
          · rw [if_pos e2, mid_zeroV, e2]
          · rw [if_neg e2]
      case round =>
        obtain ⟨q, hq, rfl, HQ⟩ := hrel
        clear HK hx
        by_cases hqn : q < n
        · obtain ⟨g, rfl⟩ := hva (by omega)
          have MC := hideI (fun (W : World) => HM.out k q (by omega) (by omega) W)
          have hput := fun (x : Int) => HQ.out.put (X' := fun t => if t < k then midV mk t (L t).length (L t) else if t = k then (midV mk k q (L k)).set q x else L t) (x := x) (j := q) HA.out hkV (by rw [← Hn.out] at HV; exact HV.out) (by simp only [Nat.lt_irrefl, if_false, if_true]; rw [mid_lengthV _ _ _ _ (by rw [← Hn.out]; exact hq), Hn.out]) hqn (by simp) (fun t ht => by simp [ht])
          have hrow := HQ.out.row k hkV
          simp only [Nat.lt_irrefl, if_false, if_true] at hrow
          rw [mid_lengthV _ _ _ _ (by rw [← Hn.out]; exact hq), HV.out, ← Hn.out] at hrow
          obtain ⟨_, c1, c2⟩ := row_setIV (x := 0) hrow hqn (by rw [mid_lengthV _ _ _ _ (by rw [← Hn.out]; exact hq), Hn.out])
          have HP : Hid (OwiV w (wr.setCell ⟨g, q, none⟩ (.int .i64 (mk k q))) b off V (fun t => if t < k then midV mk t (L t).length (L t) else if t = k then midV mk k (q + 1) (L k) else L t)) := by
            refine (hput (mk k q)).congr (fun t _ => ?_)

            rw [mid_setV _ _ _ _ (by rw [← Hn.out]; exact hqn)]
          generalize (midV mk k q (L k))[q]?.getD 0 = y0 at c1
          generalize mk k q = z at MC HP
          have i2 : (q : Int) < (n : Int) := by omega
          clear hput hrow HQ
          go_wp2_with (go_at_call 29; refine (MC.out _).mono ?_; rintro e W5 ⟨rfl, e5⟩; subst e5)
          go_roundw
          case rel => exact ⟨q + 1, by omega, by go_num, HP⟩
          case measure => simp [intOf]; omega
        · have hqe : q = n := by omega
          subst hqe
          have HF : Hid (OwiV w wr b off V (fun t => if t < k + 1 then midV mk t (L t).length (L t) else L t)) := by
            refine HQ.out.congr (fun t _ => ?_)
            by_cases e1 : t < k
            · rw [if_pos e1, if_pos (by omega)]
            · rw [if_neg e1]
              by_cases e2 : t = k
              · rw [if_pos e2, if_pos (by omega), e2, Hn.out]
              · rw [if_neg e2, if_neg (by omega)]
          have i2 : ¬ ((q : Int) < (q : Int)) := by omega
          clear HQ
          go_wp2
          go_roundw
          case rel => exact ⟨k + 1, by omega, by go_num, HF⟩
          case measure => simp [intOf]; omega
    · obtain rfl : k = N := by omega
      obtain ⟨ns, hns⟩ : ∃ ns : Nat → Nat, ns = fun t => (L t).length := ⟨_, rfl⟩
      have H1 : OwiV w wr b off V (fun t => misV mk t (ns t)) := by
        refine HK.out.congr (fun t ht => ?_)
        rw [if_pos (by rw [HN.out]; exact ht), mid_allV, hns]
      clear HK hlt hk
      obtain ⟨j0, hj, hy0, hy1, hy2⟩ := info_parts Tryd.infoSlIV
      obtain ⟨o0, ho0⟩ : ∃ o : Obj, o = .cells #[] 22 := ⟨_, rfl⟩
      have kA := Kept.alloc wr o0
      have hnews : ∀ j u, V[j]? = some u → (wr.alloc o0).cell? ((⟨b, off, none⟩ : Addr).add j) = some u := by
        intro j u hju
        obtain ⟨hjl, rfl⟩ := List.getElem?_eq_some_iff.1 hju
        rw [Go.WideShapes.add_plain]
        exact kA.cell (H1.out j hjl) (fun f => f)
      have hone : ∀ u ∈ V, u.oneCell' = true := by
        intro u hu
        obtain ⟨t, ht, rfl⟩ := List.mem_iff_getElem.1 hu
        obtain ⟨a, c', e, _⟩ := row_sliceIV (H1.row t ht)
        rw [e]; rfl
      have hown0 : (wr.alloc o0).ownsRow wr.heap.size 22 1 (.slice (some ⟨wr.heap.size, 0, none⟩) 0 0) 0 [] := by
        rw [ho0]
        exact ⟨rfl, .inr ⟨wr.heap.size, 0, #[], rfl, Nat.le_refl _, heap_alloc_new wr _, Nat.le_refl _, Nat.zero_le _, rfl, rfl⟩⟩
      have hlV : V.length = k * 1 := by rw [HN.out]; omega
      have hsz0 : wr.heap.size ≤ (wr.alloc o0).heap.size := kA.size
      have HH1 := hideI H1
      clear H1
      subst ho0
      have i1 : ¬ ((k : Int) < (k : Int)) := by omega
      go_wp2_with (at_builtin; refine wpList_append_own_at _ rfl _ _ 54 rfl wr.heap.size 22 j0 (.slice none 0 0) 1 24 Tryd.underlying54 hj hy0 hy1 hy2 rfl (by decide) _ _ _ rfl hown0 ⟨b, off, none⟩ k c V rfl hlV hnews hone (by unfold maxLen; omega) (by omega) hsz0 ?_; clear hown0 hnews hone; intro v1 w1 hown1 hgrow1 _ _)
      rw [Nat.zero_add, List.nil_append] at hown1
      obtain ⟨gb, cG, cs, hv1, hgb, hcs, htk⟩ : ∃ gb cG cs, v1 = .slice (some ⟨gb, 0, none⟩) k cG ∧ wr.heap.size ≤ gb ∧ w1.heap[gb]? = some (.cells cs 22 (0, 0)) ∧ cs.toList.take V.length = V := by
        rcases hown1.2 with ⟨_, e⟩ | ⟨g, cap, cur, e, hb', hg', _, _, _, ht'⟩
        · omega
        · exact ⟨g, cap, cur, e, hb', hg', by rw [hlV]; exact ht'⟩
      subst hv1
      have kw1 : Kept (fun _ => False) wr w1 := kA.trans (Kept.grown hgrow1) (fun i e => .inr (by have e' := Option.some.inj (show some wr.heap.size = some i from e); omega))
      have HG0 := hideI (og_startIV (ns := ns) HH1.out HA.out hb kw1 hgb hcs htk)
      clear hown1 hgrow1 kw1 hgb hcs htk HH1 kA hj hy0 hy1 hy2 hlV hsz0
      obtain ⟨N, hNN⟩ : ∃ N, N = k := ⟨_, rfl⟩
      subst hNN
      have hnsb : ∀ t, t < N → ns t ≤ 1099511620000 := by rw [hns]; exact HL.out
      have HNS := hideI hns
      have HNB := hideI hnsb
      clear hns hnsb HL HO
      go_wp2
      go_loopw [7] (fun kk wr => ∃ (r : Nat) (V2 : List Value), r ≤ 80 ∧ kk = .int .i64 r ∧ Hid (OgiV mk w wr b off gb V V2 ns (fun t => ns t + r))) (fun kk _ => 80 - (intOf kk).toNat)
      case atStart => exact ⟨0, V, Nat.zero_le _, rfl, HG0⟩
      case round =>
        obtain ⟨r, V2, hr, rfl, HR⟩ := hrel
        clear HG0
        by_cases hr80 : r < 80
        · have i2 : (r : Int) < 80 := by omega
          go_wp2
          go_loopw [42] (fun ii wr => ∃ (q : Nat) (V3 : List Value), q ≤ N ∧ ii = .int .i64 q ∧ Hid (OgiV mk w wr b off gb V V3 ns (fun t => if t < q then ns t + r + 1 else ns t + r))) (fun ii _ => N - (intOf ii).toNat)
          case atStart => exact ⟨0, V2, Nat.zero_le _, rfl, by have h := HR.out; simp only [Nat.not_lt_zero, if_false]; exact h⟩
          case round =>
            obtain ⟨q, V3, hq, rfl, HQ⟩ := hrel
            clear HR
            by_cases hqN : q < N
            · have hq3 : q < V3.length := by rw [HQ.out.len, ← HN.out]; exact hqN
              have hrow := HQ.out.row q hq3
              simp only [Nat.lt_irrefl, if_false] at hrow
              obtain ⟨mq, hmq⟩ : ∃ m, m = ns q + r := ⟨_, rfl⟩
              rw [← hmq] at hrow
              have hnq := HNB.out q hqN
              have hmqb : mq ≤ 1099511627000 := by omega
              obtain ⟨a2, c2', hv2, _, _⟩ := row_sliceIV hrow
              obtain ⟨cs2, hc2, hcs2⟩ := HQ.out.outG
              have x0 : wr.cell? ⟨gb, q, none⟩ = some (.slice a2 mq c2') := by rw [cell_of_row _ _ q _ _ _ hc2, hcs2 q hq3, hv2]
              have MC := hideI (fun (W : World) => HM.out q mq (by omega) (by omega) W)
              have hrowA : (wr.alloc (.cells #[.int .i64 (mk q mq)] 3)).drew.ownsRow 0 3 1 (.slice a2 mq c2') mq (is (misV mk q mq)) := by
                have h1 := (Kept.drewN (wr.alloc (.cells #[.int .i64 (mk q mq)] 3)) 1).row ((Kept.alloc wr (.cells #[.int .i64 (mk q mq)] 3)).row hrow (fun _ _ f => f)) (fun _ _ f => f)
                rwa [hv2] at h1
              have hcellA : (wr.alloc (.cells #[.int .i64 (mk q mq)] 3)).drew.cell? ⟨wr.heap.size, 0, none⟩ = some (.int .i64 (mk q mq)) := (Kept.drewN (wr.alloc (.cells #[.int .i64 (mk q mq)] 3)) 1).cell (cell_of_row _ _ 0 _ _ _ (heap_alloc_new wr _)) (fun f => f)
              have x0a : (wr.alloc (.cells #[.int .i64 (mk q mq)] 3)).cell? ⟨gb, q, none⟩ = some (.slice a2 mq c2') := (Kept.alloc wr _).cell x0 (fun f => f)
              have HGR : Hid (∀ g cap W1, W1.ownsRow 0 3 1 (.slice (some ⟨g, 0, none⟩) (mq + 1) cap) (mq + 1) (is (misV mk q (mq + 1))) → ((Value.slice a2 mq c2').ownBlock = some g ∧ Kept (fun k => k = g) (wr.alloc (.cells #[.int .i64 (mk q mq)] 3)).drew W1 ∨ (wr.alloc (.cells #[.int .i64 (mk q mq)] 3)).drew.heap.size ≤ g ∧ Kept (fun _ => False) (wr.alloc (.cells #[.int .i64 (mk q mq)] 3)).drew W1) → W1.cell? ⟨gb, q, none⟩ = some (.slice a2 mq c2') ∧ W1.frozen? ⟨gb, q, none⟩ = false ∧ Hid (OgiV mk w (W1.setCell ⟨gb, q, none⟩ (.slice (some ⟨g, 0, none⟩) (mq + 1) cap)) b off gb V (V3.set q (.slice (some ⟨g, 0, none⟩) (mq + 1) cap)) ns (fun t => if t < q + 1 then ns t + r + 1 else ns t + r))) := by
                intro g cap W1 r1 r2
                have hO := (HQ.out.same' (Kept.alloc wr (.cells #[.int .i64 (mk q mq)] 3))).same' (Kept.drewN _ 1)
                have hmm : (if q < q then ns q + r + 1 else ns q + r) = mq := by simp [hmq]
                have hgr := hO.grow (m' := fun t => if t < q + 1 then ns t + r + 1 else ns t + r) (g := g) (cap := cap) (W1 := W1) hq3 (by rw [hmm]; exact r1) (by rw [hv2]; exact r2) (by simp) (fun t ht => by
                  by_cases e1 : t < q
                  · simp [e1, show t < q + 1 by omega]
                  · simp [e1, show ¬ t < q + 1 by omega])
                rw [hmm, hv2] at hgr
                exact hgr
              generalize hz : mk q mq = z at MC hrowA hcellA HGR x0a
              have i3 : (q : Int) < (N : Int) := by omega
              clear hrow hv2 hc2 hcs2 HQ hmq hnq
              go_wp2
              refine wp_region_held (S := AnyZ) (by kernel_rfl) ?_
              change wpAnyH _ _ _ _ _ _ _ _ (World.drew _)
              refine takeZ (i := 0) (d := 50) (v := .slice (some ⟨gb, 0, none⟩) N cG) rfl rfl (by kernel_rfl) (by kernel_rfl) (by kernel_rfl) (fun _ _ _ h => h) (Or.inl ⟨by rfl, fun W _ => ?_⟩) (anyZ _) ?_
              · go_simp
              simp only [Act.put, List.setIfInBounds_toArray, List.set_cons_zero, List.set_cons_succ]
              refine takeZ (i := 1) (d := 51) (v := .int .i64 q) rfl rfl (by kernel_rfl) (by kernel_rfl) (by kernel_rfl) (fun _ _ _ h => h) (Or.inl ⟨by rfl, fun W _ => ?_⟩) (anyZ _) ?_
              · go_simp
              simp only [Act.put, List.setIfInBounds_toArray, List.set_cons_zero, List.set_cons_succ]
              refine takeZ (i := 2) (d := 52) (v := .slice (some ⟨gb, 0, none⟩) N cG) rfl rfl (by kernel_rfl) (by kernel_rfl) (by kernel_rfl) (fun _ _ _ h => h) (Or.inl ⟨by rfl, fun W _ => ?_⟩) (anyZ _) ?_
              · go_simp
              simp only [Act.put, List.setIfInBounds_toArray, List.set_cons_zero, List.set_cons_succ]
              refine takeZ (i := 3) (d := 53) (v := .int .i64 q) rfl rfl (by kernel_rfl) (by kernel_rfl) (by kernel_rfl) (fun _ _ _ h => h) (Or.inl ⟨by rfl, fun W _ => ?_⟩) (anyZ _) ?_
              · go_simp
              simp only [Act.put, List.setIfInBounds_toArray, List.set_cons_zero, List.set_cons_succ]
              refine takeZ (i := 6) (d := 56) (v := .int .i64 q) rfl rfl (by kernel_rfl) (by kernel_rfl) (by kernel_rfl) (fun _ _ _ h => h) (Or.inl ⟨by rfl, fun W _ => ?_⟩) (anyZ _) ?_
              · go_simp
              simp only [Act.put, List.setIfInBounds_toArray, List.set_cons_zero, List.set_cons_succ]
              refine takeZ (i := 7) (d := 57) (v := .int .i64 mq) rfl rfl (by kernel_rfl) (by kernel_rfl) (by kernel_rfl) (fun _ _ _ h => h) (Or.inl ⟨by rfl, fun W _ => ?_⟩) (anyZ _) ?_
              · go_simp
              simp only [Act.put, List.setIfInBounds_toArray, List.set_cons_zero, List.set_cons_succ]
              refine takeZ (i := 4) (d := 54) (v := .pointer (some ⟨gb, q, none⟩)) rfl rfl (by kernel_rfl) (by kernel_rfl) (by kernel_rfl) (fun _ _ _ h => h) (Or.inl ⟨by rfl, fun W _ => ?_⟩) (anyZ _) ?_
              · go_simp
              simp only [Act.put, List.setIfInBounds_toArray, List.set_cons_zero, List.set_cons_succ]
              refine wpAnyH_all (rs := [5, 8]) (by kernel_rfl) (by simp) ?_
              intro i hi
              rcases (by simpa using hi : i = 5 ∨ i = 8) with rfl | rfl
              · unfold wpOp
                go_simp
                first | refine ⟨anyZ _, ?_⟩ | refine Or.inl ⟨anyZ _, ?_⟩
                refine wpAnyH_all (rs := [8]) (by kernel_rfl) (by simp) ?_
                intro i hi
                obtain rfl : i = 8 := by simpa using hi
                unfold wpOp
                go_simp
                first | refine (MC.out _).mono ?_ | refine Or.inl ((MC.out _).mono ?_)
                rintro e W5 ⟨rfl, e5⟩
                subst e5
                refine ⟨anyZ _, ?_⟩
                refine wpAnyH_all (rs := [9]) (by kernel_rfl) (by simp) ?_
                intro i hi
                obtain rfl : i = 9 := by simpa using hi
                unfold wpOp
                go_simp
                first | refine ⟨anyZ _, ?_⟩ | refine Or.inl ⟨anyZ _, ?_⟩
                refine wpAnyH_all (rs := [10]) (by kernel_rfl) (by simp) ?_
                intro i hi
                obtain rfl : i = 10 := by simpa using hi
                refine wpOp_ofIV rfl ?_
                refine step_growIV (mk := mk) (t := q) (m := mq) rfl _ _ rfl hrowA rfl _ 1 rfl (by rw [hz]; exact hcellA) hmqb ?_
                intro g cap W1 r1 r2
                refine ⟨anyZ _, ?_⟩
                obtain ⟨c1, c2, HG⟩ := HGR.out g cap W1 r1 r2
                simp only [Act.put, List.setIfInBounds_toArray]
                refine takeZ (i := 11) (d := 61) (v := .pointer (some ⟨gb, q, none⟩)) rfl rfl (by kernel_rfl) (by kernel_rfl) (by kernel_rfl) (fun _ _ _ h => h) (Or.inl ⟨by rfl, fun W _ => ?_⟩) (anyZ _) ?_
                · go_simp
                simp only [Act.put]
                refine wpAnyH_all (rs := [12]) (by kernel_rfl) (by simp) ?_
                intro i hi
                obtain rfl : i = 12 := by simpa using hi
                unfold wpOp
                go_simp
                first | refine ⟨anyZ _, ?_⟩ | refine Or.inl ⟨anyZ _, ?_⟩
                refine wpAnyH_done (by kernel_rfl) ?_ _
                go_wp2
                go_roundw
                case rel => exact ⟨q + 1, _, by omega, by go_num, HG⟩
                case measure => simp [intOf]; omega
              · unfold wpOp
                go_simp
                first | refine (MC.out _).mono ?_ | refine Or.inl ((MC.out _).mono ?_)
                rintro e W5 ⟨rfl, e5⟩
                subst e5
                refine ⟨anyZ _, ?_⟩
                refine wpAnyH_all (rs := [5, 9]) (by kernel_rfl) (by simp) ?_
                intro i hi
                rcases (by simpa using hi : i = 5 ∨ i = 9) with rfl | rfl
                · unfold wpOp
                  go_simp
                  first | refine ⟨anyZ _, ?_⟩ | refine Or.inl ⟨anyZ _, ?_⟩
                  refine wpAnyH_all (rs := [9]) (by kernel_rfl) (by simp) ?_
                  intro i hi
                  obtain rfl : i = 9 := by simpa using hi
                  unfold wpOp
                  go_simp
                  first | refine ⟨anyZ _, ?_⟩ | refine Or.inl ⟨anyZ _, ?_⟩
                  refine wpAnyH_all (rs := [10]) (by kernel_rfl) (by simp) ?_
                  intro i hi
                  obtain rfl : i = 10 := by simpa using hi
                  refine wpOp_ofIV rfl ?_
                  refine step_growIV (mk := mk) (t := q) (m := mq) rfl _ _ rfl hrowA rfl _ 1 rfl (by rw [hz]; exact hcellA) hmqb ?_
                  intro g cap W1 r1 r2
                  refine ⟨anyZ _, ?_⟩
                  obtain ⟨c1, c2, HG⟩ := HGR.out g cap W1 r1 r2
                  simp only [Act.put, List.setIfInBounds_toArray]
                  refine takeZ (i := 11) (d := 61) (v := .pointer (some ⟨gb, q, none⟩)) rfl rfl (by kernel_rfl) (by kernel_rfl) (by kernel_rfl) (fun _ _ _ h => h) (Or.inl ⟨by rfl, fun W _ => ?_⟩) (anyZ _) ?_
                  · go_simp
                  simp only [Act.put]
                  refine wpAnyH_all (rs := [12]) (by kernel_rfl) (by simp) ?_
                  intro i hi
                  obtain rfl : i = 12 := by simpa using hi
                  unfold wpOp
                  go_simp
                  first | refine ⟨anyZ _, ?_⟩ | refine Or.inl ⟨anyZ _, ?_⟩
                  refine wpAnyH_done (by kernel_rfl) ?_ _
                  go_wp2
                  go_roundw
                  case rel => exact ⟨q + 1, _, by omega, by go_num, HG⟩
                  case measure => simp [intOf]; omega
                · unfold wpOp
                  go_simp
                  first | refine ⟨anyZ _, ?_⟩ | refine Or.inl ⟨anyZ _, ?_⟩
                  refine wpAnyH_all (rs := [5]) (by kernel_rfl) (by simp) ?_
                  intro i hi
                  obtain rfl : i = 5 := by simpa using hi
                  unfold wpOp
                  go_simp
                  first | refine ⟨anyZ _, ?_⟩ | refine Or.inl ⟨anyZ _, ?_⟩
                  refine wpAnyH_all (rs := [10]) (by kernel_rfl) (by simp) ?_
                  intro i hi
                  obtain rfl : i = 10 := by simpa using hi
                  refine wpOp_ofIV rfl ?_
                  refine step_growIV (mk := mk) (t := q) (m := mq) rfl _ _ rfl hrowA rfl _ 1 rfl (by rw [hz]; exact hcellA) hmqb ?_
                  intro g cap W1 r1 r2
                  refine ⟨anyZ _, ?_⟩
                  obtain ⟨c1, c2, HG⟩ := HGR.out g cap W1 r1 r2
                  simp only [Act.put, List.setIfInBounds_toArray]
                  refine takeZ (i := 11) (d := 61) (v := .pointer (some ⟨gb, q, none⟩)) rfl rfl (by kernel_rfl) (by kernel_rfl) (by kernel_rfl) (fun _ _ _ h => h) (Or.inl ⟨by rfl, fun W _ => ?_⟩) (anyZ _) ?_
                  · go_simp
                  simp only [Act.put]
                  refine wpAnyH_all (rs := [12]) (by kernel_rfl) (by simp) ?_
                  intro i hi
                  obtain rfl : i = 12 := by simpa using hi
                  unfold wpOp
                  go_simp
                  first | refine ⟨anyZ _, ?_⟩ | refine Or.inl ⟨anyZ _, ?_⟩
                  refine wpAnyH_done (by kernel_rfl) ?_ _
                  go_wp2
                  go_roundw
                  case rel => exact ⟨q + 1, _, by omega, by go_num, HG⟩
                  case measure => simp [intOf]; omega
            · have hqe : q = N := by omega
              subst hqe
              have HF : Hid (OgiV mk w wr b off gb V V3 ns (fun t => ns t + (r + 1))) := by
                have h := HQ.out
                refine ⟨h.len, h.out, h.old, h.outG, fun t ht => ?_, h.two, h.cross, fun t ht => by omega, h.far, h.farV, h.new, h.newb, h.vlt, h.blt, h.ow, h.kept⟩
                have h1 := h.row t ht
                have ht' : t < q := by rw [HN.out, ← h.len]; exact ht
                simp only [ht', if_true] at h1
                rw [← Nat.add_assoc]
                exact h1
              have i3 : ¬ ((q : Int) < (q : Int)) := by omega
              clear HQ
              go_wp2
              go_roundw
              case rel => exact ⟨r + 1, V3, by omega, by go_num, HF⟩
              case measure => simp [intOf]; omega
        · obtain rfl : r = 80 := by omega
          have z80 : ((80 : Nat) : Int) = 80 := rfl
          rw [z80]
          clear hr80 hr
          have hlen2 : V2.length = N := by rw [HR.out.len, HN.out]
          -- what every list reads, in every world that has only drawn since
          obtain ⟨W0, hW0⟩ : ∃ W0, W0 = wr := ⟨_, rfl⟩
          have RD : Hid (∀ q, q < N → ∃ g2 c2 a1 c1, ∀ W, Kept (fun _ => False) W0 W → W.cell? ⟨gb, q, none⟩ = some (.slice (some ⟨g2, 0, none⟩) (ns q + 80) c2) ∧ (∀ s, s < ns q + 80 → W.cell? ⟨g2, s, none⟩ = some (.int .i64 (mk q s))) ∧ W.cell? ⟨b, off + q, none⟩ = some (.slice a1 (ns q) c1) ∧ (0 < ns q → ∃ g1, a1 = some ⟨g1, 0, none⟩ ∧ ∀ s, s < ns q → W.cell? ⟨g1, s, none⟩ = some (.int .i64 (mk q s)))) := by
            intro q hq
            have hO := HR.out
            rw [← hW0] at hO
            have hq2 : q < V2.length := by omega
            have hqV : q < V.length := by rw [← hO.len]; exact hq2
            have hrow := hO.row q hq2
            obtain ⟨a2, c2, e2, hp2, _⟩ := row_sliceIV hrow
            obtain ⟨g2, rfl⟩ := hp2 (by omega)
            obtain ⟨cs2, hc2, hcs2⟩ := hO.outG
            obtain ⟨a1, c1, e1, hb1, hz1⟩ := hO.old q hqV
            rw [e2] at hrow
            refine ⟨g2, c2, a1, c1, fun W kk => ⟨?_, fun s hs => ?_, ?_, fun hpos => ?_⟩⟩
            · refine kk.cell ?_ (fun f => f)
              rw [cell_of_row _ _ q _ _ _ hc2, hcs2 q hq2, e2]
            · obtain ⟨b2, o2, e3, hc3⟩ := own_intsMV hrow (by intro e'; have := congrArg List.length e'; rw [mis_lengthV] at this; simp at this)
              simp only [Option.some.injEq, Addr.mk.injEq, and_true] at e3
              obtain ⟨rfl, rfl⟩ := e3
              have h3 := kk.cell (hc3 s (by rw [mis_lengthV]; exact hs)) (fun f => f)
              rw [Nat.zero_add, mis_getV _ _ _ _ hs] at h3
              exact h3
            · refine kk.cell ?_ (fun f => f)
              rw [hO.out q hqV, e1]
            · obtain ⟨b2, o2, e3, hc3⟩ := hb1 (by intro e'; have := congrArg List.length e'; rw [mis_lengthV] at this; simp at this; omega)
              have ho := (hz1 _ e3).1
              simp only at ho
              subst ho
              refine ⟨b2, e3, fun s hs => ?_⟩
              have h3 := kk.cell (hc3 s (by rw [mis_lengthV]; exact hs)) (fun f => f)
              rw [Nat.zero_add, mis_getV _ _ _ _ hs] at h3
              exact h3
          have FIN : Hid (∀ W, Kept (fun _ => False) W0 W → OwnPostIV mk V L w W) := by
            intro W kk
            have hO := HR.out
            rw [← hW0] at hO
            refine ⟨fun t ht => ?_, fun t ht g e => ?_, hO.kept.trans kk (fun _ f => f.elim)⟩
            · obtain ⟨a1, c1, e1, hb1, _⟩ := hO.old t ht
              rw [HNS.out] at e1 hb1
              exact ⟨a1, c1, e1, hb1.keptI kk⟩
            · obtain ⟨cur, e1, e2⟩ := hO.ow t ht g e
              rw [HNS.out] at e2
              exact ⟨cur, kk.heap e1 (fun f => f), e2⟩
          have K0 : Hid (Kept (fun _ => False) W0 wr) := by rw [hW0]; exact Kept.refl _ _
          clear HR HNS hW0 HA
          have i2 : ¬ ((80 : Int) < 80) := by omega
          go_wp2
          go_loopw [65] (fun ii wr => ∃ q : Nat, q ≤ N ∧ ii = .int .i64 q ∧ Hid (Kept (fun _ => False) W0 wr)) (fun ii _ => N - (intOf ii).toNat)
          case atStart => exact ⟨0, Nat.zero_le _, rfl, K0⟩
          case round =>
            obtain ⟨q, hq, rfl, HQ⟩ := hrel
            clear K0
            by_cases hqN : q < N
            · obtain ⟨g2, c2, a1, c1, HX⟩ := RD.out q hqN
              have x1 := (HX wr HQ.out).1
              have HXX := hideI HX
              clear HX
              obtain ⟨nq, hnq⟩ : ∃ n, n = ns q := ⟨_, rfl⟩
              have hnb := HNB.out q hqN
              rw [← hnq] at x1 hnb
              have HNQ := hideI hnq
              have i3 : (q : Int) < (N : Int) := by omega
              clear hnq
              go_wp2
              go_loopw [72] (fun jj wr => ∃ s : Nat, s ≤ nq + 80 ∧ jj = .int .i64 s ∧ Hid (Kept (fun _ => False) W0 wr)) (fun jj _ => nq + 80 - (intOf jj).toNat)
              case atStart => exact ⟨0, Nat.zero_le _, rfl, HQ⟩
              case round =>
                obtain ⟨s, hs, rfl, HS⟩ := hrel
                by_cases hsl : s < nq + 80
                · have YA : ∀ W, Kept (fun _ => False) W0 W → W.cell? ⟨b, off + q, none⟩ = some (.slice a1 nq c1) ∧ W.cell? ⟨g2, s, none⟩ = some (.int .i64 (mk q s)) ∧ (s < nq → ∃ g1, a1 = some ⟨g1, 0, none⟩ ∧ W.cell? ⟨g1, s, none⟩ = some (.int .i64 (mk q s))) := by
                    intro W kk
                    obtain ⟨_, y2, y3, y4⟩ := HXX.out W kk
                    rw [← HNQ.out] at y2 y3 y4
                    refine ⟨y3, y2 s hsl, fun h => ?_⟩
                    obtain ⟨g1, e1, h1⟩ := y4 (by omega)
                    exact ⟨g1, e1, h1 s h⟩
                  have MC := hideI (fun (W : World) => HM.out q s (by omega) (by omega) W)
                  generalize mk q s = z at MC YA
                  have y2s := (YA wr HS.out).2.1
                  have i4 : (s : Int) < (nq : Int) + 80 := by omega
                  have i5 : s < nq + 80 := hsl
                  have HD1 : Kept (fun _ => False) W0 wr.drew := HS.out.trans (Kept.drewN wr 1) (fun _ f => f.elim)
                  have HD : Kept (fun _ => False) W0 wr.drew.drew := (HS.out.trans (Kept.drewN wr 1) (fun _ f => f.elim)).trans (Kept.drewN _ 1) (fun _ f => f.elim)
                  by_cases hs1 : s < nq
                  · obtain ⟨g1, rfl, y5⟩ := (YA wr HS.out).2.2 hs1
                    have YY : Hid (∀ W, Kept (fun _ => False) W0 W → W.cell? ⟨b, off + q, none⟩ = some (.slice (some ⟨g1, 0, none⟩) nq c1) ∧ W.cell? ⟨g2, s, none⟩ = some (.int .i64 z) ∧ W.cell? ⟨g1, s, none⟩ = some (.int .i64 z)) := by
                      intro W kk
                      obtain ⟨u1, u2, u3⟩ := YA W kk
                      obtain ⟨g', e', h'⟩ := u3 hs1
                      cases e'
                      exact ⟨u1, u2, h'⟩
                    have i6 : (s : Int) < (nq : Int) := by omega
                    clear YA HXX RD FIN HM y5
                    go_wp2
                    refine wp_region_held (S := fun W => Kept (fun _ => False) W0 W) (by kernel_rfl) ?_
                    change wpAnyH _ _ _ _ _ _ _ _ (World.drew _)
                    refine takeZ (i := 0) (d := 75) (v := .slice (some ⟨g2, 0, none⟩) (nq + 80) c2) rfl rfl (by kernel_rfl) (by kernel_rfl) (by kernel_rfl) (fun _ _ _ h => h) (Or.inl ⟨by rfl, fun W hW => ?_⟩) HD1 ?_
                    · go_simp
                    simp only [Act.put, List.setIfInBounds_toArray, List.set_cons_zero, List.set_cons_succ]
                    refine takeZ (i := 1) (d := 76) (v := .int .i64 s) rfl rfl (by kernel_rfl) (by kernel_rfl) (by kernel_rfl) (fun _ _ _ h => h) (Or.inl ⟨by rfl, fun W hW => ?_⟩) HD1 ?_
                    · go_simp
                    simp only [Act.put, List.setIfInBounds_toArray, List.set_cons_zero, List.set_cons_succ]
                    refine takeZ (i := 2) (d := 77) (v := .pointer (some ⟨g2, s, none⟩)) rfl rfl (by kernel_rfl) (by kernel_rfl) (by kernel_rfl) (fun _ _ _ h => h) (Or.inl ⟨by rfl, fun W hW => ?_⟩) HD1 ?_
                    · go_simp
                    simp only [Act.put, List.setIfInBounds_toArray, List.set_cons_zero, List.set_cons_succ]
                    refine takeZ (i := 3) (d := 78) (v := .int .i64 z) rfl rfl (by kernel_rfl) (by kernel_rfl) (by kernel_rfl) (fun _ _ _ h => h) (Or.inl ⟨by rfl, fun W hW => ?_⟩) HD1 ?_
                    · (obtain ⟨w1, w2, w3⟩ := YY.out W hW; go_simp)
                    simp only [Act.put, List.setIfInBounds_toArray, List.set_cons_zero, List.set_cons_succ]
                    refine takeZ (i := 4) (d := 79) (v := .int .i64 q) rfl rfl (by kernel_rfl) (by kernel_rfl) (by kernel_rfl) (fun _ _ _ h => h) (Or.inl ⟨by rfl, fun W hW => ?_⟩) HD1 ?_
                    · go_simp
                    simp only [Act.put, List.setIfInBounds_toArray, List.set_cons_zero, List.set_cons_succ]
                    refine takeZ (i := 5) (d := 80) (v := .int .i64 s) rfl rfl (by kernel_rfl) (by kernel_rfl) (by kernel_rfl) (fun _ _ _ h => h) (Or.inl ⟨by rfl, fun W hW => ?_⟩) HD1 ?_
                    · go_simp
                    simp only [Act.put, List.setIfInBounds_toArray, List.set_cons_zero, List.set_cons_succ]
                    refine wpAnyH_all (rs := [6]) (by kernel_rfl) (by simp) ?_
                    intro i hi
                    obtain rfl : i = 6 := by simpa using hi
                    unfold wpOp
                    go_simp
                    first | refine (MC.out _).mono ?_ | refine Or.inl ((MC.out _).mono ?_)
                    rintro e W5 ⟨rfl, e5⟩
                    subst e5
                    refine ⟨HD1, ?_⟩
                    refine takeZ (i := 7) (d := 82) (v := .bool false) rfl rfl (by kernel_rfl) (by kernel_rfl) (by kernel_rfl) (fun _ _ _ h => h) (Or.inl ⟨by rfl, fun W hW => ?_⟩) HD1 ?_
                    · go_simp
                    simp only [Act.put, List.setIfInBounds_toArray, List.set_cons_zero, List.set_cons_succ]
                    refine wpAnyH_done (by kernel_rfl) ?_ _
                    go_wp2
                    refine wp_region_held (S := fun W => Kept (fun _ => False) W0 W) (by kernel_rfl) ?_
                    change wpAnyH _ _ _ _ _ _ _ _ (World.drew _)
                    refine takeZ (i := 0) (d := 83) (v := .int .i64 s) rfl rfl (by kernel_rfl) (by kernel_rfl) (by kernel_rfl) (fun _ _ _ h => h) (Or.inl ⟨by rfl, fun W hW => ?_⟩) HD ?_
                    · go_simp
                    simp only [Act.put, List.setIfInBounds_toArray, List.set_cons_zero, List.set_cons_succ]
                    refine takeZ (i := 1) (d := 84) (v := .slice (some ⟨b, off, none⟩) N c) rfl rfl (by kernel_rfl) (by kernel_rfl) (by kernel_rfl) (fun _ _ _ h => h) (Or.inl ⟨by rfl, fun W hW => ?_⟩) HD ?_
                    · go_simp
                    simp only [Act.put, List.setIfInBounds_toArray, List.set_cons_zero, List.set_cons_succ]
                    refine takeZ (i := 2) (d := 85) (v := .int .i64 q) rfl rfl (by kernel_rfl) (by kernel_rfl) (by kernel_rfl) (fun _ _ _ h => h) (Or.inl ⟨by rfl, fun W hW => ?_⟩) HD ?_
                    · go_simp
                    simp only [Act.put, List.setIfInBounds_toArray, List.set_cons_zero, List.set_cons_succ]
                    refine takeZ (i := 3) (d := 86) (v := .pointer (some ⟨b, off + q, none⟩)) rfl rfl (by kernel_rfl) (by kernel_rfl) (by kernel_rfl) (fun _ _ _ h => h) (Or.inl ⟨by rfl, fun W hW => ?_⟩) HD ?_
                    · go_simp
                    simp only [Act.put, List.setIfInBounds_toArray, List.set_cons_zero, List.set_cons_succ]
                    refine takeZ (i := 4) (d := 87) (v := .slice (some ⟨g1, 0, none⟩) nq c1) rfl rfl (by kernel_rfl) (by kernel_rfl) (by kernel_rfl) (fun _ _ _ h => h) (Or.inl ⟨by rfl, fun W hW => ?_⟩) HD ?_
                    · (obtain ⟨w1, w2, w3⟩ := YY.out W hW; go_simp)
                    simp only [Act.put, List.setIfInBounds_toArray, List.set_cons_zero, List.set_cons_succ]
                    refine takeZ (i := 5) (d := 88) (v := .int .i64 nq) rfl rfl (by kernel_rfl) (by kernel_rfl) (by kernel_rfl) (fun _ _ _ h => h) (Or.inl ⟨by rfl, fun W hW => ?_⟩) HD ?_
                    · go_simp
                    simp only [Act.put, List.setIfInBounds_toArray, List.set_cons_zero, List.set_cons_succ]
                    refine takeZ (i := 6) (d := 89) (v := .bool true) rfl rfl (by kernel_rfl) (by kernel_rfl) (by kernel_rfl) (fun _ _ _ h => h) (Or.inl ⟨by rfl, fun W hW => ?_⟩) HD ?_
                    · go_simp
                    simp only [Act.put, List.setIfInBounds_toArray, List.set_cons_zero, List.set_cons_succ]
                    refine takeZ (i := 7) (d := 90) (v := .bool true) rfl rfl (by kernel_rfl) (by kernel_rfl) (by kernel_rfl) (fun _ _ _ h => h) (Or.inl ⟨by rfl, fun W hW => ?_⟩) HD ?_
                    · go_simp
                    simp only [Act.put, List.setIfInBounds_toArray, List.set_cons_zero, List.set_cons_succ]
                    refine takeZ (i := 8) (d := 91) (v := .slice (some ⟨b, off, none⟩) N c) rfl rfl (by kernel_rfl) (by kernel_rfl) (by kernel_rfl) (fun _ _ _ h => h) (Or.inl ⟨by rfl, fun W hW => ?_⟩) HD ?_
                    · go_simp
                    simp only [Act.put, List.setIfInBounds_toArray, List.set_cons_zero, List.set_cons_succ]
                    refine takeZ (i := 9) (d := 92) (v := .int .i64 q) rfl rfl (by kernel_rfl) (by kernel_rfl) (by kernel_rfl) (fun _ _ _ h => h) (Or.inl ⟨by rfl, fun W hW => ?_⟩) HD ?_
                    · go_simp
                    simp only [Act.put, List.setIfInBounds_toArray, List.set_cons_zero, List.set_cons_succ]
                    refine takeZ (i := 10) (d := 93) (v := .pointer (some ⟨b, off + q, none⟩)) rfl rfl (by kernel_rfl) (by kernel_rfl) (by kernel_rfl) (fun _ _ _ h => h) (Or.inl ⟨by rfl, fun W hW => ?_⟩) HD ?_
                    · go_simp
                    simp only [Act.put, List.setIfInBounds_toArray, List.set_cons_zero, List.set_cons_succ]
                    refine takeZ (i := 11) (d := 94) (v := .slice (some ⟨g1, 0, none⟩) nq c1) rfl rfl (by kernel_rfl) (by kernel_rfl) (by kernel_rfl) (fun _ _ _ h => h) (Or.inl ⟨by rfl, fun W hW => ?_⟩) HD ?_
                    · (obtain ⟨w1, w2, w3⟩ := YY.out W hW; go_simp)
                    simp only [Act.put, List.setIfInBounds_toArray, List.set_cons_zero, List.set_cons_succ]
                    refine takeZ (i := 12) (d := 95) (v := .int .i64 s) rfl rfl (by kernel_rfl) (by kernel_rfl) (by kernel_rfl) (fun _ _ _ h => h) (Or.inl ⟨by rfl, fun W hW => ?_⟩) HD ?_
                    · go_simp
                    simp only [Act.put, List.setIfInBounds_toArray, List.set_cons_zero, List.set_cons_succ]
                    refine takeZ (i := 13) (d := 96) (v := .pointer (some ⟨g1, s, none⟩)) rfl rfl (by kernel_rfl) (by kernel_rfl) (by kernel_rfl) (fun _ _ _ h => h) (Or.inl ⟨by rfl, fun W hW => ?_⟩) HD ?_
                    · go_simp
                    simp only [Act.put, List.setIfInBounds_toArray, List.set_cons_zero, List.set_cons_succ]
                    refine takeZ (i := 14) (d := 97) (v := .int .i64 z) rfl rfl (by kernel_rfl) (by kernel_rfl) (by kernel_rfl) (fun _ _ _ h => h) (Or.inl ⟨by rfl, fun W hW => ?_⟩) HD ?_
                    · (obtain ⟨w1, w2, w3⟩ := YY.out W hW; go_simp)
                    simp only [Act.put, List.setIfInBounds_toArray, List.set_cons_zero, List.set_cons_succ]
                    refine takeZ (i := 15) (d := 98) (v := .slice (some ⟨g2, 0, none⟩) (nq + 80) c2) rfl rfl (by kernel_rfl) (by kernel_rfl) (by kernel_rfl) (fun _ _ _ h => h) (Or.inl ⟨by rfl, fun W hW => ?_⟩) HD ?_
                    · go_simp
                    simp only [Act.put, List.setIfInBounds_toArray, List.set_cons_zero, List.set_cons_succ]
                    refine takeZ (i := 16) (d := 99) (v := .int .i64 s) rfl rfl (by kernel_rfl) (by kernel_rfl) (by kernel_rfl) (fun _ _ _ h => h) (Or.inl ⟨by rfl, fun W hW => ?_⟩) HD ?_
                    · go_simp
                    simp only [Act.put, List.setIfInBounds_toArray, List.set_cons_zero, List.set_cons_succ]
                    refine takeZ (i := 17) (d := 100) (v := .pointer (some ⟨g2, s, none⟩)) rfl rfl (by kernel_rfl) (by kernel_rfl) (by kernel_rfl) (fun _ _ _ h => h) (Or.inl ⟨by rfl, fun W hW => ?_⟩) HD ?_
                    · go_simp
                    simp only [Act.put, List.setIfInBounds_toArray, List.set_cons_zero, List.set_cons_succ]
                    refine takeZ (i := 18) (d := 101) (v := .int .i64 z) rfl rfl (by kernel_rfl) (by kernel_rfl) (by kernel_rfl) (fun _ _ _ h => h) (Or.inl ⟨by rfl, fun W hW => ?_⟩) HD ?_
                    · (obtain ⟨w1, w2, w3⟩ := YY.out W hW; go_simp)
                    simp only [Act.put, List.setIfInBounds_toArray, List.set_cons_zero, List.set_cons_succ]
                    refine takeZ (i := 19) (d := 102) (v := .bool false) rfl rfl (by kernel_rfl) (by kernel_rfl) (by kernel_rfl) (fun _ _ _ h => h) (Or.inl ⟨by rfl, fun W hW => ?_⟩) HD ?_
                    · go_simp
                    simp only [Act.put, List.setIfInBounds_toArray, List.set_cons_zero, List.set_cons_succ]
                    refine takeZ (i := 20) (d := 103) (v := .bool false) rfl rfl (by kernel_rfl) (by kernel_rfl) (by kernel_rfl) (fun _ _ _ h => h) (Or.inl ⟨by rfl, fun W hW => ?_⟩) HD ?_
                    · go_simp
                    simp only [Act.put, List.setIfInBounds_toArray, List.set_cons_zero, List.set_cons_succ]
                    refine wpAnyH_done (by kernel_rfl) ?_ _
                    go_wp2
                    go_roundw
                    case rel => exact ⟨s + 1, by omega, by go_num, HD⟩
                    case measure => simp [intOf]; omega
                  · have YY : Hid (∀ W, Kept (fun _ => False) W0 W → W.cell? ⟨b, off + q, none⟩ = some (.slice a1 nq c1) ∧ W.cell? ⟨g2, s, none⟩ = some (.int .i64 z)) := fun W kk => ⟨(YA W kk).1, (YA W kk).2.1⟩
                    have i6 : ¬ ((s : Int) < (nq : Int)) := by omega
                    clear YA HXX RD FIN HM
                    go_wp2
                    refine wp_region_held (S := fun W => Kept (fun _ => False) W0 W) (by kernel_rfl) ?_
                    change wpAnyH _ _ _ _ _ _ _ _ (World.drew _)
                    refine takeZ (i := 0) (d := 75) (v := .slice (some ⟨g2, 0, none⟩) (nq + 80) c2) rfl rfl (by kernel_rfl) (by kernel_rfl) (by kernel_rfl) (fun _ _ _ h => h) (Or.inl ⟨by rfl, fun W hW => ?_⟩) HD1 ?_
                    · go_simp
                    simp only [Act.put, List.setIfInBounds_toArray, List.set_cons_zero, List.set_cons_succ]
                    refine takeZ (i := 1) (d := 76) (v := .int .i64 s) rfl rfl (by kernel_rfl) (by kernel_rfl) (by kernel_rfl) (fun _ _ _ h => h) (Or.inl ⟨by rfl, fun W hW => ?_⟩) HD1 ?_
                    · go_simp
                    simp only [Act.put, List.setIfInBounds_toArray, List.set_cons_zero, List.set_cons_succ]
                    refine takeZ (i := 2) (d := 77) (v := .pointer (some ⟨g2, s, none⟩)) rfl rfl (by kernel_rfl) (by kernel_rfl) (by kernel_rfl) (fun _ _ _ h => h) (Or.inl ⟨by rfl, fun W hW => ?_⟩) HD1 ?_
                    · go_simp
                    simp only [Act.put, List.setIfInBounds_toArray, List.set_cons_zero, List.set_cons_succ]
                    refine takeZ (i := 3) (d := 78) (v := .int .i64 z) rfl rfl (by kernel_rfl) (by kernel_rfl) (by kernel_rfl) (fun _ _ _ h => h) (Or.inl ⟨by rfl, fun W hW => ?_⟩) HD1 ?_
                    · (obtain ⟨w1, w2⟩ := YY.out W hW; go_simp)
                    simp only [Act.put, List.setIfInBounds_toArray, List.set_cons_zero, List.set_cons_succ]
                    refine takeZ (i := 4) (d := 79) (v := .int .i64 q) rfl rfl (by kernel_rfl) (by kernel_rfl) (by kernel_rfl) (fun _ _ _ h => h) (Or.inl ⟨by rfl, fun W hW => ?_⟩) HD1 ?_
                    · go_simp
                    simp only [Act.put, List.setIfInBounds_toArray, List.set_cons_zero, List.set_cons_succ]
                    refine takeZ (i := 5) (d := 80) (v := .int .i64 s) rfl rfl (by kernel_rfl) (by kernel_rfl) (by kernel_rfl) (fun _ _ _ h => h) (Or.inl ⟨by rfl, fun W hW => ?_⟩) HD1 ?_
                    · go_simp
                    simp only [Act.put, List.setIfInBounds_toArray, List.set_cons_zero, List.set_cons_succ]
                    refine wpAnyH_all (rs := [6]) (by kernel_rfl) (by simp) ?_
                    intro i hi
                    obtain rfl : i = 6 := by simpa using hi
                    unfold wpOp
                    go_simp
                    first | refine (MC.out _).mono ?_ | refine Or.inl ((MC.out _).mono ?_)
                    rintro e W5 ⟨rfl, e5⟩
                    subst e5
                    refine ⟨HD1, ?_⟩
                    refine takeZ (i := 7) (d := 82) (v := .bool false) rfl rfl (by kernel_rfl) (by kernel_rfl) (by kernel_rfl) (fun _ _ _ h => h) (Or.inl ⟨by rfl, fun W hW => ?_⟩) HD1 ?_
                    · go_simp
                    simp only [Act.put, List.setIfInBounds_toArray, List.set_cons_zero, List.set_cons_succ]
                    refine wpAnyH_done (by kernel_rfl) ?_ _
                    go_wp2
                    refine wp_region_held (S := fun W => Kept (fun _ => False) W0 W) (by kernel_rfl) ?_
                    change wpAnyH _ _ _ _ _ _ _ _ (World.drew _)
                    refine takeZ (i := 0) (d := 83) (v := .int .i64 s) rfl rfl (by kernel_rfl) (by kernel_rfl) (by kernel_rfl) (fun _ _ _ h => h) (Or.inl ⟨by rfl, fun W hW => ?_⟩) HD ?_
                    · go_simp
                    simp only [Act.put, List.setIfInBounds_toArray, List.set_cons_zero, List.set_cons_succ]
                    refine takeZ (i := 1) (d := 84) (v := .slice (some ⟨b, off, none⟩) N c) rfl rfl (by kernel_rfl) (by kernel_rfl) (by kernel_rfl) (fun _ _ _ h => h) (Or.inl ⟨by rfl, fun W hW => ?_⟩) HD ?_
                    · go_simp
                    simp only [Act.put, List.setIfInBounds_toArray, List.set_cons_zero, List.set_cons_succ]
                    refine takeZ (i := 2) (d := 85) (v := .int .i64 q) rfl rfl (by kernel_rfl) (by kernel_rfl) (by kernel_rfl) (fun _ _ _ h => h) (Or.inl ⟨by rfl, fun W hW => ?_⟩) HD ?_
                    · go_simp
                    simp only [Act.put, List.setIfInBounds_toArray, List.set_cons_zero, List.set_cons_succ]
                    refine takeZ (i := 3) (d := 86) (v := .pointer (some ⟨b, off + q, none⟩)) rfl rfl (by kernel_rfl) (by kernel_rfl) (by kernel_rfl) (fun _ _ _ h => h) (Or.inl ⟨by rfl, fun W hW => ?_⟩) HD ?_
                    · go_simp
                    simp only [Act.put, List.setIfInBounds_toArray, List.set_cons_zero, List.set_cons_succ]
                    refine takeZ (i := 4) (d := 87) (v := .slice a1 nq c1) rfl rfl (by kernel_rfl) (by kernel_rfl) (by kernel_rfl) (fun _ _ _ h => h) (Or.inl ⟨by rfl, fun W hW => ?_⟩) HD ?_
                    · (obtain ⟨w1, w2⟩ := YY.out W hW; go_simp)
                    simp only [Act.put, List.setIfInBounds_toArray, List.set_cons_zero, List.set_cons_succ]
                    refine takeZ (i := 5) (d := 88) (v := .int .i64 nq) rfl rfl (by kernel_rfl) (by kernel_rfl) (by kernel_rfl) (fun _ _ _ h => h) (Or.inl ⟨by rfl, fun W hW => ?_⟩) HD ?_
                    · go_simp
                    simp only [Act.put, List.setIfInBounds_toArray, List.set_cons_zero, List.set_cons_succ]
                    refine takeZ (i := 6) (d := 89) (v := .bool false) rfl rfl (by kernel_rfl) (by kernel_rfl) (by kernel_rfl) (fun _ _ _ h => h) (Or.inl ⟨by rfl, fun W hW => ?_⟩) HD ?_
                    · go_simp
                    simp only [Act.put, List.setIfInBounds_toArray, List.set_cons_zero, List.set_cons_succ]
                    refine takeZ (i := 7) (d := 90) (v := .bool false) rfl rfl (by kernel_rfl) (by kernel_rfl) (by kernel_rfl) (fun _ _ _ h => h) (Or.inl ⟨by rfl, fun W hW => ?_⟩) HD ?_
                    · go_simp
                    simp only [Act.put, List.setIfInBounds_toArray, List.set_cons_zero, List.set_cons_succ]
                    refine takeZ (i := 8) (d := 91) (v := undef) rfl rfl (by kernel_rfl) (by kernel_rfl) (by kernel_rfl) (fun _ _ _ h => h) (Or.inr ⟨by rfl, rfl⟩) HD ?_
                    simp only [Act.put, List.setIfInBounds_toArray, List.set_cons_zero, List.set_cons_succ]
                    refine takeZ (i := 9) (d := 92) (v := undef) rfl rfl (by kernel_rfl) (by kernel_rfl) (by kernel_rfl) (fun _ _ _ h => h) (Or.inr ⟨by rfl, rfl⟩) HD ?_
                    simp only [Act.put, List.setIfInBounds_toArray, List.set_cons_zero, List.set_cons_succ]
                    refine takeZ (i := 10) (d := 93) (v := undef) rfl rfl (by kernel_rfl) (by kernel_rfl) (by kernel_rfl) (fun _ _ _ h => h) (Or.inr ⟨by rfl, rfl⟩) HD ?_
                    simp only [Act.put, List.setIfInBounds_toArray, List.set_cons_zero, List.set_cons_succ]
                    refine takeZ (i := 11) (d := 94) (v := undef) rfl rfl (by kernel_rfl) (by kernel_rfl) (by kernel_rfl) (fun _ _ _ h => h) (Or.inr ⟨by rfl, rfl⟩) HD ?_
                    simp only [Act.put, List.setIfInBounds_toArray, List.set_cons_zero, List.set_cons_succ]
                    refine takeZ (i := 12) (d := 95) (v := undef) rfl rfl (by kernel_rfl) (by kernel_rfl) (by kernel_rfl) (fun _ _ _ h => h) (Or.inr ⟨by rfl, rfl⟩) HD ?_
                    simp only [Act.put, List.setIfInBounds_toArray, List.set_cons_zero, List.set_cons_succ]
                    refine takeZ (i := 13) (d := 96) (v := undef) rfl rfl (by kernel_rfl) (by kernel_rfl) (by kernel_rfl) (fun _ _ _ h => h) (Or.inr ⟨by rfl, rfl⟩) HD ?_
                    simp only [Act.put, List.setIfInBounds_toArray, List.set_cons_zero, List.set_cons_succ]
                    refine takeZ (i := 14) (d := 97) (v := undef) rfl rfl (by kernel_rfl) (by kernel_rfl) (by kernel_rfl) (fun _ _ _ h => h) (Or.inr ⟨by rfl, rfl⟩) HD ?_
                    simp only [Act.put, List.setIfInBounds_toArray, List.set_cons_zero, List.set_cons_succ]
                    refine takeZ (i := 15) (d := 98) (v := undef) rfl rfl (by kernel_rfl) (by kernel_rfl) (by kernel_rfl) (fun _ _ _ h => h) (Or.inr ⟨by rfl, rfl⟩) HD ?_
                    simp only [Act.put, List.setIfInBounds_toArray, List.set_cons_zero, List.set_cons_succ]
                    refine takeZ (i := 16) (d := 99) (v := undef) rfl rfl (by kernel_rfl) (by kernel_rfl) (by kernel_rfl) (fun _ _ _ h => h) (Or.inr ⟨by rfl, rfl⟩) HD ?_
                    simp only [Act.put, List.setIfInBounds_toArray, List.set_cons_zero, List.set_cons_succ]
                    refine takeZ (i := 17) (d := 100) (v := undef) rfl rfl (by kernel_rfl) (by kernel_rfl) (by kernel_rfl) (fun _ _ _ h => h) (Or.inr ⟨by rfl, rfl⟩) HD ?_
                    simp only [Act.put, List.setIfInBounds_toArray, List.set_cons_zero, List.set_cons_succ]
                    refine takeZ (i := 18) (d := 101) (v := undef) rfl rfl (by kernel_rfl) (by kernel_rfl) (by kernel_rfl) (fun _ _ _ h => h) (Or.inr ⟨by rfl, rfl⟩) HD ?_
                    simp only [Act.put, List.setIfInBounds_toArray, List.set_cons_zero, List.set_cons_succ]
                    refine takeZ (i := 19) (d := 102) (v := undef) rfl rfl (by kernel_rfl) (by kernel_rfl) (by kernel_rfl) (fun _ _ _ h => h) (Or.inr ⟨by rfl, rfl⟩) HD ?_
                    simp only [Act.put, List.setIfInBounds_toArray, List.set_cons_zero, List.set_cons_succ]
                    refine takeZ (i := 20) (d := 103) (v := .bool false) rfl rfl (by kernel_rfl) (by kernel_rfl) (by kernel_rfl) (fun _ _ _ h => h) (Or.inl ⟨by rfl, fun W hW => ?_⟩) HD ?_
                    · go_simp
                    simp only [Act.put, List.setIfInBounds_toArray, List.set_cons_zero, List.set_cons_succ]
                    refine wpAnyH_done (by kernel_rfl) ?_ _
                    go_wp2
                    go_roundw
                    case rel => exact ⟨s + 1, by omega, by go_num, HD⟩
                    case measure => simp [intOf]; omega
                · have hse : s = nq + 80 := by omega
                  have i4 : ¬ ((s : Int) < ((nq + 80 : Nat) : Int)) := by omega
                  go_wp2
                  go_roundw
                  case rel => exact ⟨q + 1, by omega, by go_num, HS⟩
                  case measure => simp [intOf]; omega
            · have i3 : ¬ ((q : Int) < (N : Int)) := by omega
              have HF := hideI (FIN.out wr HQ.out)
              clear RD FIN
              go_wp2
              go_ret
              exact ⟨rfl, HF.out⟩
end Go.Proofs.YtiebmmpnmklpnaaDoor
