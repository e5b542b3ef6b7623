import Derived.Test.YtoglgicmnhklbaaDoorRsc
import Derived.Test.YtoglgicmnhklbaaDoorRgb
import Derived.Sort.QuietIn
import Derived.Test.YtoglgicmnhklbaaDoorLiv2
import Derived.BigQuiet
namespace Go.Proofs.YtoglgicmnhklbaaDoor
open Go.ChangeShapes Go.WideShapes Go.ChangeAt Go.RowKit Go.Shelf
attribute [local go_sem] Oper.semAt_some

/-- What the document's Scan has told, as it lies, in blocks from s on. -/
structure RsB (s : Nat) (L : List Int) (pre : List Sx) (e1 e2 : Option Addr) (c1 c2 N : Nat) (W : World) : Prop where
  len : N = pre.length
  pl : PlacesAt W e1 (pre.map Sx.p)
  bk : BksAt W e2 (pre.map Sx.D)
  each : ∀ x ∈ pre.map Sx.D, x.At W
  dat : pre.map Sx.dat = scan L
  yng : ∀ x ∈ pre.map Sx.D, x.B ≠ [] → ∀ ad, x.a = some ad → s ≤ ad.block
  y1 : ∀ ad, e1 = some ad → s ≤ ad.block
  y2 : ∀ ad, e2 = some ad → s ≤ ad.block
  shape : (N = 0 ∧ e1 = none ∧ c1 = 0 ∧ e2 = none ∧ c2 = 0) ∨ (∃ g1 g2, e1 = some ⟨g1, 0, none⟩ ∧ e2 = some ⟨g2, 0, none⟩ ∧ N ≤ c1 ∧ N ≤ c2 ∧ 0 < N)
theorem RsB.keptX {s : Nat} {L : List Int} {pre : List Sx} {e1 e2 : Option Addr} {c1 c2 N : Nat} {W W' : World} {X : Nat → Prop} (h : RsB s L pre e1 e2 c1 c2 N W) (k : Kept X W W') (hX : ∀ i, X i → i < s) : RsB s L pre e1 e2 c1 c2 N W' := by
  refine ⟨h.len, fun hne => ?_, fun hne => ?_, fun x hx => (h.each x hx).far k (fun hne ad had f => ?_), h.dat, h.yng, h.y1, h.y2, h.shape⟩
  · obtain ⟨b, off, e, hc⟩ := h.pl hne
    refine ⟨b, off, e, fun j hj => k.cell (hc j hj) (fun f => ?_)⟩
    have := h.y1 _ e
    have := hX _ f
    simp only at *
    omega
  · obtain ⟨b, off, e, hc⟩ := h.bk hne
    have h2 := h.y2 _ e
    refine ⟨b, off, e, fun j hj => ⟨k.cell (hc j hj).1 (fun f => ?_), k.cell (hc j hj).2 (fun f => ?_)⟩⟩ <;>
    · have := hX _ f
      simp only at *
      omega
  · have := h.yng x hx hne ad had
    have := hX _ f
    omega
theorem RsB.same {s : Nat} {L : List Int} {pre : List Sx} {e1 e2 : Option Addr} {c1 c2 N : Nat} {W W' : World} (h : RsB s L pre e1 e2 c1 c2 N W) (k : Kept (fun _ => False) W W') : RsB s L pre e1 e2 c1 c2 N W' := h.keptX k (fun _ f => f.elim)
theorem RsB.caps {s : Nat} {L : List Int} {pre : List Sx} {e1 e2 : Option Addr} {c1 c2 N : Nat} {W : World} (h : RsB s L pre e1 e2 c1 c2 N W) : N ≤ c1 ∧ N ≤ c2 := by
  rcases h.shape with ⟨h0, _⟩ | ⟨_, _, _, _, h1, h2, _⟩
  · omega
  · exact ⟨h1, h2⟩
theorem dat_take {pre q : List Sx} {k : Nat} (h : q.map Sx.dat = (pre.map Sx.dat).take k) : q.map Sx.p = (pre.map Sx.p).take k ∧ (q.map Sx.D).map bkv = ((pre.map Sx.D).take k).map bkv := by
  have h1 := congrArg (List.map fun y : Nat × Int × List Int => y.1) h
  have h2 := congrArg (List.map fun y : Nat × Int × List Int => (y.2.1, y.2.2)) h
  rw [List.map_map, List.map_take, List.map_map] at h1 h2
  refine ⟨h1, ?_⟩
  rw [List.map_map, List.map_take, List.map_map]
  exact h2
theorem PlacesAt.take' {W : World} {a : Option Addr} {P : List Nat} (h : PlacesAt W a P) (m : Nat) : PlacesAt W a (P.take m) := by
  intro hne
  obtain ⟨b, off, e, hc⟩ := h (by intro e; rw [e] at hne; simp at hne)
  refine ⟨b, off, e, fun k hk => ?_⟩
  rw [List.length_take] at hk
  rw [List.getElem?_take, if_pos (by omega)]
  exact hc k (by omega)
theorem BksAt.take {W : World} {a : Option Addr} {S : List BkD} (h : BksAt W a S) (m : Nat) : BksAt W a (S.take m) := by
  intro hne
  obtain ⟨b, off, e, hc⟩ := h (by intro e; rw [e] at hne; simp at hne)
  refine ⟨b, off, e, fun k hk => ?_⟩
  rw [List.getElem_take]
  exact hc k (by rw [List.length_take] at hk; omega)
theorem wpList_max {P : Program} {W : World} {ops : Array Oper} {rest : List Oper} {o : Oper} {act : Act} {Q : Exit → Act → World → Prop} {ts : Array TypeId} (hgd : o.guard = none) (s t : Operand)
    (ho : o.op = .call { callee := .builtin .max, args := #[s, t], argTypes := ts }) (x y m : Int) (hs : act.eval s = .int .i64 x) (ht : act.eval t = .int .i64 y) (hm : m = if y > x then y else x)
    (h : wpList P ops Q rest (act.put o.dst (.int .i64 m)) W) : wpList P ops Q (o :: rest) act W := by
  refine wpList_plain hgd fun K hK => ?_
  have hr : ∀ ty, (Builtin.max_ ts ty #[.int .i64 x, .int .i64 y]).run P W = .ok (.int .i64 m) W := fun ty => by rw [hm]; simp [Builtin.max_, Builtin.max2]
  unfold Oper.wp execOp
  simp only [ho, resolve, invoke, builtin, Sem.run_bind, Sem.run_pure, Result.andThen_ok, List.map_toArray, List.map_cons, List.map_nil, hs, ht, hr]
  exact hK _ _ h
theorem wpList_min {P : Program} {W : World} {ops : Array Oper} {rest : List Oper} {o : Oper} {act : Act} {Q : Exit → Act → World → Prop} {ts : Array TypeId} (hgd : o.guard = none) (s t : Operand)
    (ho : o.op = .call { callee := .builtin .min, args := #[s, t], argTypes := ts }) (x y m : Int) (hs : act.eval s = .int .i64 x) (ht : act.eval t = .int .i64 y) (hm : m = if y < x then y else x)
    (h : wpList P ops Q rest (act.put o.dst (.int .i64 m)) W) : wpList P ops Q (o :: rest) act W := by
  refine wpList_plain hgd fun K hK => ?_
  have hr : ∀ ty, (Builtin.min_ ts ty #[.int .i64 x, .int .i64 y]).run P W = .ok (.int .i64 m) W := fun ty => by rw [hm]; simp [Builtin.min_, Builtin.min2]
  unfold Oper.wp execOp
  simp only [ho, resolve, invoke, builtin, Sem.run_bind, Sem.run_pure, Result.andThen_ok, List.map_toArray, List.map_cons, List.map_nil, hs, ht, hr]
  exact hK _ _ h
theorem clamp (m0 : Int) (N : Nat) (h : 0 ≤ m0) : ∃ k : Nat, k ≤ N ∧ (k : Int) = if (N : Int) < m0 then (N : Int) else m0 := by
  by_cases hN : (N : Int) < m0
  · exact ⟨N, Nat.le_refl _, by rw [if_pos hN]⟩
  · exact ⟨m0.toNat, by omega, by rw [if_neg hN]; omega⟩
/-- The law's memory. -/
structure Fs (w W3 : World) (b6 : Nat) (L : List Int) (stop : Int) (am : Option Addr) (cm n : Nat) (pre : List Sx) (e1 e2 : Option Addr) (c1 c2 N : Nat) (W : World) : Prop where
  kw : Kept (fun _ => False) w W
  b3 : W.heap[w.heap.size]? = some (.cells #[.int .i64 stop] 3 (0, 0))
  b4 : W.heap[w.heap.size + 1]? = some (.cells #[.bool false] 4 (0, 0))
  m : BytesAt W am L
  z : am = none → cm = 0
  k3 : Kept (fun _ => False) W3 W
  R : RsB W3.heap.size L pre e1 e2 c1 c2 N W
  h6 : W.heap[b6]? = some (.cells #[.slice e1 N c1] 24 (0, 0))
  h7 : W.heap[b6 + 1]? = some (.cells #[.slice e2 N c2] 25 (0, 0))
theorem Fs.same {w W3 : World} {b6 : Nat} {L : List Int} {stop : Int} {am : Option Addr} {cm n : Nat} {pre : List Sx} {e1 e2 : Option Addr} {c1 c2 N : Nat} {W W' : World} (h : Fs w W3 b6 L stop am cm n pre e1 e2 c1 c2 N W) (k : Kept (fun _ => False) W W') : Fs w W3 b6 L stop am cm n pre e1 e2 c1 c2 N W' :=
  ⟨h.kw.trans k (fun _ f => f.elim), k.heap h.b3 (fun f => f), k.heap h.b4 (fun f => f), bytes_keptF h.m k, h.z, h.k3.trans k (fun _ f => f.elim), h.R.same k, k.heap h.h6 (fun f => f), k.heap h.h7 (fun f => f)⟩
theorem fs_start {w W2 W3 W4 : World} {L : List Int} {stop : Int} {am : Option Addr} {cm n : Nat} {pre : List Sx} {e1 e2 : Option Addr} {c1 c2 N : Nat} (k2 : Kept (fun _ => False) ((w.alloc (.cells #[.int .i64 stop] 3)).alloc (.cells #[.bool false] 4)) W2) (hm : OwnB W2 W3 (.slice am n cm) L) (hR : RsB W3.heap.size L pre e1 e2 c1 c2 N W4) (k4 : Kept (fun _ => False) W3 W4) :
    Fs w W3 W4.heap.size L stop am cm n pre e1 e2 c1 c2 N ((W4.alloc (.cells #[.slice e1 N c1] 24)).alloc (.cells #[.slice e2 N c2] 25)) := by
  have ka := Kept.alloc W4 (.cells #[.slice e1 N c1] 24)
  have kb := Kept.alloc (W4.alloc (.cells #[.slice e1 N c1] 24)) (.cells #[.slice e2 N c2] 25)
  have k24 : Kept (fun _ => False) W2 ((W4.alloc (.cells #[.slice e1 N c1] 24)).alloc (.cells #[.slice e2 N c2] 25)) := ((hm.kept.trans k4 (fun _ f => f.elim)).trans ka (fun _ f => f.elim)).trans kb (fun _ f => f.elim)
  have k1 := Kept.alloc w (.cells #[.int .i64 stop] 3)
  have k1b := Kept.alloc (w.alloc (.cells #[.int .i64 stop] 3)) (.cells #[.bool false] 4)
  have q0 := k1b.heap (heap_alloc_new w (.cells #[.int .i64 stop] 3)) (fun f => f)
  have q1 := heap_alloc_new (w.alloc (.cells #[.int .i64 stop] 3)) (.cells #[.bool false] 4)
  rw [World.size_alloc] at q1
  have q7 := heap_alloc_new (W4.alloc (.cells #[.slice e1 N c1] 24)) (.cells #[.slice e2 N c2] 25)
  rw [World.size_alloc] at q7
  have k45 := k4.trans ka (fun _ f => f.elim)
  exact ⟨((k1.trans k1b (fun _ f => f.elim)).trans k2 (fun _ f => f.elim)).trans k24 (fun _ f => f.elim), k24.heap (k2.heap q0 (fun f => f)) (fun f => f), k24.heap (k2.heap q1 (fun f => f)) (fun f => f), bytes_keptF (bytes_keptF (own_at2' hm).1 k45) kb, (own_at2' hm).2, k45.trans kb (fun _ f => f.elim), (hR.same ka).same kb, kb.heap (heap_alloc_new W4 _) (fun f => f), q7⟩
theorem set_block {W : World} {b k : Nat} {cs : Array Value} {t : TypeId} {fr : Nat × Nat} {u : Value} (h : W.heap[b]? = some (.cells cs t fr)) : (W.setCell ⟨b, k, none⟩ u).heap[b]? = some (.cells (cs.setIfInBounds k u) t fr) := by
  have hlt := size_of_some h
  have h' : W.heap[b] = .cells cs t fr := by simpa [Array.getElem?_eq_getElem hlt] using h
  show (W.heap.modify b _)[b]? = _
  rw [Array.getElem?_eq_getElem (by simpa using hlt), Array.getElem_modify_self, h']
  rfl
def mkD (D : Nat) : Deferred := { target := .collected D, args := #[] }
/-- The marks that loops over functions have left. -/
structure Marks (s : Nat) (Ds : List Nat) (W : World) : Prop where
  nd : Ds.Nodup
  low : ∀ D ∈ Ds, s ≤ D
  at_ : ∀ D ∈ Ds, W.heap[D]? = some (.deferred (some []))
theorem leaves_marks {F : Fence} {n : Nat} {P : Program} {fn : Func} {tmps : Array Value} {R : Ending → World → Prop} : ∀ (Ds : List Nat) (W : World), Ds.Nodup → (∀ D ∈ Ds, W.heap[D]? = some (.deferred (some []))) → (∀ W', Kept (fun i => i ∈ Ds) W W' → LeavesInM F n P fn tmps R [] .returning W') → LeavesInM F n P fn tmps R (Ds.map mkD) .returning W
  | [], W, _, _, h => h W (Kept.refl _ _)
  | D :: Ds, W, hn, ha, h => by
    refine ⟨by simp, .inl ⟨D, _, rfl, run_takeDeferred (ha D (by simp)), leaves_marks Ds _ (List.nodup_cons.1 hn).2 (fun E hE => ?_) (fun W' k => h W' ?_)⟩⟩
    · rw [World.putObj_heap_other (fun e => (List.nodup_cons.1 hn).1 (by rw [← e]; exact hE))]
      exact ha E (by simp [hE])
    · exact ((kept_put1 W D _).mono fun i hi => .inl (by simp [hi])).trans k (fun i hi => .inl (by simp [hi]))
/-- How many turns are left. -/
def turnsLeft (act : Act) (W : World) : Nat := match act.tmps.getD 13 undef with
  | .pointer (some p) => (match W.cell? p with
    | some (.int _ i) => (2 - i).toNat
    | _ => 0)
  | _ => 0
/-- mine, while it is written over. -/
structure Mn (am : Option Addr) (n : Nat) (W0 W : World) : Prop where
  k : Kept (fun i => ∃ ad, am = some ad ∧ ad.block = i) W0 W
  c : 0 < n → ∃ g cur, am = some ⟨g, 0, none⟩ ∧ W.heap[g]? = some (.cells cur 5 (0, 0)) ∧ ∀ j, j < n → ∃ v : Int, cur[j]? = some (.int .u8 v)
theorem mn_start {W2 W : World} {am : Option Addr} {n cm : Nat} {L : List Int} (h : OwnB W2 W (.slice am n cm) L) (hn : n = L.length) : Mn am n W W := by
  refine ⟨Kept.refl _ _, fun h0 => ?_⟩
  rcases h.row.2 with ⟨e, _⟩ | ⟨g, cap, cur, e, _, hg, hle, _, hcs, ht⟩
  · simp only [Value.slice.injEq] at e
    omega
  · simp only [Value.slice.injEq] at e
    refine ⟨g, cur, e.1, hg, fun j hj => ⟨L[j]?.getD 0, ?_⟩⟩
    have h1 : (bs L)[j]? = some (.int .u8 (L[j]?.getD 0)) := by
      unfold bs
      rw [List.getElem?_map, List.getElem?_eq_getElem (by omega)]; rfl
    rw [← ht, List.getElem?_take] at h1
    split at h1
    · simpa using h1
    · cases h1
theorem Mn.set {n g j : Nat} {W0 W : World} {cur : Array Value} {v : Int} (h : Mn (some ⟨g, 0, none⟩) n W0 W) (hg : W.heap[g]? = some (.cells cur 5 (0, 0))) (hc : ∀ j, j < n → ∃ v : Int, cur[j]? = some (.int .u8 v)) : Mn (some ⟨g, 0, none⟩) n W0 (W.setCell ⟨g, j, none⟩ (.int .u8 v)) := by
  refine ⟨h.k.trans (Kept.setCell W ⟨g, j, none⟩ _) (fun i hi => .inl ⟨_, rfl, hi.symm⟩), fun _ => ⟨g, _, rfl, set_block hg, fun i hi => ?_⟩⟩
  obtain ⟨x, hx⟩ := hc i hi
  by_cases e : j = i
  · subst e
    have := (Array.getElem?_eq_some_iff.1 hx).1
    exact ⟨v, by rw [Array.getElem?_setIfInBounds_self_of_lt this]⟩
  · exact ⟨x, by rw [Array.getElem?_setIfInBounds_ne e]; exact hx⟩
/-- The law's memory ahead of its two turns. -/
structure Ft (w W3 : World) (b6 : Nat) (L : List Int) (stop : Int) (pre : List Sx) (e1 e2 : Option Addr) (c1 c2 N bk : Nat) (ac : Option Addr) (cc n : Nat) (W : World) : Prop where
  kw : Kept (fun _ => False) w W
  b3 : W.heap[w.heap.size]? = some (.cells #[.int .i64 stop] 3 (0, 0))
  b4 : W.heap[w.heap.size + 1]? = some (.cells #[.bool false] 4 (0, 0))
  R : RsB W3.heap.size L pre e1 e2 c1 c2 N W
  h6 : W.heap[b6]? = some (.cells #[.slice e1 N c1] 24 (0, 0))
  h7 : W.heap[b6 + 1]? = some (.cells #[.slice e2 N c2] 25 (0, 0))
  box : W.cell? ⟨bk, 0, none⟩ = some (.slice ac n cc)
  cl : BytesAt W ac L
  a0 : 0 < cc → ∃ b, ac = some ⟨b, 0, none⟩
  cp : n ≤ cc
theorem Ft.same {w W3 : World} {b6 : Nat} {L : List Int} {stop : Int} {pre : List Sx} {e1 e2 : Option Addr} {c1 c2 N bk : Nat} {ac : Option Addr} {cc n : Nat} {W W' : World} (h : Ft w W3 b6 L stop pre e1 e2 c1 c2 N bk ac cc n W) (k : Kept (fun _ => False) W W') : Ft w W3 b6 L stop pre e1 e2 c1 c2 N bk ac cc n W' :=
  ⟨h.kw.trans k (fun _ f => f.elim), k.heap h.b3 (fun f => f), k.heap h.b4 (fun f => f), h.R.same k, k.heap h.h6 (fun f => f), k.heap h.h7 (fun f => f), k.cell h.box (fun f => f), bytes_keptF h.cl k, h.a0, h.cp⟩
theorem ft_start {w W2 W3 W4 W11 W12 W13 : World} {L : List Int} {stop : Int} {am ac : Option Addr} {cm n bk cc : Nat} {pre : List Sx} {e1 e2 : Option Addr} {c1 c2 N : Nat} (k2 : Kept (fun _ => False) ((w.alloc (.cells #[.int .i64 stop] 3)).alloc (.cells #[.bool false] 4)) W2) (hm : OwnB W2 W3 (.slice am n cm) L) (h34 : W3.heap.size ≤ W4.heap.size) (hF : Fs w W3 W4.heap.size L stop am cm n pre e1 e2 c1 c2 N W12) (h11 : W3.heap.size ≤ W11.heap.size)
    (z1 : W11.heap.size ≤ bk) (z2 : W12.cell? ⟨bk, 0, none⟩ = some (.slice ac n cc)) (z3 : OwnB W11 W12 (.slice ac n cc) L) (hM : Mn am n W12 W13) : Ft w W3 W4.heap.size L stop pre e1 e2 c1 c2 N bk ac cc n W13 := by
  have hk := hM.k
  have s2 : w.heap.size + 2 ≤ W2.heap.size := by have := k2.size; simp at this; omega
  have hX : ∀ i, (∃ ad, am = some ad ∧ ad.block = i) → w.heap.size + 2 ≤ i ∧ i < W3.heap.size := by
    rintro i ⟨ad, h, rfl⟩
    have := hm.row.lt ad.block (by rw [h]; rfl)
    omega
  obtain ⟨o1, o2, o3⟩ := own_scan z3
  refine ⟨hF.kw.trans hk (fun i hi => .inr (by have := hX i hi; omega)), hk.heap hF.b3 (fun f => by have := hX _ f; omega), hk.heap hF.b4 (fun f => by have := hX _ f; omega), hF.R.keptX hk (fun i hi => (hX i hi).2), hk.heap hF.h6 (fun f => by have := hX _ f; omega), hk.heap hF.h7 (fun f => by have := hX _ f; omega), hk.cell z2 (fun f => by have := hX _ f; simp only at this; omega), fun hne => ?_, o1, o2⟩
  obtain ⟨b, off, e, hc⟩ := (own_at2' z3).1 hne
  refine ⟨b, off, e, fun j hj => hk.cell (hc j hj) (fun f => ?_)⟩
  have h1 := hX _ f
  have h2 := o3 _ e
  simp only at h1 h2
  omega
theorem scm_put (w : World) {L : List Int} : ∀ pre x s B B' r, ScM L pre x s B → B.heap[w.heap.size + 1]? = some (.loop r) → Kept (fun i => i = w.heap.size + 1) B B' → ScM L pre x s B' := by
  intro pre x s B B' r hm hr k
  refine ⟨k.row hm.row (fun i hi hx => ?_), hm.t0, hm.t2, hm.isb, hm.come⟩
  rcases hm.row.2 with ⟨e, _⟩ | ⟨g, cap, cur, e, _, hg, _⟩
  · rw [e] at hi
    cases hi
  · rw [e] at hi
    have hi : g = i := Option.some.inj hi
    rw [← hx, ← hi, hg] at hr
    cases hr
theorem load_bool {W : World} {g : Nat} {v : Value} (h : W.cell? ⟨g, 0, none⟩ = some v) : (loadVar 4 ⟨g, 0, none⟩).run Tryd.prog W = .ok v W := by
  simp [loadVar, load, Sem.run, h]
theorem results_cellb {fn : Func} {p : Tmp} (h : fn.results = #[.cell p 4]) (tmps : Array Value) (w : World) (g : Nat) (hp : tmps.getD p undef = .pointer (some ⟨g, 0, none⟩)) {v : Value} (hc : w.cell? ⟨g, 0, none⟩ = some v) :
    (results fn tmps).run Tryd.prog w = .ok v w := by
  have hp' : tmps[p]?.getD undef = .pointer (some ⟨g, 0, none⟩) := by simpa using hp
  simp [results, h, hp', asAddr, load_bool hc]
/-- Where a turn's loop over Scan stands. -/
structure FrI (W Wc : World) (L : List Int) (stop : Int) (first : Bool) (p : List Sx) (A : World) : Prop where
  k : Kept (fun i => i = W.heap.size) Wc A
  i : A.heap[W.heap.size]? = some (.cells #[.int .i64 (p.length : Nat)] 3 (0, 0))
  come : ∃ rest, scan L = p.map Sx.dat ++ rest
  low : first = true → p = [] ∨ (p.length : Int) ≤ stop
theorem FrI.kw {W Wc A : World} {L : List Int} {stop : Int} {first : Bool} {p : List Sx} (h : FrI W Wc L stop first p A) (kc : Kept (fun _ => False) W Wc) : Kept (fun _ => False) W A := kc.trans h.k (fun i hi => .inr (by omega))
theorem FrI.keptX {W Wc A A' : World} {L : List Int} {stop : Int} {first : Bool} {p : List Sx} {X : Nat → Prop} (h : FrI W Wc L stop first p A) (k : Kept X A A') (hX : ∀ i, X i → Wc.heap.size ≤ i) (hz : W.heap.size < Wc.heap.size) : FrI W Wc L stop first p A' :=
  ⟨h.k.trans k (fun i hi => .inr (hX i hi)), k.heap h.i (fun f => by have := hX _ f; omega), h.come, h.low⟩
theorem rs_at {s : Nat} {L : List Int} {pre q : List Sx} {e1 e2 : Option Addr} {c1 c2 N i : Nat} {W : World} {x : Sx} {rest : List (Nat × Int × List Int)} (h : RsB s L pre e1 e2 c1 c2 N W) (hc : scan L = (q ++ [x]).map Sx.dat ++ rest) (hi : i = q.length) :
    i < N ∧ ∃ g1 g2 y, e1 = some ⟨g1, 0, none⟩ ∧ e2 = some ⟨g2, 0, none⟩ ∧ W.cell? ⟨g1, i, none⟩ = some (.int .i64 x.p) ∧ W.cell? ⟨g2, i * 2, none⟩ = some (.int .u8 x.D.t) ∧ W.cell? ⟨g2, i * 2 + 1, none⟩ = some (.slice y.a x.D.B.length y.c) ∧ y.B = x.D.B ∧ BkD.At W y := by
  have hd := h.dat
  rw [hc] at hd
  have hlen := congrArg List.length hd
  rw [List.length_map, ← h.len, List.length_append, List.length_map, List.length_append] at hlen
  have hiN : i < N := by simp only [List.length_cons, List.length_nil] at hlen; omega
  have hip : i < pre.length := by rw [← h.len]; exact hiN
  have hx : (pre[i]).dat = x.dat := by
    have h1 : (pre.map Sx.dat)[i]? = some (pre[i]).dat := by rw [List.getElem?_map, List.getElem?_eq_getElem hip]; rfl
    rw [hd, List.getElem?_append_left (by rw [List.length_map, List.length_append]; simp only [List.length_cons, List.length_nil]; omega), List.getElem?_map, List.getElem?_append_right (by omega), show i - q.length = 0 by omega] at h1
    simpa using h1.symm
  simp only [Sx.dat, Prod.mk.injEq] at hx
  refine ⟨hiN, ?_⟩
  rcases h.shape with ⟨h0, _⟩ | ⟨g1, g2, rfl, rfl, _⟩
  · omega
  · have hne : pre ≠ [] := by intro e; rw [e] at hip; simp at hip
    obtain ⟨b, off, e, hp⟩ := h.pl (by intro e; exact hne (List.map_eq_nil_iff.1 e))
    obtain ⟨b2, off2, e', hb⟩ := h.bk (by intro e; exact hne (List.map_eq_nil_iff.1 e))
    simp only [Option.some.injEq, Addr.mk.injEq, and_true] at e e'
    obtain ⟨rfl, rfl⟩ := e
    obtain ⟨rfl, rfl⟩ := e'
    have p1 := hp i (by rw [List.length_map]; exact hip)
    have p2 := hb i (by rw [List.length_map]; exact hip)
    rw [Nat.zero_add, List.getElem?_map, List.getElem?_eq_getElem hip] at p1
    simp only [Option.map_some, Option.getD_some] at p1
    rw [hx.1] at p1
    simp only [List.getElem_map, Nat.zero_add] at p2
    have ht : (pre[i]).D.t = x.D.t := by have := hx.2.1; omega
    rw [ht, hx.2.2] at p2
    exact ⟨g1, g2, (pre[i]).D, rfl, rfl, p1, p2.1, p2.2, hx.2.2, h.each _ (List.mem_map.2 ⟨_, List.getElem_mem hip, rfl⟩)⟩
set_option maxRecDepth 100000 in
set_option maxHeartbeats 16000000 in
theorem scans_walk (L : List Int) (a : Option Addr) (n c : Nat) (stop : Int) (w : World) {a0 a1 a5 a6 : Addr} (hn : n = L.length) (hB : BytesAt w a L) (hb : IsBytes L) (ha : a = none → c = 0) (hc : n ≤ c) (hl : n ≤ 1099511627776) (hs1 : -9223372036854775808 ≤ stop) (hs2 : stop < 9223372036854775808) (hT : TabAt w) (hE : Errs4 w a0 a1 a5 a6) :
    Calls Tryd.prog 3 #[.slice a n c, .int .i64 stop] w fun e w' => e = .returned (.bool true) ∧ Kept (fun _ => False) w w' := by
  have LV : Hid (∀ W, Kept (fun _ => False) w W → Calls Tryd.prog 6 #[] W fun e W' => e = .returned (.bool true) ∧ Hid (Kept (fun _ => False) W W')) := fun W q => (lives2_any W (hT.kept q)).mono fun e W q => ⟨q.1, q.2⟩
  have RS : Hid (∀ W, Kept (fun _ => False) w W → Calls Tryd.prog 7 #[.slice a n c] W fun e W' => ∃ (pre : List Sx) (e1 e2 : Option Addr) (c1 c2 N : Nat), e = .returned (.tuple #[.slice e1 N c1, .slice e2 N c2]) ∧ Hid (RsB W.heap.size L pre e1 e2 c1 c2 N W') ∧ Hid (Kept (fun _ => False) W W')) := by
    intro W q
    refine (rscan_any L a n c W hn (bytes_keptF hB q) hb ha hc hl).mono ?_
    rintro e W' ⟨pre, e1, e2, c1, c2, rfl, h1, h2, h3, h4, h5, h6⟩
    obtain ⟨a', c', e, hat⟩ := h2.at
    simp only [Value.slice.injEq, List.length_map] at e
    obtain ⟨rfl, _, rfl⟩ := e
    refine ⟨pre, e1, e2, c1, c2, pre.length, rfl, ⟨rfl, h1, hat, h2.each, h3, h4, h5, fun ad had => (h2.row.lt _ (by rw [had]; rfl)).1, ?_⟩, h2.kept⟩
    rcases h6 with ⟨rfl, h⟩ | h
    · exact .inl ⟨rfl, h⟩
    · exact .inr h
  have SC : Hid (∀ s pre e1 e2 c1 c2 N k M most W a' c', RsB s L pre e1 e2 c1 c2 N W → most.toNat = k → M = min k N → Kept (fun _ => False) w W → BytesAt W a' L → (a' = none → c' = 0) → Calls Tryd.prog 8 #[.slice a' n c', .int .i64 most] W fun e W' => ∃ (D : List BkD) (x1 x2 : Option Addr) (d1 d2 : Nat), e = .returned (.tuple #[.slice x1 M d1, .slice x2 M d2]) ∧ Hid (PlacesAt W' x1 ((pre.map Sx.p).take k)) ∧ Hid (Bl W W' (.slice x2 M d2) D) ∧ Hid (D.map bkv = ((pre.map Sx.D).take k).map bkv)) := by
    intro s pre e1 e2 c1 c2 N k M most W a' c' hR hk hM q hBy hz
    refine (scanned_any L a' n c' most W hn hBy hb hz hl (hT.kept q) (hE.kept q)).mono ?_
    rintro e W' ⟨q', x1, x2, d1, d2, rfl, h1, h2, h3⟩
    rw [hk, ← hR.dat] at h3
    obtain ⟨p1, p2⟩ := dat_take h3
    have hlen : q'.length = M := by
      have := congrArg List.length h3
      rw [List.length_map, List.length_take, List.length_map, ← hR.len] at this
      rw [hM]
      exact this
    rw [hlen] at h2 ⊢
    refine ⟨q'.map Sx.D, x1, x2, d1, d2, rfl, ?_, h2, p2⟩
    rw [p1] at h1
    exact h1
  have SI : Hid (∀ P x1 x2 d1 d2 M W, PlacesAt W x1 P → PlacesAt W x2 P → M = P.length → M ≤ 140737488355328 → Calls Tryd.prog 9 #[.slice x1 M d1, .slice x2 M d2] W fun e W' => e = .returned (.bool true) ∧ Hid (Kept (fun _ => False) W W')) := fun P x1 x2 d1 d2 M W h1 h2 h3 h4 => sameInts_true P x1 x2 d1 d2 M W h1 h2 h3 h4
  have SN : Hid (∀ W a' c', BytesAt W a' L → (a' = none → c' = 0) → Calls Tryd.prog 11 #[.slice a' n c'] W fun e W' => ∃ bk a2 c2, e = .returned (.func (.func 21) #[] #[.pointer (some ⟨bk, 0, none⟩)]) ∧ Hid (W.heap.size ≤ bk) ∧ Hid (W'.cell? ⟨bk, 0, none⟩ = some (.slice a2 n c2)) ∧ Hid (OwnB W W' (.slice a2 n c2) L)) := fun W a' c' h1 h2 => scan_any L a' n c' W hn h1 h2 (by omega)
  have SB : Hid (∀ (D T : List BkD) x y d1 d2 M W0 W, Bl W0 W (.slice x M d1) D → BksAt W y T → (∀ z ∈ T, z.At W) → D.map bkv = T.map bkv → M = T.length → M ≤ 1099511627776 → Calls Tryd.prog 10 #[.slice x M d1, .slice y M d2] W fun e W' => e = .returned (.bool true) ∧ Hid (Kept (fun _ => False) W W')) := by
    intro D T x y d1 d2 M W0 W hb hy hz he hM hle
    obtain ⟨a', c', e, hat⟩ := hb.at
    simp only [Value.slice.injEq] at e
    obtain ⟨rfl, e2, rfl⟩ := e
    exact same_true D T x y d1 d2 M M W hat hy hb.each hz he e2 hM hle
  have HN := hideC hn
  have HB : Hid (∀ W, Kept (fun _ => False) w W → BytesAt W a L) := fun W q => bytes_keptF hB q
  have HZ : Hid (a = none → c = 0) := ha
  have HT := hideC hT
  have HE := hideC hE
  have HBY := hideC hb
  have HR : Hid (L.length ≤ 140737488355328) := by show _ ≤ _; omega
  have K1 : Hid (Kept (fun _ => False) w ((w.alloc (.cells #[.int .i64 stop] 3)).alloc (.cells #[.bool false] 4))) := (Kept.alloc _ _).trans (Kept.alloc _ _) (fun _ f => f.elim)
  have EF := fun (W : World) (f : Fn) (ts lb : Array Value) => run_eql_func (P := Tryd.prog) W f ts lb Tryd.underlying32
  have NL : Hid (∀ s pre e1 e2 c1 c2 N W, RsB s L pre e1 e2 c1 c2 N W → 6 * N ≤ n) := by
    intro s pre e1 e2 c1 c2 N W h
    have h1 := scan_len L hb
    rw [← h.dat, List.length_map, ← h.len, ← hn] at h1
    exact h1
  obtain ⟨m0, hm0⟩ : ∃ m0 : Int, m0 = if (0 : Int) > stop then (0 : Int) else stop := ⟨_, rfl⟩
  have hm1 : 0 ≤ m0 := by rw [hm0]; split <;> omega
  have HM0 := hideC hm0
  clear hn hB hb ha hT hE hm0
  refine (callsIn_wide (n := 9)).1 ?_
  refine callsIn_of_wp_marks Tryd.func3 rfl trivial ?_ rfl
  refine wpIn_wide.2 ?_
  simp only [Tryd.ntmps3, List.size_toArray, List.length_cons, List.length_nil, Nat.reduceAdd, Nat.reduceSub, Array.replicate_succ, Array.replicate_zero, List.push_toArray, List.append_toArray, List.nil_append, List.cons_append]
  go_wp2_with (first
    | (go_at_call 6; refine (LV.out _ K1.out).mono ?_; clear LV; rintro e W2 ⟨rfl, K2⟩; have KW2 := hideC (K1.out.trans K2.out (fun _ f => f.elim)); have M2 := hideC (ownB_empty W2); have B2 := hideC (HB.out _ (KW2.out.trans (Kept.alloc W2 (.cells #[] 5)) (fun _ f => f.elim))))
    | (at_builtin; refine wpList_apn rfl _ _ rfl _ [] L L n n rfl _ _ rfl HN (hideC rfl) HN M2 B2 HZ HR ?_; clear M2 B2; intro am cm W3 M3; have KW3 := hideC (KW2.out.trans M3.out.kept (fun _ f => f.elim)))
    | (go_at_call 7; refine (RS.out W3 KW3.out).mono ?_; clear RS; rintro e W4 ⟨pre, e1, e2, c1, c2, N, rfl, R4, K4⟩; have F5 := hideC (fs_start K2.out M3.out R4.out K4.out); have hNn := hideC (NL.out W3.heap.size pre e1 e2 c1 c2 N W4 R4.out); have z34 := hideC K4.out.size; obtain ⟨k, hkN, hkm⟩ := clamp m0 N hm1; have HKM := hideC hkm; have hkc1 : (k : Int) ≤ (c1 : Int) := (by have := R4.out.caps; omega); have hkc2 : (k : Int) ≤ (c2 : Int) := (by have := R4.out.caps; omega); clear R4 K4 KW2 KW3 HB HZ HR hkm)
    | (go_at_call 8; refine (SC.out W3.heap.size pre e1 e2 c1 c2 N (n + 1) N ((n : Int) + 1) _ am cm F5.out.R (by omega) (by have := hNn.out; omega) F5.out.kw F5.out.m F5.out.z).mono ?_; rintro e W6 ⟨D6, x1, x2, d1, d2, rfl, P6, B6, V6⟩; have F6 := hideC (F5.out.same B6.out.kept); have q6 := cell_of_one F6.out.h6; clear F5)
    | (go_at_call 9; refine (SI.out (pre.map Sx.p) x1 e1 d1 c1 N W6 (by have := P6.out; rw [List.take_of_length_le (by rw [List.length_map, ← F6.out.R.len]; have := hNn.out; omega)] at this; exact this) F6.out.R.pl (by rw [List.length_map, ← F6.out.R.len]) (by have := hNn.out; omega)).mono ?_; clear P6 q6; rintro e W7 ⟨rfl, K7⟩; have F7 := hideC (F6.out.same K7.out); have q7 := cell_of_one F7.out.h7; clear F6)
    | (go_at_call 10; refine (SB.out D6 (pre.map Sx.D) x2 e2 d2 c2 N _ W7 (B6.out.same K7.out) F7.out.R.bk F7.out.R.each (by have := V6.out; rw [List.take_of_length_le (by rw [List.length_map, ← F7.out.R.len]; have := hNn.out; omega)] at this; exact this) (by rw [List.length_map, ← F7.out.R.len]) (by have := hNn.out; omega)).mono ?_; clear V6 B6 K7 q7; rintro e W8 ⟨rfl, K8⟩; have F8 := hideC (F7.out.same K8.out); have q3 := cell_of_one F8.out.b3; have q6 := cell_of_one F8.out.h6; clear F7 K8)
    | (refine wpList_max rfl _ _ rfl stop 0 m0 rfl rfl HM0.out ?_)
    | (refine wpList_min rfl _ _ rfl m0 N k rfl rfl HKM.out ?_)
    | (go_at_call 8; refine (SC.out W3.heap.size pre e1 e2 c1 c2 N k k (k : Int) W8 am cm F8.out.R (by omega) (by omega) F8.out.kw F8.out.m F8.out.z).mono ?_; clear SC q3 q6; rintro e W9 ⟨D9, y1, y2, f1, f2, rfl, P9, B9, V9⟩; have F9 := hideC (F8.out.same B9.out.kept); have q6 := cell_of_one F9.out.h6; clear F8)
    | (go_at_call 9; refine (SI.out ((pre.map Sx.p).take k) y1 e1 f1 c1 k W9 P9.out (F9.out.R.pl.take' k) (by rw [List.length_take, List.length_map, ← F9.out.R.len]; omega) (by have := hNn.out; omega)).mono ?_; clear SI P9 q6; rintro e W10 ⟨rfl, K10⟩; have F10 := hideC (F9.out.same K10.out); have q7 := cell_of_one F10.out.h7; clear F9)
    | (go_at_call 10; refine (SB.out D9 ((pre.map Sx.D).take k) y2 e2 f2 c2 k _ W10 (B9.out.same K10.out) (F10.out.R.bk.take k) (fun z hz => F10.out.R.each z (List.mem_of_mem_take hz)) V9.out (by rw [List.length_take, List.length_map, ← F10.out.R.len]; omega) (by have := hNn.out; omega)).mono ?_; clear SB V9 B9 K10 q7; rintro e W11 ⟨rfl, K11⟩; have F11 := hideC (F10.out.same K11.out); clear F10 K11)
    | (go_at_call 11; refine (SN.out W11 am cm F11.out.m F11.out.z).mono ?_; clear SN; rintro e W12 ⟨bk, ac, cc, rfl, Z1, Z2, Z3⟩; have F12 := hideC (F11.out.same Z3.out.kept); have z11 := hideC F11.out.k3.size; clear F11))
  have M12 := hideC (mn_start (M3.out.same F12.out.k3) HN.out)
  go_loopw [76] (fun i wr => ∃ j : Nat, j ≤ n ∧ i = .int .i64 j ∧ Hid (Mn am n W12 wr)) (fun i _ => n - (intOf i).toNat)
  case atStart => exact ⟨0, Nat.zero_le _, rfl, M12⟩
  case round =>
    obtain ⟨j, hj, rfl, HM⟩ := hrel
    clear M12
    by_cases hlt : j < n
    · obtain ⟨gm, cur, rfl, hg, hcv⟩ := HM.out.c (by omega)
      obtain ⟨v, hv⟩ := hcv j hlt
      have x1 : wr.cell? ⟨gm, j, none⟩ = some (.int .u8 v) := (cell_of_row _ _ j _ _ _ hg).trans hv
      have x2 : wr.frozen? ⟨gm, j, none⟩ = false := by simp [World.frozen?, hg]
      have i1 : (j : Int) < (n : Int) := by omega
      have HS : Hid (∀ v, Mn (some ⟨gm, 0, none⟩) n W12 (wr.setCell ⟨gm, j, none⟩ (.int .u8 v))) := fun v => Mn.set HM.out hg hcv
      clear hg hcv hv HM
      go_wp2
      go_roundw
      case rel => exact ⟨j + 1, by omega, by go_num, HS.out _⟩
      case measure => simp [intOf]; omega
    · have i1 : ¬ ((j : Int) < (n : Int)) := by omega
      have FT := hideC (ft_start K2.out M3.out z34.out F12.out z11.out Z1.out Z2.out Z3.out HM.out)
      clear F12 Z1 Z2 Z3 M3 K2 z34 z11 HM
      go_wp2
      have hb13 := heap_alloc_new wr (.cells #[.int .i64 0] 3)
      have FW := hideC (FT.out.same (Kept.alloc wr (.cells #[.int .i64 0] 3)))
      have SQ := hideC (scan_seq 8 (by decide) L ac bk n cc a0 a1 a5 a6 HBY.out HN.out FT.out.a0 FT.out.cp (by omega))
      obtain ⟨W, hW⟩ : ∃ W, W = wr.alloc (.cells #[.int .i64 0] 3) := ⟨_, rfl⟩
      rw [← hW] at FW hb13 ⊢
      have hzW : wr.heap.size < W.heap.size := by rw [hW]; simp
      generalize wr.heap.size = b13 at hb13 hzW ⊢
      clear hW FT
      refine wp_turns 2 ?_
      show Code.wp _ _ (Exit.then (Turns _ _ _ 1) _) _ _
      have q13 := cell_of_one hb13
      --TURN
      go_wp2
      refine (wpIn_wide (n := 9)).1 ?_
      have kc := hideC (Kept.alloc W (.cells #[.int .i64 0] 3))
      have hcz : W.heap.size + 1 = (W.alloc (.cells #[.int .i64 0] 3)).heap.size := by simp
      have h14 := hideC (heap_alloc_new W (.cells #[.int .i64 0] 3))
      generalize W.alloc (.cells #[.int .i64 0] 3) = Wc at kc hcz h14 ⊢
      have HB13 := hideC hb13
      clear hb13 q13
      refine' range_mf (α := Sx) rfl (by decide) (gf := 21) (lb := #[.pointer (some ⟨bk, 0, none⟩)]) rfl trivial (enters_of Tryd.func21 (by kernel_rfl) rfl) SQ.out (fun _ => rfl)
        (fun p A => FrI W Wc L stop true p A) (fun cd _ A => cd = .exit 4 ∧ ∃ p, FrI W Wc L stop false p A ∧ stop < (p.length : Int)) ?hK ?hI ?hIx ?hM ?h0 (fun x => .cells #[.int .u8 x.D.t, .slice x.D.a x.D.B.length x.D.c] 35 (0, 0)) (fun x r e => by cases e) _ ?assign ?body ?done ?stop
      case hK =>
        intro p A h
        have q := FW.out.same (h.kw kc.out)
        exact ⟨HT.out.kept q.kw, HE.out.kept q.kw, by rw [← HN.out]; exact q.box, q.cl⟩
      case hI => exact fun p A r r' h _ => h.keptX (kept_put1 A _ _) (fun i hi => by omega) (by omega)
      case hIx =>
        rintro cd p A r r' ⟨e, q, h, hq⟩ _
        exact ⟨e, q, h.keptX (kept_put1 A _ _) (fun i hi => by omega) (by omega), hq⟩
      case hM => exact scm_put Wc
      case h0 =>
        intro r
        have kk : Kept (fun _ => False) Wc ((Wc.alloc (.deferred (some []))).alloc (.loop r)) := (Kept.alloc _ _).trans (Kept.alloc _ _) (fun _ f => f.elim)
        exact ⟨kk.mono fun _ f => f.elim, kk.heap h14.out (fun f => f), ⟨_, rfl⟩, fun _ => .inl rfl⟩
      case assign =>
        intro l s x B K hs hK
        have hX := heap_alloc_new B (.cells #[.int .u8 x.D.t, .slice x.D.a x.D.B.length x.D.c] 35)
        simp only [Sx.encs]
        gi_wp2
        generalize B.heap.size = Bx at hX hs ⊢
        exact hK Bx _ hs (Kept.alloc _ _) hX
      case body =>
        rintro l p x Bx A B hI kAB hM hlt hBx hX
        obtain ⟨rest, hrest⟩ := hM.come
        have hB := hI.keptX kAB (fun _ f => f.elim) (by omega)
        have kB := hB.kw kc.out
        have FB := FW.out.same kB
        obtain ⟨i, hi⟩ : ∃ i, i = p.length := ⟨_, rfl⟩
        have r14 := hB.i
        rw [← hi] at r14
        obtain ⟨hiN, g1, g2, y, rfl, rfl, r1, r2, r3, hyB, hyA⟩ := rs_at FB.R hrest hi
        obtain ⟨xA, xAd⟩ := hM.at_
        have cvA : ∀ j, (convert 22 9 (.slice x.D.a x.D.B.length x.D.c)).run Tryd.prog (B.drewN j) = .ok (.string (strOfNums x.D.B)) (B.drewN j) := fun j => conv_atF (bytes_keptF xA.b (Kept.drewN B j))
        have cvB : ∀ j, (convert 22 9 (.slice y.a x.D.B.length y.c)).run Tryd.prog (B.drewN j) = .ok (.string (strOfNums x.D.B)) (B.drewN j) := fun j => by have := conv_atF (c := y.c) (bytes_keptF hyA.b (Kept.drewN B j)); rw [hyB] at this; exact this
        have cvA1 : (convert 22 9 (.slice x.D.a x.D.B.length x.D.c)).run Tryd.prog B.drew = .ok (.string (strOfNums x.D.B)) B.drew := cvA 1
        have cvB1 : (convert 22 9 (.slice y.a x.D.B.length y.c)).run Tryd.prog B.drew = .ok (.string (strOfNums x.D.B)) B.drew := cvB 1
        have cvA0 : (convert 22 9 (.slice x.D.a x.D.B.length x.D.c)).run Tryd.prog B = .ok (.string (strOfNums x.D.B)) B := cvA 0
        have cvB0 : (convert 22 9 (.slice y.a x.D.B.length y.c)).run Tryd.prog B = .ok (.string (strOfNums x.D.B)) B := cvB 0
        generalize strOfNums x.D.B = st at cvA cvB cvA1 cvB1 cvA0 cvB0
        have x0 : B.cell? ⟨Bx, 0, none⟩ = some (.int .u8 x.D.t) := cell_of_row _ _ 0 _ _ _ hX
        have x1' : B.cell? ⟨Bx, 1, none⟩ = some (.slice x.D.a x.D.B.length x.D.c) := cell_of_row _ _ 1 _ _ _ hX
        have c14 := cell_of_one r14
        have z14 := free_of_one r14
        have c6 := cell_of_one FB.h6
        have c7 := cell_of_one FB.h7
        have c3 := cell_of_one FB.b3
        have c13 := cell_of_one (kB.heap HB13.out (fun f => f))
        have n3 : w.heap.size < W.heap.size := Nat.lt_of_lt_of_le (size_of_some FW.out.b3) (Nat.le_refl _)
        have s14 : ∀ j, ((B.drewN j).setCell ⟨W.heap.size, 0, none⟩ (.int .i64 ((i : Int) + 1))).cell? ⟨W.heap.size, 0, none⟩ = some (.int .i64 ((i : Int) + 1)) := fun j => cell_of_one (one_setCell (w := B.drewN j) r14)
        have s13 : ∀ j, ((B.drewN j).setCell ⟨W.heap.size, 0, none⟩ (.int .i64 ((i : Int) + 1))).cell? ⟨b13, 0, none⟩ = some (.int .i64 0) := fun j => (Kept.setCell (B.drewN j) ⟨W.heap.size, 0, none⟩ (.int .i64 ((i : Int) + 1))).cell c13 (fun f => by simp only at f; omega)
        have s3 : ∀ j, ((B.drewN j).setCell ⟨W.heap.size, 0, none⟩ (.int .i64 ((i : Int) + 1))).cell? ⟨w.heap.size, 0, none⟩ = some (.int .i64 stop) := fun j => (Kept.setCell (B.drewN j) ⟨W.heap.size, 0, none⟩ (.int .i64 ((i : Int) + 1))).cell c3 (fun f => by simp only at f; omega)
        have FIN : Hid (∀ j, Still Wc.heap.size B ((B.drewN j).setCell ⟨W.heap.size, 0, none⟩ (.int .i64 ((i : Int) + 1))) ∧ ∀ b, (b = true → (i : Int) + 1 ≤ stop) → FrI W Wc L stop b (p ++ [x]) ((B.drewN j).setCell ⟨W.heap.size, 0, none⟩ (.int .i64 ((i : Int) + 1)))) := by
          intro j
          have ks := ((Kept.drewN B j).mono fun _ f => f.elim (C := _ ∨ _)).trans (Kept.setCell (B.drewN j) ⟨W.heap.size, 0, none⟩ (.int .i64 ((i : Int) + 1))) (fun k hk => .inl hk)
          refine ⟨Still.of_kept ks (by have := kAB.size; omega) (fun k hk h => by simp only at h; omega), fun b hb => ⟨hB.k.trans ks (fun k hk => .inl hk), ?_, ⟨rest, hrest⟩, fun hb1 => .inr ?_⟩⟩
          · have := one_setCell (w := B.drewN j) (u := .int .i64 ((i : Int) + 1)) r14
            rw [show ((p ++ [x]).length : Int) = (i : Int) + 1 by rw [List.length_append, hi]; simp]
            exact this
          · rw [show ((p ++ [x]).length : Int) = (i : Int) + 1 by rw [List.length_append, hi]; simp]
            exact hb hb1
        have hil : i < 1099511627776 := by have := hNn.out; omega
        have LEN : Hid (((p ++ [x]).length : Int) = (i : Int) + 1) := by show _ = _; rw [List.length_append, hi]; simp
        have i1 : (i : Int) < (N : Int) := by omega
        have i2 : decide (N ≤ i) = false := decide_eq_false (by omega)
        clear hI kAB hM hB FB r14 hX xA xAd hyA hrest hi kB
        gi_wp2
        refine quiet_round rfl (by kernel_rfl) (by kernel_rfl) (by kernel_rfl) ?_
        repeat (gi_big_quiet_step (fail))
        refine wpQuietIn_nil ?_
        intro _ hw'
        obtain ⟨nq, hw''⟩ := hw'
        subst hw''
        gi_wp2
        all_goals first
          | exact ⟨(FIN.out nq).1, (FIN.out nq).2 true (fun _ => by omega)⟩
          | exact ⟨(FIN.out nq).1, rfl, _, (FIN.out nq).2 false (fun h => by cases h), by rw [LEN.out]; omega⟩
      case done =>
        intro xs A W5 hS hI k hD
        have hB := hI.keptX k (fun _ f => f.elim) (by omega)
        have kB := hB.kw kc.out
        have FB := hideC (FW.out.same kB)
        have hxN : xs.length = N := by
          have h1 := congrArg List.length hS
          rw [← FB.out.R.dat, List.length_map, List.length_map, ← FB.out.R.len] at h1
          exact h1
        have c14 := cell_of_one hB.i
        rw [hxN] at c14
        have c6 := cell_of_one FB.out.h6
        have c3 := cell_of_one FB.out.b3
        have c13 := cell_of_one (kB.heap HB13.out (fun f => f))
        have KB := hideC kB
        have HD5 := hideC hD
        clear hB kB hI k hD hS hxN
        go_wp2
        have hb13b := heap_alloc_new W5 (.cells #[.int .i64 1] 3)
        have FW2 := hideC (FB.out.same (Kept.alloc W5 (.cells #[.int .i64 1] 3)))
        have D1 := hideC ((Kept.alloc W5 (.cells #[.int .i64 1] 3)).heap HD5.out (fun f => f))
        have zV : W5.heap.size < (W5.alloc (.cells #[.int .i64 1] 3)).heap.size := by simp
        have zw : w.heap.size + 2 ≤ Wc.heap.size := by have := size_of_some FW.out.b4; omega
        generalize W5.alloc (.cells #[.int .i64 1] 3) = V at hb13b FW2 D1 zV ⊢
        generalize W5.heap.size = b13b at hb13b zV ⊢
        clear FB HD5 HB13 h14 KB
        show Code.wp _ _ (Exit.then (Turns _ _ _ 0) _) _ _
        have q13 := cell_of_one hb13b
        go_wp2
        refine (wpIn_wide (n := 9)).1 ?_
        have kc2 := hideC (Kept.alloc V (.cells #[.int .i64 0] 3))
        have hcz2 : V.heap.size + 1 = (V.alloc (.cells #[.int .i64 0] 3)).heap.size := by simp
        have h14 := hideC (heap_alloc_new V (.cells #[.int .i64 0] 3))
        generalize V.alloc (.cells #[.int .i64 0] 3) = Vc at kc2 hcz2 h14 ⊢
        have HB13b := hideC hb13b
        clear hb13b q13
        refine' range_mf (α := Sx) rfl (by decide) (gf := 21) (lb := #[.pointer (some ⟨bk, 0, none⟩)]) rfl trivial (enters_of Tryd.func21 (by kernel_rfl) rfl) SQ.out (fun _ => rfl)
          (fun p A => FrI V Vc L stop false p A) (fun _ _ _ => False) ?hK2 ?hI2 ?hIx2 ?hM2 ?h02 (fun x => .cells #[.int .u8 x.D.t, .slice x.D.a x.D.B.length x.D.c] 35 (0, 0)) (fun x r e => by cases e) _ ?assign2 ?body2 ?done2 ?stop2
        case hK2 =>
          intro p A h
          have q := FW2.out.same (h.kw kc2.out)
          exact ⟨HT.out.kept q.kw, HE.out.kept q.kw, by rw [← HN.out]; exact q.box, q.cl⟩
        case hI2 => exact fun p A r r' h _ => h.keptX (kept_put1 A _ _) (fun i hi => by omega) (by omega)
        case hIx2 => exact fun _ _ _ _ _ h _ => h
        case hM2 => exact scm_put Vc
        case h02 =>
          intro r
          have kk : Kept (fun _ => False) Vc ((Vc.alloc (.deferred (some []))).alloc (.loop r)) := (Kept.alloc _ _).trans (Kept.alloc _ _) (fun _ f => f.elim)
          exact ⟨kk.mono fun _ f => f.elim, kk.heap h14.out (fun f => f), ⟨_, rfl⟩, fun h => by cases h⟩
        case assign2 =>
          intro l s x B K hs hK
          have hX := heap_alloc_new B (.cells #[.int .u8 x.D.t, .slice x.D.a x.D.B.length x.D.c] 35)
          simp only [Sx.encs]
          gi_wp2
          generalize B.heap.size = Bx at hX hs ⊢
          exact hK Bx _ hs (Kept.alloc _ _) hX
        case body2 =>
          rintro l p x Bx A B hI kAB hM hlt hBx hX
          obtain ⟨rest, hrest⟩ := hM.come
          have hB := hI.keptX kAB (fun _ f => f.elim) (by omega)
          have kB := hB.kw kc2.out
          have FB := FW2.out.same kB
          obtain ⟨i, hi⟩ : ∃ i, i = p.length := ⟨_, rfl⟩
          have r14 := hB.i
          rw [← hi] at r14
          obtain ⟨hiN, g1, g2, y, rfl, rfl, r1, r2, r3, hyB, hyA⟩ := rs_at FB.R hrest hi
          obtain ⟨xA, xAd⟩ := hM.at_
          have cvA : ∀ j, (convert 22 9 (.slice x.D.a x.D.B.length x.D.c)).run Tryd.prog (B.drewN j) = .ok (.string (strOfNums x.D.B)) (B.drewN j) := fun j => conv_atF (bytes_keptF xA.b (Kept.drewN B j))
          have cvB : ∀ j, (convert 22 9 (.slice y.a x.D.B.length y.c)).run Tryd.prog (B.drewN j) = .ok (.string (strOfNums x.D.B)) (B.drewN j) := fun j => by have := conv_atF (c := y.c) (bytes_keptF hyA.b (Kept.drewN B j)); rw [hyB] at this; exact this
          have cvA1 : (convert 22 9 (.slice x.D.a x.D.B.length x.D.c)).run Tryd.prog B.drew = .ok (.string (strOfNums x.D.B)) B.drew := cvA 1
          have cvB1 : (convert 22 9 (.slice y.a x.D.B.length y.c)).run Tryd.prog B.drew = .ok (.string (strOfNums x.D.B)) B.drew := cvB 1
          have cvA0 : (convert 22 9 (.slice x.D.a x.D.B.length x.D.c)).run Tryd.prog B = .ok (.string (strOfNums x.D.B)) B := cvA 0
          have cvB0 : (convert 22 9 (.slice y.a x.D.B.length y.c)).run Tryd.prog B = .ok (.string (strOfNums x.D.B)) B := cvB 0
          generalize strOfNums x.D.B = st at cvA cvB cvA1 cvB1 cvA0 cvB0
          have x0 : B.cell? ⟨Bx, 0, none⟩ = some (.int .u8 x.D.t) := cell_of_row _ _ 0 _ _ _ hX
          have x1' : B.cell? ⟨Bx, 1, none⟩ = some (.slice x.D.a x.D.B.length x.D.c) := cell_of_row _ _ 1 _ _ _ hX
          have c14 := cell_of_one r14
          have z14 := free_of_one r14
          have c6 := cell_of_one FB.h6
          have c7 := cell_of_one FB.h7
          have c3 := cell_of_one FB.b3
          have c13 := cell_of_one (kB.heap HB13b.out (fun f => f))
          have n3 : w.heap.size < V.heap.size := Nat.lt_of_lt_of_le (size_of_some FW2.out.b3) (Nat.le_refl _)
          have s14 : ∀ j, ((B.drewN j).setCell ⟨V.heap.size, 0, none⟩ (.int .i64 ((i : Int) + 1))).cell? ⟨V.heap.size, 0, none⟩ = some (.int .i64 ((i : Int) + 1)) := fun j => cell_of_one (one_setCell (w := B.drewN j) r14)
          have s13 : ∀ j, ((B.drewN j).setCell ⟨V.heap.size, 0, none⟩ (.int .i64 ((i : Int) + 1))).cell? ⟨b13b, 0, none⟩ = some (.int .i64 1) := fun j => (Kept.setCell (B.drewN j) ⟨V.heap.size, 0, none⟩ (.int .i64 ((i : Int) + 1))).cell c13 (fun f => by simp only at f; omega)
          have s3 : ∀ j, ((B.drewN j).setCell ⟨V.heap.size, 0, none⟩ (.int .i64 ((i : Int) + 1))).cell? ⟨w.heap.size, 0, none⟩ = some (.int .i64 stop) := fun j => (Kept.setCell (B.drewN j) ⟨V.heap.size, 0, none⟩ (.int .i64 ((i : Int) + 1))).cell c3 (fun f => by simp only at f; omega)
          have FIN : Hid (∀ j, Still Vc.heap.size B ((B.drewN j).setCell ⟨V.heap.size, 0, none⟩ (.int .i64 ((i : Int) + 1))) ∧ ∀ b, (b = true → (i : Int) + 1 ≤ stop) → FrI V Vc L stop b (p ++ [x]) ((B.drewN j).setCell ⟨V.heap.size, 0, none⟩ (.int .i64 ((i : Int) + 1)))) := by
            intro j
            have ks := ((Kept.drewN B j).mono fun _ f => f.elim (C := _ ∨ _)).trans (Kept.setCell (B.drewN j) ⟨V.heap.size, 0, none⟩ (.int .i64 ((i : Int) + 1))) (fun k hk => .inl hk)
            refine ⟨Still.of_kept ks (by have := kAB.size; omega) (fun k hk h => by simp only at h; omega), fun b hb => ⟨hB.k.trans ks (fun k hk => .inl hk), ?_, ⟨rest, hrest⟩, fun hb1 => .inr ?_⟩⟩
            · have := one_setCell (w := B.drewN j) (u := .int .i64 ((i : Int) + 1)) r14
              rw [show ((p ++ [x]).length : Int) = (i : Int) + 1 by rw [List.length_append, hi]; simp]
              exact this
            · rw [show ((p ++ [x]).length : Int) = (i : Int) + 1 by rw [List.length_append, hi]; simp]
              exact hb hb1
          have hil : i < 1099511627776 := by have := hNn.out; omega
          have LEN : Hid (((p ++ [x]).length : Int) = (i : Int) + 1) := by show _ = _; rw [List.length_append, hi]; simp
          have i1 : (i : Int) < (N : Int) := by omega
          have i2 : decide (N ≤ i) = false := decide_eq_false (by omega)
          clear hI kAB hM hB FB r14 hX xA xAd hyA hrest hi kB
          gi_wp2
          refine quiet_round rfl (by kernel_rfl) (by kernel_rfl) (by kernel_rfl) ?_
          repeat (gi_big_quiet_step (fail))
          refine wpQuietIn_nil ?_
          intro _ hw'
          obtain ⟨nq, hw''⟩ := hw'
          subst hw''
          gi_wp2
          exact ⟨(FIN.out nq).1, (FIN.out nq).2 false (fun h => by cases h)⟩
        case stop2 => exact fun _ _ _ _ h => h.elim
        case done2 =>
          intro xs A W7 hS hI k hD
          have hB := hI.keptX k (fun _ f => f.elim) (by omega)
          have kB := hB.kw kc2.out
          have FB := hideC (FW2.out.same kB)
          have hxN : xs.length = N := by
            have h1 := congrArg List.length hS
            rw [← FB.out.R.dat, List.length_map, List.length_map, ← FB.out.R.len] at h1
            exact h1
          have c14 := cell_of_one hB.i
          rw [hxN] at c14
          have c6 := cell_of_one FB.out.h6
          have c3 := cell_of_one FB.out.b3
          have c13 := cell_of_one (kB.heap HB13b.out (fun f => f))
          have D7 := hideC (kB.heap D1.out (fun f => f))
          have HD7 := hideC hD
          clear hB kB hI k hD hS hxN
          go_wp2
          show Code.wp _ _ (Exit.then (fun _ _ => False) _) _ _
          have ka := Kept.alloc W7 (.cells #[.int .i64 2] 3)
          have hb8 := cell_of_one (heap_alloc_new W7 (.cells #[.int .i64 2] 3))
          have F8 := hideC (FB.out.same ka)
          have E1 := hideC (ka.heap D7.out (fun f => f))
          have E2 := hideC (ka.heap HD7.out (fun f => f))
          have c4 := cell_of_one F8.out.b4
          have z4 := free_of_one F8.out.b4
          generalize W7.alloc (.cells #[.int .i64 2] 3) = W8 at hb8 F8 E1 E2 c4 z4 ⊢
          clear ka FB D7 HD7 c13 c14 c6 c3
          go_wp2
          have z5 : w.heap.size + 1 < Wc.heap.size := by omega
          have z6 : Wc.heap.size < V.heap.size := size_of_some D1.out
          have ks := Kept.setCell W8 ⟨w.heap.size + 1, 0, none⟩ (.bool true)
          refine leaves_marks [Vc.heap.size, Wc.heap.size] _ (by simp; omega) (fun D hD => ?_) (fun W' kk => ?_)
          · rcases List.mem_cons.1 hD with rfl | hD
            · exact ks.heap E2.out (fun e => by simp only at e; omega)
            · rw [List.mem_singleton] at hD
              subst hD
              exact ks.heap E1.out (fun e => by simp only at e; omega)
          · have h4 := kk.heap (one_setCell (u := .bool true) F8.out.b4) (fun e => by simp only [List.mem_cons, List.not_mem_nil, or_false] at e; omega)
            refine ⟨_, results_cellb rfl _ _ _ rfl (cell_of_one h4), rfl, ?_⟩
            exact (F8.out.kw.trans ks (fun i hi => .inr (by simp only at hi; omega))).trans kk (fun i hi => .inr (by simp only [List.mem_cons, List.not_mem_nil, or_false] at hi; omega))
      case stop =>
        rintro cd q A W5 ⟨rfl, p, hI, hst⟩ k hD
        have hB := hI.keptX k (fun _ f => f.elim) (by omega)
        have kB := hB.kw kc.out
        have FB := hideC (FW.out.same kB)
        obtain ⟨i, hi⟩ : ∃ i, i = p.length := ⟨_, rfl⟩
        rw [← hi] at hst
        have c14 := cell_of_one hB.i
        rw [← hi] at c14
        have c6 := cell_of_one FB.out.h6
        have c3 := cell_of_one FB.out.b3
        have c13 := cell_of_one (kB.heap HB13.out (fun f => f))
        have KB := hideC kB
        have HD5 := hideC hD
        have i3 : ¬ ((i : Int) ≤ stop) := by omega
        clear hB kB hI k hD hi
        refine wpIn_wide.2 ?_
        by_cases hiN : i < N
        · have i1 : (i : Int) < (N : Int) := by omega
          go_wp2
          have hb13b := heap_alloc_new W5 (.cells #[.int .i64 1] 3)
          have FW2 := hideC (FB.out.same (Kept.alloc W5 (.cells #[.int .i64 1] 3)))
          have D1 := hideC ((Kept.alloc W5 (.cells #[.int .i64 1] 3)).heap HD5.out (fun f => f))
          have zV : W5.heap.size < (W5.alloc (.cells #[.int .i64 1] 3)).heap.size := by simp
          have zw : w.heap.size + 2 ≤ Wc.heap.size := by have := size_of_some FW.out.b4; omega
          generalize W5.alloc (.cells #[.int .i64 1] 3) = V at hb13b FW2 D1 zV ⊢
          generalize W5.heap.size = b13b at hb13b zV ⊢
          clear FB HD5 HB13 h14 KB
          show Code.wp _ _ (Exit.then (Turns _ _ _ 0) _) _ _
          have q13 := cell_of_one hb13b
          go_wp2
          refine (wpIn_wide (n := 9)).1 ?_
          have kc2 := hideC (Kept.alloc V (.cells #[.int .i64 0] 3))
          have hcz2 : V.heap.size + 1 = (V.alloc (.cells #[.int .i64 0] 3)).heap.size := by simp
          have h14 := hideC (heap_alloc_new V (.cells #[.int .i64 0] 3))
          generalize V.alloc (.cells #[.int .i64 0] 3) = Vc at kc2 hcz2 h14 ⊢
          have HB13b := hideC hb13b
          clear hb13b q13
          refine' range_mf (α := Sx) rfl (by decide) (gf := 21) (lb := #[.pointer (some ⟨bk, 0, none⟩)]) rfl trivial (enters_of Tryd.func21 (by kernel_rfl) rfl) SQ.out (fun _ => rfl)
            (fun p A => FrI V Vc L stop false p A) (fun _ _ _ => False) ?hK3 ?hI3 ?hIx3 ?hM3 ?h03 (fun x => .cells #[.int .u8 x.D.t, .slice x.D.a x.D.B.length x.D.c] 35 (0, 0)) (fun x r e => by cases e) _ ?assign3 ?body3 ?done3 ?stop3
          case hK3 =>
            intro p A h
            have q := FW2.out.same (h.kw kc2.out)
            exact ⟨HT.out.kept q.kw, HE.out.kept q.kw, by rw [← HN.out]; exact q.box, q.cl⟩
          case hI3 => exact fun p A r r' h _ => h.keptX (kept_put1 A _ _) (fun i hi => by omega) (by omega)
          case hIx3 => exact fun _ _ _ _ _ h _ => h
          case hM3 => exact scm_put Vc
          case h03 =>
            intro r
            have kk : Kept (fun _ => False) Vc ((Vc.alloc (.deferred (some []))).alloc (.loop r)) := (Kept.alloc _ _).trans (Kept.alloc _ _) (fun _ f => f.elim)
            exact ⟨kk.mono fun _ f => f.elim, kk.heap h14.out (fun f => f), ⟨_, rfl⟩, fun h => by cases h⟩
          case assign3 =>
            intro l s x B K hs hK
            have hX := heap_alloc_new B (.cells #[.int .u8 x.D.t, .slice x.D.a x.D.B.length x.D.c] 35)
            simp only [Sx.encs]
            gi_wp2
            generalize B.heap.size = Bx at hX hs ⊢
            exact hK Bx _ hs (Kept.alloc _ _) hX
          case body3 =>
            rintro l p x Bx A B hI kAB hM hlt hBx hX
            obtain ⟨rest, hrest⟩ := hM.come
            have hB := hI.keptX kAB (fun _ f => f.elim) (by omega)
            have kB := hB.kw kc2.out
            have FB := FW2.out.same kB
            obtain ⟨i, hi⟩ : ∃ i, i = p.length := ⟨_, rfl⟩
            have r14 := hB.i
            rw [← hi] at r14
            obtain ⟨hiN, g1, g2, y, rfl, rfl, r1, r2, r3, hyB, hyA⟩ := rs_at FB.R hrest hi
            obtain ⟨xA, xAd⟩ := hM.at_
            have cvA : ∀ j, (convert 22 9 (.slice x.D.a x.D.B.length x.D.c)).run Tryd.prog (B.drewN j) = .ok (.string (strOfNums x.D.B)) (B.drewN j) := fun j => conv_atF (bytes_keptF xA.b (Kept.drewN B j))
            have cvB : ∀ j, (convert 22 9 (.slice y.a x.D.B.length y.c)).run Tryd.prog (B.drewN j) = .ok (.string (strOfNums x.D.B)) (B.drewN j) := fun j => by have := conv_atF (c := y.c) (bytes_keptF hyA.b (Kept.drewN B j)); rw [hyB] at this; exact this
            have cvA1 : (convert 22 9 (.slice x.D.a x.D.B.length x.D.c)).run Tryd.prog B.drew = .ok (.string (strOfNums x.D.B)) B.drew := cvA 1
            have cvB1 : (convert 22 9 (.slice y.a x.D.B.length y.c)).run Tryd.prog B.drew = .ok (.string (strOfNums x.D.B)) B.drew := cvB 1
            have cvA0 : (convert 22 9 (.slice x.D.a x.D.B.length x.D.c)).run Tryd.prog B = .ok (.string (strOfNums x.D.B)) B := cvA 0
            have cvB0 : (convert 22 9 (.slice y.a x.D.B.length y.c)).run Tryd.prog B = .ok (.string (strOfNums x.D.B)) B := cvB 0
            generalize strOfNums x.D.B = st at cvA cvB cvA1 cvB1 cvA0 cvB0
            have x0 : B.cell? ⟨Bx, 0, none⟩ = some (.int .u8 x.D.t) := cell_of_row _ _ 0 _ _ _ hX
            have x1' : B.cell? ⟨Bx, 1, none⟩ = some (.slice x.D.a x.D.B.length x.D.c) := cell_of_row _ _ 1 _ _ _ hX
            have c14 := cell_of_one r14
            have z14 := free_of_one r14
            have c6 := cell_of_one FB.h6
            have c7 := cell_of_one FB.h7
            have c3 := cell_of_one FB.b3
            have c13 := cell_of_one (kB.heap HB13b.out (fun f => f))
            have n3 : w.heap.size < V.heap.size := Nat.lt_of_lt_of_le (size_of_some FW2.out.b3) (Nat.le_refl _)
            have s14 : ∀ j, ((B.drewN j).setCell ⟨V.heap.size, 0, none⟩ (.int .i64 ((i : Int) + 1))).cell? ⟨V.heap.size, 0, none⟩ = some (.int .i64 ((i : Int) + 1)) := fun j => cell_of_one (one_setCell (w := B.drewN j) r14)
            have s13 : ∀ j, ((B.drewN j).setCell ⟨V.heap.size, 0, none⟩ (.int .i64 ((i : Int) + 1))).cell? ⟨b13b, 0, none⟩ = some (.int .i64 1) := fun j => (Kept.setCell (B.drewN j) ⟨V.heap.size, 0, none⟩ (.int .i64 ((i : Int) + 1))).cell c13 (fun f => by simp only at f; omega)
            have s3 : ∀ j, ((B.drewN j).setCell ⟨V.heap.size, 0, none⟩ (.int .i64 ((i : Int) + 1))).cell? ⟨w.heap.size, 0, none⟩ = some (.int .i64 stop) := fun j => (Kept.setCell (B.drewN j) ⟨V.heap.size, 0, none⟩ (.int .i64 ((i : Int) + 1))).cell c3 (fun f => by simp only at f; omega)
            have FIN : Hid (∀ j, Still Vc.heap.size B ((B.drewN j).setCell ⟨V.heap.size, 0, none⟩ (.int .i64 ((i : Int) + 1))) ∧ ∀ b, (b = true → (i : Int) + 1 ≤ stop) → FrI V Vc L stop b (p ++ [x]) ((B.drewN j).setCell ⟨V.heap.size, 0, none⟩ (.int .i64 ((i : Int) + 1)))) := by
              intro j
              have ks := ((Kept.drewN B j).mono fun _ f => f.elim (C := _ ∨ _)).trans (Kept.setCell (B.drewN j) ⟨V.heap.size, 0, none⟩ (.int .i64 ((i : Int) + 1))) (fun k hk => .inl hk)
              refine ⟨Still.of_kept ks (by have := kAB.size; omega) (fun k hk h => by simp only at h; omega), fun b hb => ⟨hB.k.trans ks (fun k hk => .inl hk), ?_, ⟨rest, hrest⟩, fun hb1 => .inr ?_⟩⟩
              · have := one_setCell (w := B.drewN j) (u := .int .i64 ((i : Int) + 1)) r14
                rw [show ((p ++ [x]).length : Int) = (i : Int) + 1 by rw [List.length_append, hi]; simp]
                exact this
              · rw [show ((p ++ [x]).length : Int) = (i : Int) + 1 by rw [List.length_append, hi]; simp]
                exact hb hb1
            have hil : i < 1099511627776 := by have := hNn.out; omega
            have LEN : Hid (((p ++ [x]).length : Int) = (i : Int) + 1) := by show _ = _; rw [List.length_append, hi]; simp
            have i1 : (i : Int) < (N : Int) := by omega
            have i2 : decide (N ≤ i) = false := decide_eq_false (by omega)
            clear hI kAB hM hB FB r14 hX xA xAd hyA hrest hi kB
            gi_wp2
            refine quiet_round rfl (by kernel_rfl) (by kernel_rfl) (by kernel_rfl) ?_
            repeat (gi_big_quiet_step (fail))
            refine wpQuietIn_nil ?_
            intro _ hw'
            obtain ⟨nq, hw''⟩ := hw'
            subst hw''
            gi_wp2
            exact ⟨(FIN.out nq).1, (FIN.out nq).2 false (fun h => by cases h)⟩
          case stop3 => exact fun _ _ _ _ h => h.elim
          case done3 =>
            intro xs A W7 hS hI k hD
            have hB := hI.keptX k (fun _ f => f.elim) (by omega)
            have kB := hB.kw kc2.out
            have FB := hideC (FW2.out.same kB)
            have hxN : xs.length = N := by
              have h1 := congrArg List.length hS
              rw [← FB.out.R.dat, List.length_map, List.length_map, ← FB.out.R.len] at h1
              exact h1
            have c14 := cell_of_one hB.i
            rw [hxN] at c14
            have c6 := cell_of_one FB.out.h6
            have c3 := cell_of_one FB.out.b3
            have c13 := cell_of_one (kB.heap HB13b.out (fun f => f))
            have D7 := hideC (kB.heap D1.out (fun f => f))
            have HD7 := hideC hD
            clear hB kB hI k hD hS hxN
            go_wp2
            show Code.wp _ _ (Exit.then (fun _ _ => False) _) _ _
            have ka := Kept.alloc W7 (.cells #[.int .i64 2] 3)
            have hb8 := cell_of_one (heap_alloc_new W7 (.cells #[.int .i64 2] 3))
            have F8 := hideC (FB.out.same ka)
            have E1 := hideC (ka.heap D7.out (fun f => f))
            have E2 := hideC (ka.heap HD7.out (fun f => f))
            have c4 := cell_of_one F8.out.b4
            have z4 := free_of_one F8.out.b4
            generalize W7.alloc (.cells #[.int .i64 2] 3) = W8 at hb8 F8 E1 E2 c4 z4 ⊢
            clear ka FB D7 HD7 c13 c14 c6 c3
            go_wp2
            have z5 : w.heap.size + 1 < Wc.heap.size := by omega
            have z6 : Wc.heap.size < V.heap.size := size_of_some D1.out
            have ks := Kept.setCell W8 ⟨w.heap.size + 1, 0, none⟩ (.bool true)
            refine leaves_marks [Vc.heap.size, Wc.heap.size] _ (by simp; omega) (fun D hD => ?_) (fun W' kk => ?_)
            · rcases List.mem_cons.1 hD with rfl | hD
              · exact ks.heap E2.out (fun e => by simp only at e; omega)
              · rw [List.mem_singleton] at hD
                subst hD
                exact ks.heap E1.out (fun e => by simp only at e; omega)
            · have h4 := kk.heap (one_setCell (u := .bool true) F8.out.b4) (fun e => by simp only [List.mem_cons, List.not_mem_nil, or_false] at e; omega)
              refine ⟨_, results_cellb rfl _ _ _ rfl (cell_of_one h4), rfl, ?_⟩
              exact (F8.out.kw.trans ks (fun i hi => .inr (by simp only at hi; omega))).trans kk (fun i hi => .inr (by simp only [List.mem_cons, List.not_mem_nil, or_false] at hi; omega))
        · have i1 : ¬ ((i : Int) < (N : Int)) := by omega
          go_wp2
          have hb13b := heap_alloc_new W5 (.cells #[.int .i64 1] 3)
          have FW2 := hideC (FB.out.same (Kept.alloc W5 (.cells #[.int .i64 1] 3)))
          have D1 := hideC ((Kept.alloc W5 (.cells #[.int .i64 1] 3)).heap HD5.out (fun f => f))
          have zV : W5.heap.size < (W5.alloc (.cells #[.int .i64 1] 3)).heap.size := by simp
          have zw : w.heap.size + 2 ≤ Wc.heap.size := by have := size_of_some FW.out.b4; omega
          generalize W5.alloc (.cells #[.int .i64 1] 3) = V at hb13b FW2 D1 zV ⊢
          generalize W5.heap.size = b13b at hb13b zV ⊢
          clear FB HD5 HB13 h14 KB
          show Code.wp _ _ (Exit.then (Turns _ _ _ 0) _) _ _
          have q13 := cell_of_one hb13b
          go_wp2
          refine (wpIn_wide (n := 9)).1 ?_
          have kc2 := hideC (Kept.alloc V (.cells #[.int .i64 0] 3))
          have hcz2 : V.heap.size + 1 = (V.alloc (.cells #[.int .i64 0] 3)).heap.size := by simp
          have h14 := hideC (heap_alloc_new V (.cells #[.int .i64 0] 3))
          generalize V.alloc (.cells #[.int .i64 0] 3) = Vc at kc2 hcz2 h14 ⊢
          have HB13b := hideC hb13b
          clear hb13b q13
          refine' range_mf (α := Sx) rfl (by decide) (gf := 21) (lb := #[.pointer (some ⟨bk, 0, none⟩)]) rfl trivial (enters_of Tryd.func21 (by kernel_rfl) rfl) SQ.out (fun _ => rfl)
            (fun p A => FrI V Vc L stop false p A) (fun _ _ _ => False) ?hK4 ?hI4 ?hIx4 ?hM4 ?h04 (fun x => .cells #[.int .u8 x.D.t, .slice x.D.a x.D.B.length x.D.c] 35 (0, 0)) (fun x r e => by cases e) _ ?assign4 ?body4 ?done4 ?stop4
          case hK4 =>
            intro p A h
            have q := FW2.out.same (h.kw kc2.out)
            exact ⟨HT.out.kept q.kw, HE.out.kept q.kw, by rw [← HN.out]; exact q.box, q.cl⟩
          case hI4 => exact fun p A r r' h _ => h.keptX (kept_put1 A _ _) (fun i hi => by omega) (by omega)
          case hIx4 => exact fun _ _ _ _ _ h _ => h
          case hM4 => exact scm_put Vc
          case h04 =>
            intro r
            have kk : Kept (fun _ => False) Vc ((Vc.alloc (.deferred (some []))).alloc (.loop r)) := (Kept.alloc _ _).trans (Kept.alloc _ _) (fun _ f => f.elim)
            exact ⟨kk.mono fun _ f => f.elim, kk.heap h14.out (fun f => f), ⟨_, rfl⟩, fun h => by cases h⟩
          case assign4 =>
            intro l s x B K hs hK
            have hX := heap_alloc_new B (.cells #[.int .u8 x.D.t, .slice x.D.a x.D.B.length x.D.c] 35)
            simp only [Sx.encs]
            gi_wp2
            generalize B.heap.size = Bx at hX hs ⊢
            exact hK Bx _ hs (Kept.alloc _ _) hX
          case body4 =>
            rintro l p x Bx A B hI kAB hM hlt hBx hX
            obtain ⟨rest, hrest⟩ := hM.come
            have hB := hI.keptX kAB (fun _ f => f.elim) (by omega)
            have kB := hB.kw kc2.out
            have FB := FW2.out.same kB
            obtain ⟨i, hi⟩ : ∃ i, i = p.length := ⟨_, rfl⟩
            have r14 := hB.i
            rw [← hi] at r14
            obtain ⟨hiN, g1, g2, y, rfl, rfl, r1, r2, r3, hyB, hyA⟩ := rs_at FB.R hrest hi
            obtain ⟨xA, xAd⟩ := hM.at_
            have cvA : ∀ j, (convert 22 9 (.slice x.D.a x.D.B.length x.D.c)).run Tryd.prog (B.drewN j) = .ok (.string (strOfNums x.D.B)) (B.drewN j) := fun j => conv_atF (bytes_keptF xA.b (Kept.drewN B j))
            have cvB : ∀ j, (convert 22 9 (.slice y.a x.D.B.length y.c)).run Tryd.prog (B.drewN j) = .ok (.string (strOfNums x.D.B)) (B.drewN j) := fun j => by have := conv_atF (c := y.c) (bytes_keptF hyA.b (Kept.drewN B j)); rw [hyB] at this; exact this
            have cvA1 : (convert 22 9 (.slice x.D.a x.D.B.length x.D.c)).run Tryd.prog B.drew = .ok (.string (strOfNums x.D.B)) B.drew := cvA 1
            have cvB1 : (convert 22 9 (.slice y.a x.D.B.length y.c)).run Tryd.prog B.drew = .ok (.string (strOfNums x.D.B)) B.drew := cvB 1
            have cvA0 : (convert 22 9 (.slice x.D.a x.D.B.length x.D.c)).run Tryd.prog B = .ok (.string (strOfNums x.D.B)) B := cvA 0
            have cvB0 : (convert 22 9 (.slice y.a x.D.B.length y.c)).run Tryd.prog B = .ok (.string (strOfNums x.D.B)) B := cvB 0
            generalize strOfNums x.D.B = st at cvA cvB cvA1 cvB1 cvA0 cvB0
            have x0 : B.cell? ⟨Bx, 0, none⟩ = some (.int .u8 x.D.t) := cell_of_row _ _ 0 _ _ _ hX
            have x1' : B.cell? ⟨Bx, 1, none⟩ = some (.slice x.D.a x.D.B.length x.D.c) := cell_of_row _ _ 1 _ _ _ hX
            have c14 := cell_of_one r14
            have z14 := free_of_one r14
            have c6 := cell_of_one FB.h6
            have c7 := cell_of_one FB.h7
            have c3 := cell_of_one FB.b3
            have c13 := cell_of_one (kB.heap HB13b.out (fun f => f))
            have n3 : w.heap.size < V.heap.size := Nat.lt_of_lt_of_le (size_of_some FW2.out.b3) (Nat.le_refl _)
            have s14 : ∀ j, ((B.drewN j).setCell ⟨V.heap.size, 0, none⟩ (.int .i64 ((i : Int) + 1))).cell? ⟨V.heap.size, 0, none⟩ = some (.int .i64 ((i : Int) + 1)) := fun j => cell_of_one (one_setCell (w := B.drewN j) r14)
            have s13 : ∀ j, ((B.drewN j).setCell ⟨V.heap.size, 0, none⟩ (.int .i64 ((i : Int) + 1))).cell? ⟨b13b, 0, none⟩ = some (.int .i64 1) := fun j => (Kept.setCell (B.drewN j) ⟨V.heap.size, 0, none⟩ (.int .i64 ((i : Int) + 1))).cell c13 (fun f => by simp only at f; omega)
            have s3 : ∀ j, ((B.drewN j).setCell ⟨V.heap.size, 0, none⟩ (.int .i64 ((i : Int) + 1))).cell? ⟨w.heap.size, 0, none⟩ = some (.int .i64 stop) := fun j => (Kept.setCell (B.drewN j) ⟨V.heap.size, 0, none⟩ (.int .i64 ((i : Int) + 1))).cell c3 (fun f => by simp only at f; omega)
            have FIN : Hid (∀ j, Still Vc.heap.size B ((B.drewN j).setCell ⟨V.heap.size, 0, none⟩ (.int .i64 ((i : Int) + 1))) ∧ ∀ b, (b = true → (i : Int) + 1 ≤ stop) → FrI V Vc L stop b (p ++ [x]) ((B.drewN j).setCell ⟨V.heap.size, 0, none⟩ (.int .i64 ((i : Int) + 1)))) := by
              intro j
              have ks := ((Kept.drewN B j).mono fun _ f => f.elim (C := _ ∨ _)).trans (Kept.setCell (B.drewN j) ⟨V.heap.size, 0, none⟩ (.int .i64 ((i : Int) + 1))) (fun k hk => .inl hk)
              refine ⟨Still.of_kept ks (by have := kAB.size; omega) (fun k hk h => by simp only at h; omega), fun b hb => ⟨hB.k.trans ks (fun k hk => .inl hk), ?_, ⟨rest, hrest⟩, fun hb1 => .inr ?_⟩⟩
              · have := one_setCell (w := B.drewN j) (u := .int .i64 ((i : Int) + 1)) r14
                rw [show ((p ++ [x]).length : Int) = (i : Int) + 1 by rw [List.length_append, hi]; simp]
                exact this
              · rw [show ((p ++ [x]).length : Int) = (i : Int) + 1 by rw [List.length_append, hi]; simp]
                exact hb hb1
            have hil : i < 1099511627776 := by have := hNn.out; omega
            have LEN : Hid (((p ++ [x]).length : Int) = (i : Int) + 1) := by show _ = _; rw [List.length_append, hi]; simp
            have i1 : (i : Int) < (N : Int) := by omega
            have i2 : decide (N ≤ i) = false := decide_eq_false (by omega)
            clear hI kAB hM hB FB r14 hX xA xAd hyA hrest hi kB
            gi_wp2
            refine quiet_round rfl (by kernel_rfl) (by kernel_rfl) (by kernel_rfl) ?_
            repeat (gi_big_quiet_step (fail))
            refine wpQuietIn_nil ?_
            intro _ hw'
            obtain ⟨nq, hw''⟩ := hw'
            subst hw''
            gi_wp2
            exact ⟨(FIN.out nq).1, (FIN.out nq).2 false (fun h => by cases h)⟩
          case stop4 => exact fun _ _ _ _ h => h.elim
          case done4 =>
            intro xs A W7 hS hI k hD
            have hB := hI.keptX k (fun _ f => f.elim) (by omega)
            have kB := hB.kw kc2.out
            have FB := hideC (FW2.out.same kB)
            have hxN : xs.length = N := by
              have h1 := congrArg List.length hS
              rw [← FB.out.R.dat, List.length_map, List.length_map, ← FB.out.R.len] at h1
              exact h1
            have c14 := cell_of_one hB.i
            rw [hxN] at c14
            have c6 := cell_of_one FB.out.h6
            have c3 := cell_of_one FB.out.b3
            have c13 := cell_of_one (kB.heap HB13b.out (fun f => f))
            have D7 := hideC (kB.heap D1.out (fun f => f))
            have HD7 := hideC hD
            clear hB kB hI k hD hS hxN
            go_wp2
            show Code.wp _ _ (Exit.then (fun _ _ => False) _) _ _
            have ka := Kept.alloc W7 (.cells #[.int .i64 2] 3)
            have hb8 := cell_of_one (heap_alloc_new W7 (.cells #[.int .i64 2] 3))
            have F8 := hideC (FB.out.same ka)
            have E1 := hideC (ka.heap D7.out (fun f => f))
            have E2 := hideC (ka.heap HD7.out (fun f => f))
            have c4 := cell_of_one F8.out.b4
            have z4 := free_of_one F8.out.b4
            generalize W7.alloc (.cells #[.int .i64 2] 3) = W8 at hb8 F8 E1 E2 c4 z4 ⊢
            clear ka FB D7 HD7 c13 c14 c6 c3
            go_wp2
            have z5 : w.heap.size + 1 < Wc.heap.size := by omega
            have z6 : Wc.heap.size < V.heap.size := size_of_some D1.out
            have ks := Kept.setCell W8 ⟨w.heap.size + 1, 0, none⟩ (.bool true)
            refine leaves_marks [Vc.heap.size, Wc.heap.size] _ (by simp; omega) (fun D hD => ?_) (fun W' kk => ?_)
            · rcases List.mem_cons.1 hD with rfl | hD
              · exact ks.heap E2.out (fun e => by simp only at e; omega)
              · rw [List.mem_singleton] at hD
                subst hD
                exact ks.heap E1.out (fun e => by simp only at e; omega)
            · have h4 := kk.heap (one_setCell (u := .bool true) F8.out.b4) (fun e => by simp only [List.mem_cons, List.not_mem_nil, or_false] at e; omega)
              refine ⟨_, results_cellb rfl _ _ _ rfl (cell_of_one h4), rfl, ?_⟩
              exact (F8.out.kw.trans ks (fun i hi => .inr (by simp only at hi; omega))).trans kk (fun i hi => .inr (by simp only [List.mem_cons, List.not_mem_nil, or_false] at hi; omega))
end Go.Proofs.YtoglgicmnhklbaaDoor
