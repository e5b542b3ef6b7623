import Derived.Test.YtklocdifkcnchaaDoorLyr
namespace Go.Proofs.YtklocdifkcnchaaDoor
open Go.ChangeShapes Go.WideShapes Go.ChangeAt Go.RowKit

/-! The recogniser: tokens as they lie in a row, the machine at its block. -/
structure Tn where
  k : Int
  t : ByteArray
  n : Int
  a : Int
  e : Int
/-- A row of tokens in memory. -/
structure TnAt (w : World) (g o : Nat) (y : Tn) : Prop where
  c0 : w.cell? ⟨g, o, none⟩ = some (.int .i64 y.k)
  c1 : w.cell? ⟨g, o + 1, none⟩ = some (.string y.t)
  c2 : w.cell? ⟨g, o + 2, none⟩ = some (.int .i64 y.n)
  c3 : w.cell? ⟨g, o + 3, none⟩ = some (.int .i64 y.a)
  c4 : w.cell? ⟨g, o + 4, none⟩ = some (.int .i64 y.e)
theorem TnAt.later {w w' : World} {g o : Nat} {y : Tn} (h : TnAt w g o y) (k : Kept (fun _ => False) w w') : TnAt w' g o y :=
  ⟨k.cell h.c0 (fun f => f), k.cell h.c1 (fun f => f), k.cell h.c2 (fun f => f), k.cell h.c3 (fun f => f), k.cell h.c4 (fun f => f)⟩
def Rw (w : World) (a : Option Addr) (R : List Tn) : Prop := R ≠ [] → ∃ g o, a = some ⟨g, o, none⟩ ∧ ∀ j y, R[j]? = some y → TnAt w g (o + j * 5) y
theorem Rw.later {w w' : World} {a : Option Addr} {R : List Tn} (h : Rw w a R) (k : Kept (fun _ => False) w w') : Rw w' a R := fun hne => by
  obtain ⟨g, o, e, hc⟩ := h hne
  exact ⟨g, o, e, fun j y hy => (hc j y hy).later k⟩
/-- The token at a place; behind the last one there is none. -/
def noT : Tn := ⟨-1, ⟨#[]⟩, 0, 0, 0⟩
def tkA (R : List Tn) (i : Nat) : Tn := (R[i]?).getD noT
def Tn.v (y : Tn) : Value := .agg #[.int .i64 y.k, .string y.t, .int .i64 y.n, .int .i64 y.a, .int .i64 y.e]
/-- A level: its nest, its NOTs, whether its clause is signed. -/
structure Lv where
  n : Nat
  t : Nat
  s : Bool
def lvC (x : Lv) : List Value := [.int .i64 (x.n : Int), .int .i64 (x.t : Int), .bool x.s]
def lvv (L : List Lv) : List Value := L.flatMap lvC
/-- What the machine has come to: its place, what it has missed, its nest, its innermost level, those around it (the innermost first). -/
structure MS where
  at' : Nat
  mi : Nat
  ne : Nat
  top : Lv
  ou : List Lv
structure Mc (w0 w : World) (b rc : Nat) (a0 : Option Addr) (R : List Tn) (v : Value) (s : MS) : Prop where
  blk : w.heap[b]? = some (.cells #[.slice a0 R.length rc, .int .i64 (s.at' : Int), .int .u32 (s.mi : Int), .int .i64 (s.ne : Int), .int .i64 (s.top.n : Int), .int .i64 (s.top.t : Int), .bool s.top.s, v] 51 (0, 0))
  own : w.ownsRow w0.heap.size 48 3 v s.ou.length (lvv s.ou.reverse)
  kept : Kept (fun _ => False) w0 w
  hb : w0.heap.size ≤ b
  row : Rw w0 a0 R
  ha : s.at' ≤ R.length
  hr : R.length ≤ 500000000000
  hm : s.mi < 4294967296
variable {w0 w w' : World} {b rc : Nat} {a0 : Option Addr} {R : List Tn} {v : Value} {s : MS}
theorem Mc.cells (h : Mc w0 w b rc a0 R v s) : w.cell? ⟨b, 0, none⟩ = some (.slice a0 R.length rc) ∧ w.cell? ⟨b, 1, none⟩ = some (.int .i64 (s.at' : Int)) ∧ w.cell? ⟨b, 2, none⟩ = some (.int .u32 (s.mi : Int)) ∧ w.cell? ⟨b, 3, none⟩ = some (.int .i64 (s.ne : Int)) ∧ w.cell? ⟨b, 4, none⟩ = some (.int .i64 (s.top.n : Int)) ∧ w.cell? ⟨b, 5, none⟩ = some (.int .i64 (s.top.t : Int)) ∧ w.cell? ⟨b, 6, none⟩ = some (.bool s.top.s) ∧ w.cell? ⟨b, 7, none⟩ = some v := by
  have hc := fun j => cell_of_row w b j _ _ _ h.blk
  refine ⟨?_, ?_, ?_, ?_, ?_, ?_, ?_, ?_⟩ <;> (rw [hc]; rfl)
theorem Mc.free (h : Mc w0 w b rc a0 R v s) (j : Nat) : w.frozen? ⟨b, j, none⟩ = false := by simp [World.frozen?, h.blk]
theorem Mc.later (h : Mc w0 w b rc a0 R v s) (kk : Kept (fun _ => False) w w') : Mc w0 w' b rc a0 R v s :=
  ⟨kk.heap h.blk (fun f => f), kk.row h.own (fun _ _ f => f), h.kept.trans kk (fun _ f => f.elim), h.hb, h.row, h.ha, h.hr, h.hm⟩
theorem Mc.nev (h : Mc w0 w b rc a0 R v s) : v.ownBlock ≠ some b := by
  intro x
  rcases h.own.2 with ⟨rfl, _⟩ | ⟨g, cap, cur, rfl, _, hg, _⟩
  · simp [Value.ownBlock] at x
  · simp [Value.ownBlock] at x
    subst x
    rw [h.blk] at hg
    simp at hg
theorem Mc.put (h : Mc w0 w b rc a0 R v s) (j : Nat) (u : Value) : (w.setCell ⟨b, j, none⟩ u).heap[b]? = some (.cells ((#[.slice a0 R.length rc, .int .i64 (s.at' : Int), .int .u32 (s.mi : Int), .int .i64 (s.ne : Int), .int .i64 (s.top.n : Int), .int .i64 (s.top.t : Int), .bool s.top.s, v] : Array Value).setIfInBounds j u) 51 (0, 0)) ∧ (w.setCell ⟨b, j, none⟩ u).ownsRow w0.heap.size 48 3 v s.ou.length (lvv s.ou.reverse) ∧ Kept (fun _ => False) w0 (w.setCell ⟨b, j, none⟩ u) :=
  ⟨heap_setCell_same w b j _ _ u h.blk, ownsRow_setCell_other h.own h.nev _, h.kept.trans (Kept.setCell _ _ _) (fun i hi => .inr (by have := h.hb; simp only at hi; omega))⟩
theorem Mc.setAt (h : Mc w0 w b rc a0 R v s) (x : Nat) (z : Int) (hz : z = (x : Int)) (hx : x ≤ R.length) : Mc w0 (w.setCell ⟨b, 1, none⟩ (.int .i64 z)) b rc a0 R v { s with at' := x } := by
  subst hz
  obtain ⟨h1, h2, h3⟩ := h.put 1 (.int .i64 (x : Int))
  exact ⟨h1, h2, h3, h.hb, h.row, hx, h.hr, h.hm⟩
theorem Mc.setMi (h : Mc w0 w b rc a0 R v s) (x : Nat) (z : Int) (hz : z = (x : Int)) (hx : x < 4294967296) : Mc w0 (w.setCell ⟨b, 2, none⟩ (.int .u32 z)) b rc a0 R v { s with mi := x } := by
  subst hz
  obtain ⟨h1, h2, h3⟩ := h.put 2 (.int .u32 (x : Int))
  exact ⟨h1, h2, h3, h.hb, h.row, h.ha, h.hr, hx⟩
theorem Mc.setNe (h : Mc w0 w b rc a0 R v s) (x : Nat) (z : Int) (hz : z = (x : Int)) : Mc w0 (w.setCell ⟨b, 3, none⟩ (.int .i64 z)) b rc a0 R v { s with ne := x } := by
  subst hz
  obtain ⟨h1, h2, h3⟩ := h.put 3 (.int .i64 (x : Int))
  exact ⟨h1, h2, h3, h.hb, h.row, h.ha, h.hr, h.hm⟩
theorem Mc.setTn (h : Mc w0 w b rc a0 R v s) (x : Nat) (z : Int) (hz : z = (x : Int)) : Mc w0 (w.setCell ⟨b, 4, none⟩ (.int .i64 z)) b rc a0 R v { s with top := { s.top with n := x } } := by
  subst hz
  obtain ⟨h1, h2, h3⟩ := h.put 4 (.int .i64 (x : Int))
  exact ⟨h1, h2, h3, h.hb, h.row, h.ha, h.hr, h.hm⟩
theorem Mc.setTt (h : Mc w0 w b rc a0 R v s) (x : Nat) (z : Int) (hz : z = (x : Int)) : Mc w0 (w.setCell ⟨b, 5, none⟩ (.int .i64 z)) b rc a0 R v { s with top := { s.top with t := x } } := by
  subst hz
  obtain ⟨h1, h2, h3⟩ := h.put 5 (.int .i64 (x : Int))
  exact ⟨h1, h2, h3, h.hb, h.row, h.ha, h.hr, h.hm⟩
theorem Mc.setTs (h : Mc w0 w b rc a0 R v s) (x : Bool) : Mc w0 (w.setCell ⟨b, 6, none⟩ (.bool x)) b rc a0 R v { s with top := { s.top with s := x } } := by
  obtain ⟨h1, h2, h3⟩ := h.put 6 (.bool x)
  exact ⟨h1, h2, h3, h.hb, h.row, h.ha, h.hr, h.hm⟩
/-- A token taken, or missed. -/
def MS.pass (s : MS) (k : Nat) (f : Bool) : MS := if f then { s with at' := s.at' + 1, mi := 0 } else { s with mi := s.mi ||| (1 <<< k) }
theorem results_cellS {fn : Func} {p : Tmp} {ty : TypeId} (h : fn.results = #[.cell p ty]) (tmps : Array Value) (P : Program) (w : World) (g : Nat) (cs : Array Value)
    (hp : tmps.getD p undef = .pointer (some ⟨g, 0, none⟩)) (hld : (loadVar ty ⟨g, 0, none⟩).run P w = .ok (.agg cs) w) :
    (results fn tmps).run P w = .ok (.agg cs) w := by
  have hp' : tmps[p]?.getD undef = .pointer (some ⟨g, 0, none⟩) := by simpa using hp
  simp [results, h, hp', asAddr, hld]
theorem load_lexS {W : World} {g : Nat} {x0 x1 x2 x3 x4 : Value} (h : W.heap[g]? = some (.cells #[x0, x1, x2, x3, x4] 31 (0, 0))) : (loadVar 31 ⟨g, 0, none⟩).run Tryd.prog W = .ok (.agg #[x0, x1, x2, x3, x4]) W :=
  run_loadVar_row W g 31 31 #[x0, x1, x2, x3, x4] (0, 0) _ h Tryd.underlying31 rfl (by kernel_rfl)
theorem lexS_put5 {W : World} {g : Nat} {x0 x1 x2 x3 x4 v0 v1 v2 v3 v4 : Value} {t : TypeId} (h : W.heap[g]? = some (.cells #[x0, x1, x2, x3, x4] t (0, 0))) : (((((W.setCell ⟨g, 0, none⟩ v0).setCell ⟨g, 1, none⟩ v1).setCell ⟨g, 2, none⟩ v2).setCell ⟨g, 3, none⟩ v3).setCell ⟨g, 4, none⟩ v4).heap[g]? = some (.cells #[v0, v1, v2, v3, v4] t (0, 0)) := by
  have h1 := heap_setCell_same W g 0 _ t v0 h
  have h2 := heap_setCell_same _ g 1 _ t v1 h1
  have h3 := heap_setCell_same _ g 2 _ t v2 h2
  have h4 := heap_setCell_same _ g 3 _ t v3 h3
  have h5 := heap_setCell_same _ g 4 _ t v4 h4
  simpa using h5
theorem keptS_put {w W : World} {g o : Nat} {v : Value} (h : Kept (fun _ => False) w W) (hg : w.heap.size ≤ g) : Kept (fun _ => False) w (W.setCell ⟨g, o, none⟩ v) := h.trans (Kept.setCell W ⟨g, o, none⟩ v) (fun i e => .inr (by simp only at e; omega))
theorem keptS_put5 {w W : World} {g : Nat} {v0 v1 v2 v3 v4 : Value} (h : Kept (fun _ => False) w W) (hg : w.heap.size ≤ g) : Kept (fun _ => False) w (((((W.setCell ⟨g, 0, none⟩ v0).setCell ⟨g, 1, none⟩ v1).setCell ⟨g, 2, none⟩ v2).setCell ⟨g, 3, none⟩ v3).setCell ⟨g, 4, none⟩ v4) := keptS_put (keptS_put (keptS_put (keptS_put (keptS_put h hg) hg) hg) hg) hg
theorem rowS_cells5 {W : World} {g : Nat} {x0 x1 x2 x3 x4 : Value} {t : TypeId} (z : W.heap[g]? = some (.cells #[x0, x1, x2, x3, x4] t (0, 0))) : W.cell? ⟨g, 0, none⟩ = some x0 ∧ W.cell? ⟨g, 1, none⟩ = some x1 ∧ W.cell? ⟨g, 2, none⟩ = some x2 ∧ W.cell? ⟨g, 3, none⟩ = some x3 ∧ W.cell? ⟨g, 4, none⟩ = some x4 ∧ (∀ i, W.frozen? ⟨g, i, none⟩ = false) := by
  refine ⟨?_, ?_, ?_, ?_, ?_, fun i => ?_⟩ <;> simp [World.cell?, World.frozen?, z]
end Go.Proofs.YtklocdifkcnchaaDoor
