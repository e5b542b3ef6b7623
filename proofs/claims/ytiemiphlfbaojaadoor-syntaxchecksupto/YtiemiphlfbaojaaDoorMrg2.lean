import Derived.Test.YtiemiphlfbaojaaDoorMrg1
import Derived.BigRegion
namespace Go.Proofs.YtiemiphlfbaojaaDoor
open Go.ChangeShapes Go.WideShapes Go.ChangeAt Go.RowKit

/-! The recogniser: tokens as they lie in a row, the machine at its block. -/
structure Tn where
  k : Int
  t : ByteArray
  n : Int
  a : Int
  e : Int
/-- A row of tokens in memory. -/
structure TnAt (w : World) (g o : Nat) (y : Tn) : Prop where
  c0 : w.cell? ⟨g, o, none⟩ = some (.int .i64 y.k)
  c1 : w.cell? ⟨g, o + 1, none⟩ = some (.string y.t)
  c2 : w.cell? ⟨g, o + 2, none⟩ = some (.int .i64 y.n)
  c3 : w.cell? ⟨g, o + 3, none⟩ = some (.int .i64 y.a)
  c4 : w.cell? ⟨g, o + 4, none⟩ = some (.int .i64 y.e)
theorem TnAt.later {w w' : World} {g o : Nat} {y : Tn} (h : TnAt w g o y) (k : Kept (fun _ => False) w w') : TnAt w' g o y :=
  ⟨k.cell h.c0 (fun f => f), k.cell h.c1 (fun f => f), k.cell h.c2 (fun f => f), k.cell h.c3 (fun f => f), k.cell h.c4 (fun f => f)⟩
def Rw (w : World) (a : Option Addr) (R : List Tn) : Prop := R ≠ [] → ∃ g o, a = some ⟨g, o, none⟩ ∧ ∀ j y, R[j]? = some y → TnAt w g (o + j * 5) y
theorem Rw.later {w w' : World} {a : Option Addr} {R : List Tn} (h : Rw w a R) (k : Kept (fun _ => False) w w') : Rw w' a R := fun hne => by
  obtain ⟨g, o, e, hc⟩ := h hne
  exact ⟨g, o, e, fun j y hy => (hc j y hy).later k⟩
/-- The token at a place; behind the last one there is none. -/
def noT : Tn := ⟨-1, ⟨#[]⟩, 0, 0, 0⟩
def tkA (R : List Tn) (i : Nat) : Tn := (R[i]?).getD noT
def Tn.v (y : Tn) : Value := .agg #[.int .i64 y.k, .string y.t, .int .i64 y.n, .int .i64 y.a, .int .i64 y.e]
/-- A level: its nest, its NOTs, whether its clause is signed. -/
structure Lv where
  n : Nat
  t : Nat
  s : Bool
def lvC (x : Lv) : List Value := [.int .i64 (x.n : Int), .int .i64 (x.t : Int), .bool x.s]
def lvv (L : List Lv) : List Value := L.flatMap lvC
/-- What the machine has come to: its place, what it has missed, its nest, its innermost level, those around it (the innermost first). -/
structure MS where
  at' : Nat
  mi : Nat
  ne : Nat
  top : Lv
  ou : List Lv
structure Mc (w0 w : World) (b rc : Nat) (a0 : Option Addr) (R : List Tn) (v : Value) (s : MS) : Prop where
  blk : w.heap[b]? = some (.cells #[.slice a0 R.length rc, .int .i64 (s.at' : Int), .int .u32 (s.mi : Int), .int .i64 (s.ne : Int), .int .i64 (s.top.n : Int), .int .i64 (s.top.t : Int), .bool s.top.s, v] 53 (0, 0))
  own : w.ownsRow w0.heap.size 50 3 v s.ou.length (lvv s.ou.reverse)
  kept : Kept (fun _ => False) w0 w
  hb : w0.heap.size ≤ b
  row : Rw w0 a0 R
  ha : s.at' ≤ R.length
  hr : R.length ≤ 500000000000
  hm : s.mi < 4294967296
variable {w0 w w' : World} {b rc : Nat} {a0 : Option Addr} {R : List Tn} {v : Value} {s : MS}
theorem Mc.cells (h : Mc w0 w b rc a0 R v s) : w.cell? ⟨b, 0, none⟩ = some (.slice a0 R.length rc) ∧ w.cell? ⟨b, 1, none⟩ = some (.int .i64 (s.at' : Int)) ∧ w.cell? ⟨b, 2, none⟩ = some (.int .u32 (s.mi : Int)) ∧ w.cell? ⟨b, 3, none⟩ = some (.int .i64 (s.ne : Int)) ∧ w.cell? ⟨b, 4, none⟩ = some (.int .i64 (s.top.n : Int)) ∧ w.cell? ⟨b, 5, none⟩ = some (.int .i64 (s.top.t : Int)) ∧ w.cell? ⟨b, 6, none⟩ = some (.bool s.top.s) ∧ w.cell? ⟨b, 7, none⟩ = some v := by
  have hc := fun j => cell_of_row w b j _ _ _ h.blk
  refine ⟨?_, ?_, ?_, ?_, ?_, ?_, ?_, ?_⟩ <;> (rw [hc]; rfl)
theorem Mc.free (h : Mc w0 w b rc a0 R v s) (j : Nat) : w.frozen? ⟨b, j, none⟩ = false := by simp [World.frozen?, h.blk]
theorem Mc.later (h : Mc w0 w b rc a0 R v s) (kk : Kept (fun _ => False) w w') : Mc w0 w' b rc a0 R v s :=
  ⟨kk.heap h.blk (fun f => f), kk.row h.own (fun _ _ f => f), h.kept.trans kk (fun _ f => f.elim), h.hb, h.row, h.ha, h.hr, h.hm⟩
theorem Mc.nev (h : Mc w0 w b rc a0 R v s) : v.ownBlock ≠ some b := by
  intro x
  rcases h.own.2 with ⟨rfl, _⟩ | ⟨g, cap, cur, rfl, _, hg, _⟩
  · simp [Value.ownBlock] at x
  · simp [Value.ownBlock] at x
    subst x
    rw [h.blk] at hg
    simp at hg
theorem Mc.put (h : Mc w0 w b rc a0 R v s) (j : Nat) (u : Value) : (w.setCell ⟨b, j, none⟩ u).heap[b]? = some (.cells ((#[.slice a0 R.length rc, .int .i64 (s.at' : Int), .int .u32 (s.mi : Int), .int .i64 (s.ne : Int), .int .i64 (s.top.n : Int), .int .i64 (s.top.t : Int), .bool s.top.s, v] : Array Value).setIfInBounds j u) 53 (0, 0)) ∧ (w.setCell ⟨b, j, none⟩ u).ownsRow w0.heap.size 50 3 v s.ou.length (lvv s.ou.reverse) ∧ Kept (fun _ => False) w0 (w.setCell ⟨b, j, none⟩ u) :=
  ⟨heap_setCell_same w b j _ _ u h.blk, ownsRow_setCell_other h.own h.nev _, h.kept.trans (Kept.setCell _ _ _) (fun i hi => .inr (by have := h.hb; simp only at hi; omega))⟩
theorem Mc.setAt (h : Mc w0 w b rc a0 R v s) (x : Nat) (z : Int) (hz : z = (x : Int)) (hx : x ≤ R.length) : Mc w0 (w.setCell ⟨b, 1, none⟩ (.int .i64 z)) b rc a0 R v { s with at' := x } := by
  subst hz
  obtain ⟨h1, h2, h3⟩ := h.put 1 (.int .i64 (x : Int))
  exact ⟨h1, h2, h3, h.hb, h.row, hx, h.hr, h.hm⟩
theorem Mc.setMi (h : Mc w0 w b rc a0 R v s) (x : Nat) (z : Int) (hz : z = (x : Int)) (hx : x < 4294967296) : Mc w0 (w.setCell ⟨b, 2, none⟩ (.int .u32 z)) b rc a0 R v { s with mi := x } := by
  subst hz
  obtain ⟨h1, h2, h3⟩ := h.put 2 (.int .u32 (x : Int))
  exact ⟨h1, h2, h3, h.hb, h.row, h.ha, h.hr, hx⟩
theorem Mc.setNe (h : Mc w0 w b rc a0 R v s) (x : Nat) (z : Int) (hz : z = (x : Int)) : Mc w0 (w.setCell ⟨b, 3, none⟩ (.int .i64 z)) b rc a0 R v { s with ne := x } := by
  subst hz
  obtain ⟨h1, h2, h3⟩ := h.put 3 (.int .i64 (x : Int))
  exact ⟨h1, h2, h3, h.hb, h.row, h.ha, h.hr, h.hm⟩
theorem Mc.setTn (h : Mc w0 w b rc a0 R v s) (x : Nat) (z : Int) (hz : z = (x : Int)) : Mc w0 (w.setCell ⟨b, 4, none⟩ (.int .i64 z)) b rc a0 R v { s with top := { s.top with n := x } } := by
  subst hz
  obtain ⟨h1, h2, h3⟩ := h.put 4 (.int .i64 (x : Int))
  exact ⟨h1, h2, h3, h.hb, h.row, h.ha, h.hr, h.hm⟩
theorem Mc.setTt (h : Mc w0 w b rc a0 R v s) (x : Nat) (z : Int) (hz : z = (x : Int)) : Mc w0 (w.setCell ⟨b, 5, none⟩ (.int .i64 z)) b rc a0 R v { s with top := { s.top with t := x } } := by
  subst hz
  obtain ⟨h1, h2, h3⟩ := h.put 5 (.int .i64 (x : Int))
  exact ⟨h1, h2, h3, h.hb, h.row, h.ha, h.hr, h.hm⟩
theorem Mc.setTs (h : Mc w0 w b rc a0 R v s) (x : Bool) : Mc w0 (w.setCell ⟨b, 6, none⟩ (.bool x)) b rc a0 R v { s with top := { s.top with s := x } } := by
  obtain ⟨h1, h2, h3⟩ := h.put 6 (.bool x)
  exact ⟨h1, h2, h3, h.hb, h.row, h.ha, h.hr, h.hm⟩
/-- A token taken, or missed. -/
def MS.pass (s : MS) (k : Nat) (f : Bool) : MS := if f then { s with at' := s.at' + 1, mi := 0 } else { s with mi := s.mi ||| (1 <<< k) }
theorem results_cellS {fn : Func} {p : Tmp} {ty : TypeId} (h : fn.results = #[.cell p ty]) (tmps : Array Value) (P : Program) (w : World) (g : Nat) (cs : Array Value)
    (hp : tmps.getD p undef = .pointer (some ⟨g, 0, none⟩)) (hld : (loadVar ty ⟨g, 0, none⟩).run P w = .ok (.agg cs) w) :
    (results fn tmps).run P w = .ok (.agg cs) w := by
  have hp' : tmps[p]?.getD undef = .pointer (some ⟨g, 0, none⟩) := by simpa using hp
  simp [results, h, hp', asAddr, hld]
theorem load_lexS {W : World} {g : Nat} {x0 x1 x2 x3 x4 : Value} (h : W.heap[g]? = some (.cells #[x0, x1, x2, x3, x4] 59 (0, 0))) : (loadVar 59 ⟨g, 0, none⟩).run Tryd.prog W = .ok (.agg #[x0, x1, x2, x3, x4]) W :=
  run_loadVar_row W g 59 59 #[x0, x1, x2, x3, x4] (0, 0) _ h Tryd.underlying59 rfl (by kernel_rfl)
theorem lexS_put5 {W : World} {g : Nat} {x0 x1 x2 x3 x4 v0 v1 v2 v3 v4 : Value} {t : TypeId} (h : W.heap[g]? = some (.cells #[x0, x1, x2, x3, x4] t (0, 0))) : (((((W.setCell ⟨g, 0, none⟩ v0).setCell ⟨g, 1, none⟩ v1).setCell ⟨g, 2, none⟩ v2).setCell ⟨g, 3, none⟩ v3).setCell ⟨g, 4, none⟩ v4).heap[g]? = some (.cells #[v0, v1, v2, v3, v4] t (0, 0)) := by
  have h1 := heap_setCell_same W g 0 _ t v0 h
  have h2 := heap_setCell_same _ g 1 _ t v1 h1
  have h3 := heap_setCell_same _ g 2 _ t v2 h2
  have h4 := heap_setCell_same _ g 3 _ t v3 h3
  have h5 := heap_setCell_same _ g 4 _ t v4 h4
  simpa using h5
theorem keptS_put {w W : World} {g o : Nat} {v : Value} (h : Kept (fun _ => False) w W) (hg : w.heap.size ≤ g) : Kept (fun _ => False) w (W.setCell ⟨g, o, none⟩ v) := h.trans (Kept.setCell W ⟨g, o, none⟩ v) (fun i e => .inr (by simp only at e; omega))
theorem keptS_put5 {w W : World} {g : Nat} {v0 v1 v2 v3 v4 : Value} (h : Kept (fun _ => False) w W) (hg : w.heap.size ≤ g) : Kept (fun _ => False) w (((((W.setCell ⟨g, 0, none⟩ v0).setCell ⟨g, 1, none⟩ v1).setCell ⟨g, 2, none⟩ v2).setCell ⟨g, 3, none⟩ v3).setCell ⟨g, 4, none⟩ v4) := keptS_put (keptS_put (keptS_put (keptS_put (keptS_put h hg) hg) hg) hg) hg
theorem rowS_cells5 {W : World} {g : Nat} {x0 x1 x2 x3 x4 : Value} {t : TypeId} (z : W.heap[g]? = some (.cells #[x0, x1, x2, x3, x4] t (0, 0))) : W.cell? ⟨g, 0, none⟩ = some x0 ∧ W.cell? ⟨g, 1, none⟩ = some x1 ∧ W.cell? ⟨g, 2, none⟩ = some x2 ∧ W.cell? ⟨g, 3, none⟩ = some x3 ∧ W.cell? ⟨g, 4, none⟩ = some x4 ∧ (∀ i, W.frozen? ⟨g, i, none⟩ = false) := by
  refine ⟨?_, ?_, ?_, ?_, ?_, fun i => ?_⟩ <;> simp [World.cell?, World.frozen?, z]
end Go.Proofs.YtiemiphlfbaojaaDoor
namespace Go.Proofs.YtiemiphlfbaojaaDoor
open Go.ChangeShapes Go.WideShapes Go.ChangeAt Go.RowKit
variable {w0 w w' : World} {b rc : Nat} {a0 : Option Addr} {R : List Tn} {v : Value} {s : MS}

set_option maxRecDepth 20000 in
set_option maxHeartbeats 4000000 in
theorem token_any (h : Mc w0 w b rc a0 R v s) :
    Calls Tryd.prog 57 #[.pointer (some ⟨b, 0, none⟩)] w fun e w' => e = .returned (tkA R s.at').v ∧ Kept (fun _ => False) w w' := by
  have KA := Kept.alloc w (.cells #[.int .i64 0, .string ⟨#[]⟩, .int .i64 0, .int .i64 0, .int .i64 0] 59)
  have H1 := h.later KA
  obtain ⟨x0, x1, -, -, -, -, -, -⟩ := H1.cells
  have ha := h.ha
  have hr := h.hr
  have hnew := heap_alloc_new w (.cells #[.int .i64 0, .string ⟨#[]⟩, .int .i64 0, .int .i64 0, .int .i64 0] 59)
  by_cases hlt : s.at' < R.length
  · have hne : R ≠ [] := by intro e; rw [e] at hlt; simp at hlt
    obtain ⟨g, o, e0, hc⟩ := h.row hne
    have hy : R[s.at']? = some R[s.at'] := List.getElem?_eq_getElem hlt
    have et : tkA R s.at' = R[s.at'] := by unfold tkA; rw [hy]; rfl
    rw [et]
    obtain ⟨y0, y1, y2, y3, y4⟩ := ((hc _ _ hy).later h.kept).later KA
    generalize R[s.at'] = Y at *
    obtain ⟨yk, yt, yn, ya, ye⟩ := Y
    dsimp only at y0 y1 y2 y3 y4
    subst e0
    have hz : (s.at' : Int) < (R.length : Int) := by omega
    have hq : ((s.at' : Int) == (R.length : Int)) = false := by rw [beq_eq_false_iff_ne]; omega
    have HK := hideL KA
    generalize s.at' = p at *
    generalize R.length = n at *
    clear h H1 hc hy et hne hlt
    go_enter Tryd.func57, Tryd.ntmps57
    go_wp2_with fail
    have hg9 := Nat.le_refl w.heap.size
    clear KA
    generalize w.alloc (.cells #[.int .i64 0, .string ⟨#[]⟩, .int .i64 0, .int .i64 0, .int .i64 0] 59) = V at *
    have HG9 := hideL hg9
    clear hg9
    generalize hge : w.heap.size = g9 at hnew ⊢
    rw [hge] at HG9
    have HG9 : Hid (w.heap.size ≤ g9) := hideL (by omega)
    clear hge
    go_quiet (fail)
    have KD := Kept.drewL V nq
    have HK2 := hideL (HK.out.trans KD (fun _ f => f.elim))
    have HN2 := hideL (KD.heap hnew (fun f => f))
    have x0' := KD.cell x0 (fun f => f)
    have x1' := KD.cell x1 (fun f => f)
    have y0' := KD.cell y0 (fun f => f)
    have y1' := KD.cell y1 (fun f => f)
    have y2' := KD.cell y2 (fun f => f)
    have y3' := KD.cell y3 (fun f => f)
    have y4' := KD.cell y4 (fun f => f)
    clear KD x0 x1 y0 y1 y2 y3 y4 HK hnew
    generalize V.drewN nq = V2 at *
    obtain ⟨d0, d1, d2, d3, d4, df⟩ := rowS_cells5 HN2.out
    have f0 := df 0
    have f1 := df 1
    have f2 := df 2
    have f3 := df 3
    have f4 := df 4
    clear df
    go_wp2_with fail
    go_region
    go_wp2_with fail
    refine bodyPost_ret (results_cellS rfl _ _ _ g9 _ rfl (load_lexS (by exact lexS_put5 HN2.out))) rfl ?_
    exact ⟨rfl, (keptS_put5 HK2.out HG9.out).trans (Kept.drew _) (fun _ f => f.elim)⟩
  · have et : tkA R s.at' = noT := by unfold tkA; rw [List.getElem?_eq_none (by omega)]; rfl
    rw [et]
    have hq : ((s.at' : Int) == (R.length : Int)) = true := by rw [beq_iff_eq]; omega
    have hq2 : (s.at' : Int) = (R.length : Int) := by omega
    rw [hq2] at x1 hq
    have HK := hideL KA
    generalize R.length = n at *
    clear h H1 et hlt hq2 ha
    go_enter Tryd.func57, Tryd.ntmps57
    go_wp2_with fail
    clear KA
    generalize w.alloc (.cells #[.int .i64 0, .string ⟨#[]⟩, .int .i64 0, .int .i64 0, .int .i64 0] 59) = V at *
    generalize hge : w.heap.size = g9 at hnew ⊢
    have HG9 : Hid (w.heap.size ≤ g9) := hideL (by omega)
    clear hge
    go_quiet (fail)
    have KD := Kept.drewL V nq
    have HK2 := hideL (HK.out.trans KD (fun _ f => f.elim))
    have HN2 := hideL (KD.heap hnew (fun f => f))
    clear KD x0 x1 HK hnew
    generalize V.drewN nq = V2 at *
    obtain ⟨d0, d1, d2, d3, d4, df⟩ := rowS_cells5 HN2.out
    have f0 := df 0
    have f1 := df 1
    have f2 := df 2
    have f3 := df 3
    have f4 := df 4
    clear df
    go_wp2_with fail
    refine bodyPost_ret (results_cellS rfl _ _ _ g9 _ rfl (load_lexS (by exact lexS_put5 HN2.out))) rfl ?_
    exact ⟨rfl, keptS_put5 HK2.out HG9.out⟩
theorem or_u32 (a b : Nat) (ha : a < 4294967296) (hb : b < 4294967296) : bits .or .u32 (a : Int) (b : Int) = ((a ||| b : Nat) : Int) := by
  show IntKind.u32.wrap ((BitVec.ofInt 32 (a : Int) ||| BitVec.ofInt 32 (b : Int)).toNat : Int) = _
  have e : ∀ x : Nat, x < 4294967296 → (BitVec.ofInt 32 (x : Int)).toNat = x := fun x hx => by
    rw [BitVec.ofInt_natCast, BitVec.toNat_ofNat]; exact Nat.mod_eq_of_lt hx
  rw [BitVec.toNat_or, e a ha, e b hb, IntKind.wrap_u32]
  have : a ||| b < 2 ^ 32 := Nat.or_lt_two_pow ha hb
  omega
theorem pow_u32 (k : Nat) (hk : k ≤ 21) : ((2 : Int) ^ k) % (4294967296 : Int) = ((1 <<< k : Nat) : Int) ∧ 1 <<< k < 4294967296 := by
  have h2 : 2 ^ k < 4294967296 := Nat.lt_of_le_of_lt (Nat.pow_le_pow_right (by decide) hk) (by decide)
  rw [Nat.one_shiftLeft]
  refine ⟨?_, h2⟩
  have e : (2 : Int) ^ k = ((2 ^ k : Nat) : Int) := by simp
  rw [e]
  generalize 2 ^ k = q at *
  omega
/-- The bit of a kind. -/
theorem bit_or (m k : Nat) (hm : m < 4294967296) (hk : k ≤ 21) : m ||| (1 <<< k) < 4294967296 := by
  have h2 : 1 <<< k < 2 ^ 32 := by
    rw [Nat.one_shiftLeft]
    exact Nat.pow_lt_pow_right (by decide) (by omega)
  exact Nat.or_lt_two_pow hm h2
set_option maxRecDepth 20000 in
set_option maxHeartbeats 4000000 in
theorem pass_yes (h : Mc w0 w b rc a0 R v s) (k : Int) (hlt : s.at' < R.length) :
    Calls Tryd.prog 56 #[.pointer (some ⟨b, 0, none⟩), .int .i64 k, .bool true] w fun e w' => e = .returned (.bool true) ∧ Mc w0 w' b rc a0 R v { s with at' := s.at' + 1, mi := 0 } := by
  obtain ⟨-, x1, x2, -, -, -, -, -⟩ := h.cells
  have f1 := h.free 1
  have f2 := h.free 2
  have hr := h.hr
  have H2 := hideL ((h.setAt (s.at' + 1) ((s.at' : Int) + 1) (by omega) (by omega)).setMi 0 0 rfl (by decide))
  have hat : s.at' ≤ 500000000000 := by omega
  generalize s.at' = p at x1 H2 hat hlt
  clear h hlt hr
  go_enter Tryd.func56, Tryd.ntmps56
  go_wp2_with fail
  go_ret
  exact ⟨rfl, H2.out⟩
set_option maxRecDepth 20000 in
set_option maxHeartbeats 4000000 in
theorem pass_no (h : Mc w0 w b rc a0 R v s) (k : Nat) (hk : k ≤ 21) :
    Calls Tryd.prog 56 #[.pointer (some ⟨b, 0, none⟩), .int .i64 (k : Int), .bool false] w fun e w' => e = .returned (.bool false) ∧ Mc w0 w' b rc a0 R v { s with mi := s.mi ||| (1 <<< k) } := by
  obtain ⟨-, -, x2, -, -, -, -, -⟩ := h.cells
  have f2 := h.free 2
  have hm := h.hm
  have HH := hideL (h.setMi (s.mi ||| (1 <<< k)) (bits BinOp.or IntKind.u32 (s.mi : Int) (((2 : Int) ^ k) % (4294967296 : Int))) (by rw [(pow_u32 k hk).1, or_u32 _ _ hm (pow_u32 k hk).2]) (bit_or _ _ hm hk))
  generalize s.mi = m at x2 hm HH
  clear h
  go_enter Tryd.func56, Tryd.ntmps56
  go_wp2_with fail
  go_region
  go_wp2_with fail
  go_ret
  exact ⟨rfl, HH.out.later (Kept.drew _)⟩
end Go.Proofs.YtiemiphlfbaojaaDoor
namespace Go.Proofs.YtiemiphlfbaojaaDoor
open Go.ChangeShapes Go.WideShapes Go.ChangeAt Go.RowKit
variable {w0 w w' : World} {b rc : Nat} {a0 : Option Addr} {R : List Tn} {v : Value} {s : MS}

def isSt (y : Tn) : Bool := y.k == 2 && y.t.toList == [42]
def isEd (y : Tn) : Bool := y.k == 20 && (y.n == -1 || y.n == 1 || y.n == 2)
def isSl (y : Tn) : Bool := y.k == 20 && decide (0 ≤ y.n)
def isK (k : Nat) (y : Tn) : Bool := y.k == (k : Int)
theorem tk_in {f : Tn → Bool} (hf : f noT = false) (h : f (tkA R s.at') = true) : s.at' < R.length := by
  rcases Nat.lt_or_ge s.at' R.length with q | q
  · exact q
  · unfold tkA at h
    rw [List.getElem?_eq_none q] at h
    have h : f noT = true := h
    rw [hf] at h
    cases h
/-- What a taking of a kind leaves. -/
def tkS (R : List Tn) (k : Nat) (f : Tn → Bool) (s : MS) : MS := s.pass k (f (tkA R s.at'))
def tkB (R : List Tn) (f : Tn → Bool) (s : MS) : Bool := f (tkA R s.at')
/-- pass, at a token that fits or not. -/
theorem pass_any (h : Mc w0 w b rc a0 R v s) (k : Nat) (hk : k ≤ 21) (f : Tn → Bool) (hf : f noT = false) :
    Calls Tryd.prog 56 #[.pointer (some ⟨b, 0, none⟩), .int .i64 (k : Int), .bool (tkB R f s)] w fun e w' => e = .returned (.bool (tkB R f s)) ∧ Mc w0 w' b rc a0 R v (tkS R k f s) := by
  unfold tkS tkB MS.pass
  cases hq : f (tkA R s.at') with
  | true => exact pass_yes h _ (tk_in hf hq)
  | false => exact pass_no h k hk
set_option maxRecDepth 20000 in
set_option maxHeartbeats 4000000 in
theorem isStar_any (y : Tn) (w : World) : Calls Tryd.prog 58 #[y.v] w fun e w' => e = .returned (.bool (isSt y)) ∧ Kept (fun _ => False) w w' := by
  obtain ⟨k, t, n, a, e⟩ := y
  unfold Tn.v isSt
  dsimp only
  have KA := hideL (Kept.alloc w (.cells #[.int .i64 k, .string t, .int .i64 n, .int .i64 a, .int .i64 e] 59))
  cases hk : (k == 2) with
  | false =>
    go_enter Tryd.func58, Tryd.ntmps58
    go_wp2_with fail
    go_ret
    exact ⟨rfl, KA.out⟩
  | true =>
    cases ht : (t.toList == [42])
    all_goals
      go_enter Tryd.func58, Tryd.ntmps58
      go_wp2_with fail
      go_ret
      exact ⟨rfl, KA.out⟩
set_option maxRecDepth 20000 in
set_option maxHeartbeats 4000000 in
theorem isEdits_any (y : Tn) (w : World) : Calls Tryd.prog 61 #[y.v] w fun e w' => e = .returned (.bool (isEd y)) ∧ Kept (fun _ => False) w w' := by
  obtain ⟨k, t, n, a, e⟩ := y
  unfold Tn.v isEd
  dsimp only
  have KA := hideL (Kept.alloc w (.cells #[.int .i64 k, .string t, .int .i64 n, .int .i64 a, .int .i64 e] 59))
  cases hk : (k == 20) with
  | false =>
    have hk2 : (k != 20) = true := by simp [bne, hk]
    go_enter Tryd.func61, Tryd.ntmps61
    go_wp2_with fail
    go_ret
    exact ⟨rfl, KA.out⟩
  | true =>
    have hk2 : (k != 20) = false := by simp [bne, hk]
    cases h1 : (n == -1) <;> cases h2 : (n == 1) <;> cases h3 : (n == 2)
    all_goals
      go_enter Tryd.func61, Tryd.ntmps61
      go_wp2_with fail
      go_ret
      exact ⟨rfl, KA.out⟩
set_option maxRecDepth 20000 in
set_option maxHeartbeats 4000000 in
theorem isSlop_any (y : Tn) (w : World) : Calls Tryd.prog 60 #[y.v] w fun e w' => e = .returned (.bool (isSl y)) ∧ Kept (fun _ => False) w w' := by
  obtain ⟨k, t, n, a, e⟩ := y
  unfold Tn.v isSl
  dsimp only
  have KA := hideL (Kept.alloc w (.cells #[.int .i64 k, .string t, .int .i64 n, .int .i64 a, .int .i64 e] 59))
  cases hk : (k == 20) with
  | false =>
    go_enter Tryd.func60, Tryd.ntmps60
    go_wp2_with fail
    go_ret
    exact ⟨rfl, KA.out⟩
  | true =>
    by_cases h1 : 0 ≤ n
    · rw [decide_eq_true h1]
      go_enter Tryd.func60, Tryd.ntmps60
      go_wp2_with fail
      go_ret
      exact ⟨rfl, KA.out⟩
    · rw [decide_eq_false h1]
      go_enter Tryd.func60, Tryd.ntmps60
      go_wp2_with fail
      go_ret
      exact ⟨rfl, KA.out⟩
theorem field_lx0 (W : World) (k n a e : Int) (t : ByteArray) : (Instr.field 59 (.agg #[.int .i64 k, .string t, .int .i64 n, .int .i64 a, .int .i64 e]) 0).run Tryd.prog W = .ok (.int .i64 k) W := by kernel_rfl
set_option maxRecDepth 20000 in
set_option maxHeartbeats 4000000 in
theorem take_anyS (h : Mc w0 w b rc a0 R v s) (k : Nat) (hk : k ≤ 21) :
    Calls Tryd.prog 29 #[.pointer (some ⟨b, 0, none⟩), .int .i64 (k : Int)] w fun e w' => e = .returned (.bool (tkB R (isK k) s)) ∧ Mc w0 w' b rc a0 R v (tkS R k (isK k) s) := by
  have C1 := hideL (token_any h)
  have hf : isK k noT = false := by unfold isK noT; simp
  have C2 := hideL (fun W (kk : Kept (fun _ => False) w W) => pass_any (h.later kk) k hk (isK k) hf)
  have hb : ((tkA R s.at').k == (k : Int)) = tkB R (isK k) s := rfl
  generalize tkB R (isK k) s = B at *
  generalize tkS R k (isK k) s = s' at *
  generalize tkA R s.at' = Y at *
  obtain ⟨yk, yt, yn, ya, ye⟩ := Y
  unfold Tn.v at C1
  dsimp only at C1 hb
  have F0 := fun W => field_lx0 W yk yn ya ye yt
  clear h hf
  cases B
  all_goals
    go_enter Tryd.func29, Tryd.ntmps29
    go_wp2_with (first
      | (go_at_call 57; refine C1.out.mono ?_; clear C1; rintro e W1 ⟨rfl, k1⟩; have K1 := hideL k1; clear k1)
      | (go_at_call 56; refine (C2.out _ K1.out).mono ?_; clear C2; rintro e W2 ⟨rfl, h2⟩; have H2 := hideL h2; clear h2))
    go_ret
    exact ⟨rfl, H2.out⟩
set_option maxRecDepth 20000 in
set_option maxHeartbeats 4000000 in
theorem takeStar_anyS (h : Mc w0 w b rc a0 R v s) :
    Calls Tryd.prog 30 #[.pointer (some ⟨b, 0, none⟩)] w fun e w' => e = .returned (.bool (tkB R isSt s)) ∧ Mc w0 w' b rc a0 R v (tkS R 2 isSt s) := by
  have C1 := hideL (token_any h)
  have C2 := hideL (fun W (kk : Kept (fun _ => False) w W) => pass_any (h.later kk) 2 (by decide) isSt rfl)
  have C3 := hideL (fun W => isStar_any (tkA R s.at') W)
  have hb : isSt (tkA R s.at') = tkB R isSt s := rfl
  rw [hb] at C3
  generalize tkB R isSt s = B at *
  generalize tkS R 2 isSt s = s' at *
  generalize tkA R s.at' = Y at *
  obtain ⟨yk, yt, yn, ya, ye⟩ := Y
  unfold Tn.v at C1 C3
  dsimp only at C1 C3
  clear h hb
  go_enter Tryd.func30, Tryd.ntmps30
  go_wp2_with (first
    | (go_at_call 57; refine C1.out.mono ?_; clear C1; rintro e W1 ⟨rfl, k1⟩; have K1 := hideL k1; clear k1)
    | (go_at_call 58; refine (C3.out _).mono ?_; clear C3; rintro e W3 ⟨rfl, k3⟩; have K3 := hideL (K1.out.trans k3 (fun _ f => f.elim)); clear k3 K1)
    | (go_at_call 56; refine (C2.out _ K3.out).mono ?_; clear C2; rintro e W2 ⟨rfl, h2⟩; have H2 := hideL h2; clear h2))
  go_ret
  exact ⟨rfl, H2.out⟩
set_option maxRecDepth 20000 in
set_option maxHeartbeats 4000000 in
theorem takeEdits_anyS (h : Mc w0 w b rc a0 R v s) :
    Calls Tryd.prog 34 #[.pointer (some ⟨b, 0, none⟩)] w fun e w' => e = .returned (.bool (tkB R isEd s)) ∧ Mc w0 w' b rc a0 R v (tkS R 20 isEd s) := by
  have C1 := hideL (token_any h)
  have C2 := hideL (fun W (kk : Kept (fun _ => False) w W) => pass_any (h.later kk) 20 (by decide) isEd rfl)
  have C3 := hideL (fun W => isEdits_any (tkA R s.at') W)
  have hb : isEd (tkA R s.at') = tkB R isEd s := rfl
  rw [hb] at C3
  generalize tkB R isEd s = B at *
  generalize tkS R 20 isEd s = s' at *
  generalize tkA R s.at' = Y at *
  obtain ⟨yk, yt, yn, ya, ye⟩ := Y
  unfold Tn.v at C1 C3
  dsimp only at C1 C3
  clear h hb
  go_enter Tryd.func34, Tryd.ntmps34
  go_wp2_with (first
    | (go_at_call 57; refine C1.out.mono ?_; clear C1; rintro e W1 ⟨rfl, k1⟩; have K1 := hideL k1; clear k1)
    | (go_at_call 61; refine (C3.out _).mono ?_; clear C3; rintro e W3 ⟨rfl, k3⟩; have K3 := hideL (K1.out.trans k3 (fun _ f => f.elim)); clear k3 K1)
    | (go_at_call 56; refine (C2.out _ K3.out).mono ?_; clear C2; rintro e W2 ⟨rfl, h2⟩; have H2 := hideL h2; clear h2))
  go_ret
  exact ⟨rfl, H2.out⟩
set_option maxRecDepth 20000 in
set_option maxHeartbeats 4000000 in
theorem takeSlop_anyS (h : Mc w0 w b rc a0 R v s) :
    Calls Tryd.prog 33 #[.pointer (some ⟨b, 0, none⟩)] w fun e w' => e = .returned (.bool (tkB R isSl s)) ∧ Mc w0 w' b rc a0 R v (tkS R 20 isSl s) := by
  have C1 := hideL (token_any h)
  have C2 := hideL (fun W (kk : Kept (fun _ => False) w W) => pass_any (h.later kk) 20 (by decide) isSl rfl)
  have C3 := hideL (fun W => isSlop_any (tkA R s.at') W)
  have hb : isSl (tkA R s.at') = tkB R isSl s := rfl
  rw [hb] at C3
  generalize tkB R isSl s = B at *
  generalize tkS R 20 isSl s = s' at *
  generalize tkA R s.at' = Y at *
  obtain ⟨yk, yt, yn, ya, ye⟩ := Y
  unfold Tn.v at C1 C3
  dsimp only at C1 C3
  clear h hb
  go_enter Tryd.func33, Tryd.ntmps33
  go_wp2_with (first
    | (go_at_call 57; refine C1.out.mono ?_; clear C1; rintro e W1 ⟨rfl, k1⟩; have K1 := hideL k1; clear k1)
    | (go_at_call 60; refine (C3.out _).mono ?_; clear C3; rintro e W3 ⟨rfl, k3⟩; have K3 := hideL (K1.out.trans k3 (fun _ f => f.elim)); clear k3 K1)
    | (go_at_call 56; refine (C2.out _ K3.out).mono ?_; clear C2; rintro e W2 ⟨rfl, h2⟩; have H2 := hideL h2; clear h2))
  go_ret
  exact ⟨rfl, H2.out⟩
end Go.Proofs.YtiemiphlfbaojaaDoor
namespace Go.Proofs.YtiemiphlfbaojaaDoor
open Go.ChangeShapes Go.WideShapes Go.ChangeAt Go.RowKit

/-! The document's rows of tokens, as a function: what a row has come to (at'), whether its clause is signed, for each open group whether its clause is. -/
structure Rs where
  at' : Nat
  sg : Bool
  op : List Bool
def atomF (y : Tn) (fld : Bool) : Option Nat :=
  if isK 1 y then some (if fld then 5 else 4)
  else if isK 2 y then some (if isSt y && !fld then 6 else 9)
  else if isK 3 y then some 7
  else if isK 8 y then some 0
  else if isK 10 y || isK 12 y then some 10
  else none
def begunF (r : Rs) (y : Tn) (fld : Bool) : Option Rs :=
  if isK 6 y && !fld then some ⟨1, r.sg, r.op⟩
  else (atomF y fld).map (fun a => if isK 8 y then ⟨a, false, r.op ++ [r.sg]⟩ else ⟨a, r.sg, r.op⟩)
def clauseF (r : Rs) (y : Tn) : Option Rs :=
  if isK 15 y || isK 16 y then some ⟨1, true, r.op⟩ else begunF ⟨r.at', false, r.op⟩ y false
def behindF (r : Rs) (y : Tn) : Option Rs :=
  if isK 18 y || isK 19 y then some ⟨9, r.sg, r.op⟩
  else if isK 4 y || isK 5 y || isK 17 y then (if r.sg then none else some ⟨1, r.sg, r.op⟩)
  else if isK 9 y then (if r.op.isEmpty then none else some ⟨8, r.op.getLastD false, r.op.dropLast⟩)
  else if isK 0 y then (if r.op.isEmpty then some ⟨14, r.sg, r.op⟩ else none)
  else clauseF r y
def sideB (y : Tn) : Bool := isK 1 y || isK 3 y || isSt y
def stepF (r : Rs) (y : Tn) : Option Rs := match r.at' with
  | 0 => clauseF r y
  | 1 => begunF r y false
  | 2 => begunF r y true
  | 3 => if isSt y then some ⟨9, r.sg, r.op⟩ else none
  | 4 => if isK 14 y then some ⟨2, r.sg, r.op⟩ else if isEd y then some ⟨9, r.sg, r.op⟩ else behindF r y
  | 5 => if isEd y then some ⟨9, r.sg, r.op⟩ else behindF r y
  | 6 => if isK 14 y then some ⟨3, r.sg, r.op⟩ else behindF r y
  | 7 => if isSl y then some ⟨9, r.sg, r.op⟩ else behindF r y
  | 8 => if isK 21 y then some ⟨9, r.sg, r.op⟩ else behindF r y
  | 9 => behindF r y
  | 10 => if sideB y then some ⟨11, r.sg, r.op⟩ else none
  | 11 => if isK 7 y then some ⟨12, r.sg, r.op⟩ else none
  | 12 => if sideB y then some ⟨13, r.sg, r.op⟩ else none
  | 13 => if isK 11 y || isK 13 y then some ⟨9, r.sg, r.op⟩ else none
  | _ => none
/-- Whether a token may come: by the state, by whether the clause is signed and a group is open. -/
def okB (a : Nat) (sg e : Bool) (y : Tn) : Bool :=
  let b := isK 6 y || (atomF y false).isSome
  let c := isK 15 y || isK 16 y || b
  let p := if isK 18 y || isK 19 y then true else if isK 4 y || isK 5 y || isK 17 y then !sg else if isK 9 y then !e else if isK 0 y then e else c
  match a with
  | 0 => c
  | 1 => b
  | 2 => (atomF y true).isSome
  | 3 => isSt y
  | 4 => isK 14 y || isEd y || p
  | 5 => isEd y || p
  | 6 => isK 14 y || p
  | 7 => isSl y || p
  | 8 => isK 21 y || p
  | 9 => p
  | 10 => sideB y
  | 11 => isK 7 y
  | 12 => sideB y
  | 13 => isK 11 y || isK 13 y
  | _ => false
theorem ok_begun (r : Rs) (y : Tn) : (begunF r y false).isSome = (isK 6 y || (atomF y false).isSome) := by
  unfold begunF
  cases isK 6 y
  · show ((atomF y false).map _).isSome = _
    rw [Option.isSome_map]; rfl
  · rfl
theorem ok_begunT (r : Rs) (y : Tn) : (begunF r y true).isSome = (atomF y true).isSome := by
  unfold begunF
  have e : (isK 6 y && !true) = false := by cases isK 6 y <;> rfl
  rw [e, if_neg (by decide), Option.isSome_map]
theorem ok_clause (r : Rs) (y : Tn) : (clauseF r y).isSome = (isK 15 y || isK 16 y || (isK 6 y || (atomF y false).isSome)) := by
  unfold clauseF
  cases h : (isK 15 y || isK 16 y)
  · rw [if_neg (by decide), ok_begun]; rfl
  · rfl
theorem ok_behind (r : Rs) (y : Tn) : (behindF r y).isSome = (if isK 18 y || isK 19 y then true else if isK 4 y || isK 5 y || isK 17 y then !r.sg else if isK 9 y then !r.op.isEmpty else if isK 0 y then r.op.isEmpty else (isK 15 y || isK 16 y || (isK 6 y || (atomF y false).isSome))) := by
  unfold behindF
  cases h1 : (isK 18 y || isK 19 y)
  · cases h2 : (isK 4 y || isK 5 y || isK 17 y)
    · cases h3 : isK 9 y
      · cases h4 : isK 0 y
        · simp only [Bool.false_eq_true, if_false]; exact ok_clause r y
        · cases r.op.isEmpty <;> rfl
      · cases r.op.isEmpty <;> rfl
    · cases r.sg <;> rfl
  · rfl
theorem ok_or {c : Bool} {x : Rs} {F : Option Rs} : (if c then some x else F).isSome = (c || F.isSome) := by cases c <;> rfl
theorem ok_step (r : Rs) (y : Tn) : (stepF r y).isSome = okB r.at' r.sg r.op.isEmpty y := by
  obtain ⟨a, sg, op⟩ := r
  unfold stepF okB
  split <;> dsimp only
  · exact ok_clause _ y
  · exact ok_begun _ y
  · exact ok_begunT _ y
  · cases isSt y <;> rfl
  · rw [ok_or, ok_or, ok_behind]
    exact (Bool.or_assoc _ _ _).symm
  · rw [ok_or, ok_behind]
  · rw [ok_or, ok_behind]
  · rw [ok_or, ok_behind]
  · rw [ok_or, ok_behind]
  · rw [ok_behind]
  · cases sideB y <;> rfl
  · cases isK 7 y <;> rfl
  · cases sideB y <;> rfl
  · cases (isK 11 y || isK 13 y) <;> rfl
  · rfl
/-- Tokens that stand for all of a kind. -/
def smT (k : Nat) : List Tn := if k = 2 then [⟨2, ⟨#[42]⟩, 0, 0, 0⟩, ⟨2, ⟨#[97, 42]⟩, 0, 0, 0⟩] else if k = 20 then [⟨20, ⟨#[]⟩, -1, 0, 0⟩, ⟨20, ⟨#[]⟩, 1, 0, 0⟩, ⟨20, ⟨#[]⟩, 3, 0, 0⟩] else [⟨(k : Int), ⟨#[]⟩, 0, 0, 0⟩]
def mayB (r : Rs) (k : Nat) : Bool := (smT k).any (fun t => (stepF r t).isSome)
/-- The kinds that the recogniser asks for in vain where a row ends. -/
def kB : List Nat := [8, 10, 12, 3, 1, 2]
def kU : List Nat := 6 :: 2 :: 1 :: kB
def kC : List Nat := 15 :: 16 :: kU
def kE (e : Bool) : List Nat := (if e then 0 else 9) :: kC
def kJ (sg e : Bool) : List Nat := if sg then kE e else 5 :: 4 :: 17 :: kE e
def kP (sg e : Bool) : List Nat := 18 :: 19 :: kJ sg e
def kL (a : Nat) (sg e : Bool) : List Nat := match a with
  | 0 => kC
  | 1 => kU
  | 2 => kB
  | 3 => [2]
  | 4 => 14 :: 20 :: kP sg e
  | 5 => 20 :: kP sg e
  | 6 => 14 :: kP sg e
  | 7 => 20 :: kP sg e
  | 8 => 21 :: kP sg e
  | 9 => kP sg e
  | 10 => [1, 3, 2]
  | 11 => [7]
  | 12 => [1, 3, 2]
  | 13 => [11, 13]
  | _ => []
def kS (r : Rs) : List Nat := kL r.at' r.sg r.op.isEmpty
theorem may_all : ∀ a, a < 15 → ∀ (sg e : Bool) (k : Nat), k < 22 → ((smT k).any (okB a sg e)) = (kL a sg e).contains k := by decide +kernel
theorem may_list (r : Rs) (hr : r.at' < 15) (k : Nat) (hk : k < 22) : mayB r k = (kS r).contains k := by
  unfold mayB kS
  rw [← may_all r.at' hr r.sg r.op.isEmpty k hk]
  have e : (fun t => (stepF r t).isSome) = okB r.at' r.sg r.op.isEmpty := by funext t; exact ok_step r t
  rw [e]
/-- A row gone over. -/
def r00 : Rs := ⟨0, false, []⟩
def rfR (L : List Tn) : Option Rs := L.foldl (fun o y => o.bind (fun r => stepF r y)) (some r00)
theorem rf_snoc (L : List Tn) (y : Tn) : rfR (L ++ [y]) = (rfR L).bind (fun r => stepF r y) := by unfold rfR; rw [List.foldl_append]; rfl
theorem rf_none (L M : List Tn) (h : rfR L = none) : rfR (L ++ M) = none := by
  induction M generalizing L with
  | nil => rw [List.append_nil]; exact h
  | cons y M ih =>
    rw [show L ++ y :: M = (L ++ [y]) ++ M by simp]
    exact ih _ (by rw [rf_snoc, h]; rfl)
theorem rf_take {R : List Tn} {i : Nat} (h : rfR (R.take i) = none) : rfR R = none := by
  have := rf_none (R.take i) (R.drop i) h
  rwa [List.take_append_drop] at this
theorem rf_next {R : List Tn} {i : Nat} {y : Tn} (h : R[i]? = some y) : rfR (R.take (i + 1)) = (rfR (R.take i)).bind (fun r => stepF r y) := by
  rw [← rf_snoc]
  congr 1
  rw [List.take_add_one, h]
  rfl
theorem step_lt (r r' : Rs) (y : Tn) (h : stepF r y = some r') : r'.at' < 15 := by
  have hb : ∀ (q : Rs) fld, begunF q y fld = some r' → r'.at' < 15 := by
    intro q fld hq
    unfold begunF at hq
    split at hq
    · cases hq; show 1 < 15; omega
    · obtain ⟨a, ha, hq⟩ := Option.map_eq_some_iff.1 hq
      have ha2 : a < 15 := by
        unfold atomF at ha
        repeat' split at ha
        all_goals first | (cases ha; omega) | (cases ha)
      split at hq <;> (cases hq; exact ha2)
  have hc : ∀ q : Rs, clauseF q y = some r' → r'.at' < 15 := by
    intro q hq
    unfold clauseF at hq
    split at hq
    · cases hq; show 1 < 15; omega
    · exact hb _ _ hq
  have hd : ∀ q : Rs, behindF q y = some r' → r'.at' < 15 := by
    intro q hq
    unfold behindF at hq
    split at hq
    · cases hq; show 9 < 15; omega
    · split at hq
      · split at hq
        · cases hq
        · cases hq; show 1 < 15; omega
      · split at hq
        · split at hq
          · cases hq
          · cases hq; show 8 < 15; omega
        · split at hq
          · split at hq
            · cases hq; show 14 < 15; omega
            · cases hq
          · exact hc _ hq
  unfold stepF at h
  repeat' split at h
  all_goals first | exact hb _ _ h | exact hc _ h | exact hd _ h | (cases h; done) | (cases h; simp)
end Go.Proofs.YtiemiphlfbaojaaDoor
