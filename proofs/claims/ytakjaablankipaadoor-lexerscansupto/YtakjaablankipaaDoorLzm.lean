import Derived.Test.YtakjaablankipaaDoorLzk
import Derived.Test.YtakjaablankipaaDoorMrg2
namespace Go.Proofs.YtakjaablankipaaDoor
open Go.ChangeShapes Go.WideShapes Go.ChangeAt Go.RowKit

/-! The document's 'one'. -/
theorem results_cellL {fn : Func} {p u : Tmp} {ty : TypeId} (h : fn.results = #[.cell p ty, .tmp u]) (tmps : Array Value) (P : Program) (w : World) (g : Nat) (cs : Array Value)
    (hp : tmps.getD p undef = .pointer (some ⟨g, 0, none⟩)) (hld : (loadVar ty ⟨g, 0, none⟩).run P w = .ok (.agg cs) w) :
    (results fn tmps).run P w = .ok (.tuple #[.agg cs, tmps.getD u undef]) w := by
  have hp' : tmps[p]?.getD undef = .pointer (some ⟨g, 0, none⟩) := by simpa using hp
  simp [results, h, hp', asAddr, hld, Result.andThen]
theorem load_lex {W : World} {g : Nat} {x0 x1 x2 x3 x4 : Value} (h : W.heap[g]? = some (.cells #[x0, x1, x2, x3, x4] 41 (0, 0))) : (loadVar 41 ⟨g, 0, none⟩).run Tryd.prog W = .ok (.agg #[x0, x1, x2, x3, x4]) W :=
  run_loadVar_row W g 41 41 #[x0, x1, x2, x3, x4] (0, 0) _ h Tryd.underlying41 rfl (by kernel_rfl)
theorem lex_put5 {W : World} {g : Nat} {x0 x1 x2 x3 x4 v0 v1 v2 v3 v4 : Value} {t : TypeId} (h : W.heap[g]? = some (.cells #[x0, x1, x2, x3, x4] t (0, 0))) : (((((W.setCell ⟨g, 0, none⟩ v0).setCell ⟨g, 1, none⟩ v1).setCell ⟨g, 2, none⟩ v2).setCell ⟨g, 3, none⟩ v3).setCell ⟨g, 4, none⟩ v4).heap[g]? = some (.cells #[v0, v1, v2, v3, v4] t (0, 0)) := by
  have h1 := heap_setCell_same W g 0 _ t v0 h
  have h2 := heap_setCell_same _ g 1 _ t v1 h1
  have h3 := heap_setCell_same _ g 2 _ t v2 h2
  have h4 := heap_setCell_same _ g 3 _ t v3 h3
  have h5 := heap_setCell_same _ g 4 _ t v4 h4
  simpa using h5
theorem kept_put5 {w W : World} {g : Nat} {v0 v1 v2 v3 v4 : Value} (h : Kept (fun _ => False) w W) (hg : w.heap.size ≤ g) : Kept (fun _ => False) w (((((W.setCell ⟨g, 0, none⟩ v0).setCell ⟨g, 1, none⟩ v1).setCell ⟨g, 2, none⟩ v2).setCell ⟨g, 3, none⟩ v3).setCell ⟨g, 4, none⟩ v4) :=
  ((((h.trans (Kept.setCell W ⟨g, 0, none⟩ v0) (fun i e => .inr (by simp only at e; omega))).trans (Kept.setCell _ ⟨g, 1, none⟩ v1) (fun i e => .inr (by simp only at e; omega))).trans (Kept.setCell _ ⟨g, 2, none⟩ v2) (fun i e => .inr (by simp only at e; omega))).trans (Kept.setCell _ ⟨g, 3, none⟩ v3) (fun i e => .inr (by simp only at e; omega))).trans (Kept.setCell _ ⟨g, 4, none⟩ v4) (fun i e => .inr (by simp only at e; omega))
theorem heap_putL {W : World} {g g' o : Nat} {v : Value} (hne : g ≠ g') {cs : Array Value} {t : TypeId} {fz : Nat × Nat} (h : W.heap[g]? = some (.cells cs t fz)) : (W.setCell ⟨g', o, none⟩ v).heap[g]? = some (.cells cs t fz) :=
  (Kept.setCell W ⟨g', o, none⟩ v).heap h (fun e => hne e)
theorem kept_putL {w W : World} {g o : Nat} {v : Value} (h : Kept (fun _ => False) w W) (hg : w.heap.size ≤ g) : Kept (fun _ => False) w (W.setCell ⟨g, o, none⟩ v) := h.trans (Kept.setCell W ⟨g, o, none⟩ v) (fun i e => .inr (by simp only at e; omega))
/-- The world of 'one' between its calls: its answer's row (still empty), its token's row, the signs. -/
structure OnW (w W : World) (b p : Nat) (G : List Sg) : Prop where
  k : Kept (fun _ => False) w W
  r : W.heap[w.heap.size]? = some (.cells #[.int .i64 0, .string ⟨#[]⟩, .int .i64 0, .int .i64 0, .int .i64 0] 41 (0, 0))
  t : W.heap[w.heap.size + 1]? = some (.cells #[.int .i64 (-1), .string ⟨#[]⟩, .int .i64 0, .int .i64 (p : Int), .int .i64 0] 41 (0, 0))
  g : SgB W b G
theorem OnW.later {w W W' : World} {b p : Nat} {G : List Sg} (h : OnW w W b p G) (k : Kept (fun _ => False) W W') : OnW w W' b p G := ⟨h.k.trans k (fun _ f => f.elim), k.heap h.r (fun f => f), k.heap h.t (fun f => f), h.g.later k⟩
theorem on_start {w : World} {b p : Nat} {G : List Sg} (h : SgB w b G) : OnW w ((w.alloc (.cells #[.int .i64 0, .string ⟨#[]⟩, .int .i64 0, .int .i64 0, .int .i64 0] 41)).alloc (.cells #[.int .i64 (-1), .string ⟨#[]⟩, .int .i64 0, .int .i64 (p : Int), .int .i64 0] 41)) b p G := by
  have k1 := Kept.alloc w (.cells #[.int .i64 0, .string ⟨#[]⟩, .int .i64 0, .int .i64 0, .int .i64 0] 41)
  have k2 := Kept.alloc (w.alloc (.cells #[.int .i64 0, .string ⟨#[]⟩, .int .i64 0, .int .i64 0, .int .i64 0] 41)) (.cells #[.int .i64 (-1), .string ⟨#[]⟩, .int .i64 0, .int .i64 (p : Int), .int .i64 0] 41)
  refine ⟨k1.trans k2 (fun _ f => f.elim), k2.heap (heap_alloc_new w _) (fun f => f), ?_, (h.later k1).later k2⟩
  have := heap_alloc_new (w.alloc (.cells #[.int .i64 0, .string ⟨#[]⟩, .int .i64 0, .int .i64 0, .int .i64 0] 41)) (.cells #[.int .i64 (-1), .string ⟨#[]⟩, .int .i64 0, .int .i64 (p : Int), .int .i64 0] 41)
  simpa using this
theorem row_cells5 {W : World} {g : Nat} {x0 x1 x2 x3 x4 : Value} {t : TypeId} (z : W.heap[g]? = some (.cells #[x0, x1, x2, x3, x4] t (0, 0))) : W.cell? ⟨g, 0, none⟩ = some x0 ∧ W.cell? ⟨g, 1, none⟩ = some x1 ∧ W.cell? ⟨g, 2, none⟩ = some x2 ∧ W.cell? ⟨g, 3, none⟩ = some x3 ∧ W.cell? ⟨g, 4, none⟩ = some x4 ∧ (∀ i, W.frozen? ⟨g, i, none⟩ = false) := by
  refine ⟨?_, ?_, ?_, ?_, ?_, fun i => ?_⟩ <;> simp [World.cell?, World.frozen?, z]
/-- What 'one' answers. -/
def onPost (w : World) (l : List UInt8) (G : List Sg) (p : Nat) (x : Ending) (w' : World) : Prop :=
  ((tokF (l.drop p) = none ∧ ∃ z : Int, x = .returned (.tuple #[.agg #[.int .i64 (-1), .string ⟨#[]⟩, .int .i64 0, .int .i64 (p : Int), .int .i64 0], .int .i64 z])) ∨ (∃ (t : Tk) (j : Nat), tokF (l.drop p) = some t ∧ SP l G j (p + t.z) ∧ x = .returned (.tuple #[.agg #[.int .i64 ((t.k : Nat) : Int), .string (bq t.t), .int .i64 t.n, .int .i64 (p : Int), .int .i64 0], .int .i64 (j : Int)]))) ∧ Kept (fun _ => False) w w'
theorem tok_runB {l : List UInt8} {c : UInt8} {r : List UInt8} (h : l = c :: r) (hb : isB c = true) : tokF l = (rnL l).map (fun m => ⟨kdF (l.take m), txF (l.take m), 0, m⟩) := by
  subst h
  rw [tokF, if_pos hb]
/-- The two ends of 'one': a fault, a token. -/
def onR (l : List UInt8) (G : List Sg) (p : Nat) (Z : Option Tk) (kk : Int) (tt : ByteArray) (nn zz : Int) : Prop := (Z = none ∧ kk = -1 ∧ tt = ⟨#[]⟩ ∧ nn = 0) ∨ (∃ (t : Tk) (j : Nat), Z = some t ∧ SP l G j (p + t.z) ∧ kk = ((t.k : Nat) : Int) ∧ tt = bq t.t ∧ nn = t.n ∧ zz = (j : Int))
theorem ru_on {w W : World} {l : List UInt8} {G : List Sg} {b p : Nat} {x : Ending} {W' : World} (hO : OnW w W b p G) (ht : tokF (l.drop p) = (rnL (l.drop p)).map (fun m => ⟨kdF ((l.drop p).take m), txF ((l.drop p).take m), 0, m⟩)) (h : ruPost W l G p x W') : ∃ (kk : Int) (tt : ByteArray) (zz : Int), x = .returned (.tuple #[.int .i64 kk, .string tt, .int .i64 zz]) ∧ Hid (onR l G p (tokF (l.drop p)) kk tt 0 zz) ∧ OnW w W' b p G := by
  rcases h.1 with ⟨h1, z, rfl⟩ | ⟨m, j, h1, h2, rfl⟩
  · exact ⟨_, _, _, rfl, .inl ⟨by rw [ht, h1]; rfl, rfl, rfl, rfl⟩, hO.later h.2⟩
  · exact ⟨_, _, _, rfl, .inr ⟨_, j, by rw [ht, h1]; rfl, h2, rfl, rfl, rfl, rfl⟩, hO.later h.2⟩
theorem nb_on {w W : World} {l : List UInt8} {G : List Sg} {b p : Nat} {x : Ending} {W' : World} (hO : OnW w W b p G) (h : nbPost W l G p x W') : ∃ (kk nn zz : Int), x = .returned (.tuple #[.int .i64 kk, .int .i64 nn, .int .i64 zz]) ∧ Hid (onR l G p (tokF (l.drop p)) kk ⟨#[]⟩ nn zz) ∧ OnW w W' b p G := by
  obtain ⟨h1, rfl⟩ := h
  rcases h1 with ⟨h1, z, rfl⟩ | ⟨t, j, h1, h2, rfl, h3⟩
  · exact ⟨_, _, _, rfl, .inl ⟨h1, rfl, rfl, rfl⟩, hO⟩
  · exact ⟨_, _, _, rfl, .inr ⟨t, j, h1, h3, rfl, by rw [h2]; rfl, rfl, rfl⟩, hO⟩
set_option maxRecDepth 20000 in
set_option maxHeartbeats 4000000 in
theorem one_letter (l : List UInt8) (G : List Sg) (b n cp i p : Nat) (w : World) (hn : n = G.length) (hnb : n ≤ 400000000000) (hG : SgB w b G) (hS : SP l G i p) (hcp : n ≤ cp) (d : UInt8) (r : List UInt8) (hd : l.drop p = 92 :: d :: r) (hx : G[i]? = some ⟨d, true, p, 2⟩) :
    Calls Tryd.prog 18 #[.slice (some ⟨b, 0, none⟩) n cp, .int .i64 (i : Int)] w (onPost w l G p) := by
  have ht := tok_runB hd isB_92
  have hin : i < n := by have := (List.getElem?_eq_some_iff.1 hx).1; omega
  have hiz : (i : Int) < (n : Int) := by omega
  have H0 := hideL (on_start (p := p) hG)
  obtain ⟨-, -, x2, -⟩ := (hG.later (Kept.alloc w (.cells #[.int .i64 0, .string ⟨#[]⟩, .int .i64 0, .int .i64 0, .int .i64 0] 41))).l i _ hx
  obtain ⟨x0, x1, -, -⟩ := H0.out.g.l i _ hx
  rw [Nat.zero_add] at x0 x1 x2
  dsimp only at x0 x1 x2
  have HX := hideL hx
  have CR : Hid (∀ W, OnW w W b p G → Calls Tryd.prog 33 #[.slice (some ⟨b, 0, none⟩) n cp, .int .i64 (i : Int)] W fun x W' => ∃ (kk : Int) (tt : ByteArray) (zz : Int), x = .returned (.tuple #[.int .i64 kk, .string tt, .int .i64 zz]) ∧ Hid (onR l G p (tokF (l.drop p)) kk tt 0 zz) ∧ OnW w W' b p G) := hideL (fun W hW => (run13_any l G b n cp i p W hn hnb hW.g hS hin hcp).mono (fun _ _ q => ru_on hW ht q))
  have HYE : Hid (∀ (w' : World) (kk : Int) (tt : ByteArray) (nn zz : Int), onR l G p (tokF (l.drop p)) kk tt nn zz → Kept (fun _ => False) w w' → onPost w l G p (.returned (.tuple #[.agg #[.int .i64 kk, .string tt, .int .i64 nn, .int .i64 (p : Int), .int .i64 0], .int .i64 zz])) w') := hideL (fun w' kk tt nn zz h k => by
    refine ⟨?_, k⟩
    rcases h with ⟨h1, rfl, rfl, rfl⟩ | ⟨t, j, h1, h2, rfl, rfl, rfl, rfl⟩
    · exact .inl ⟨h1, zz, rfl⟩
    · exact .inr ⟨t, j, h1, h2, rfl⟩)
  generalize onPost w l G p = Q at *
  generalize onR l G p (tokF (l.drop p)) = ZR at *
  clear hG hS hn ht hd hx
  go_enter Tryd.func18, Tryd.ntmps18
  go_wp2_with (first
    | (go_at_call 33; refine (CR.out _ H0.out).mono ?_; clear CR; rintro e W2 ⟨kk, tt, zz, rfl, HR, h2⟩; have H2 := hideL h2; clear h2 H0; obtain ⟨v0, v1, v2, v3, v4, vf⟩ := row_cells5 H2.out.t; obtain ⟨z0, z1, z2, z3, z4, zf⟩ := row_cells5 H2.out.r; have vf0 := vf 0; have vf1 := vf 1; have vf2 := vf 2; have zf0 := zf 0; have zf1 := zf 1; have zf2 := zf 2; have zf3 := zf 3; have zf4 := zf 4; clear vf zf))
  refine bodyPost_ret (results_cellL rfl _ _ _ w.heap.size _ rfl (load_lex (lex_put5 (heap_putL (by omega) (heap_putL (by omega) H2.out.r))))) rfl ?_
  exact HYE.out _ _ _ _ _ HR.out (kept_put5 (kept_putL (kept_putL H2.out.k (by omega)) (by omega)) (Nat.le_refl _))
set_option maxRecDepth 20000 in
set_option maxHeartbeats 4000000 in
theorem one_run (l : List UInt8) (G : List Sg) (b n cp i p : Nat) (w : World) (hn : n = G.length) (hnb : n ≤ 400000000000) (hG : SgB w b G) (hS : SP l G i p) (hcp : n ≤ cp) (c : UInt8) (r : List UInt8) (hd : l.drop p = c :: r) (hx : G[i]? = some ⟨c, false, p, 1⟩) (hB : isB c = true) (hsk : sgK c = -1) (h94 : c ≠ 94) (h64 : c ≠ 64) (h126 : c ≠ 126) (h34 : c ≠ 34) :
    Calls Tryd.prog 18 #[.slice (some ⟨b, 0, none⟩) n cp, .int .i64 (i : Int)] w (onPost w l G p) := by
  have ht := tok_runB hd hB
  have hin : i < n := by have := (List.getElem?_eq_some_iff.1 hx).1; omega
  have hiz : (i : Int) < (n : Int) := by omega
  have H0 := hideL (on_start (p := p) hG)
  obtain ⟨-, -, x2, -⟩ := (hG.later (Kept.alloc w (.cells #[.int .i64 0, .string ⟨#[]⟩, .int .i64 0, .int .i64 0, .int .i64 0] 41))).l i _ hx
  obtain ⟨x0, x1, -, -⟩ := H0.out.g.l i _ hx
  rw [Nat.zero_add] at x0 x1 x2
  dsimp only at x0 x1 x2
  have HX := hideL hx
  have CS : Hid (∀ W, OnW w W b p G → Calls Tryd.prog 30 #[.int .u8 (c.toNat : Int)] W fun e w' => e = .returned (.int .i64 (-1)) ∧ OnW w w' b p G) := hideL (fun W hW => (single13_any c W).mono (fun _ _ q => ⟨by rw [q.1, hsk], by rw [q.2]; exact hW⟩))
  have CR : Hid (∀ W, OnW w W b p G → Calls Tryd.prog 33 #[.slice (some ⟨b, 0, none⟩) n cp, .int .i64 (i : Int)] W fun x W' => ∃ (kk : Int) (tt : ByteArray) (zz : Int), x = .returned (.tuple #[.int .i64 kk, .string tt, .int .i64 zz]) ∧ Hid (onR l G p (tokF (l.drop p)) kk tt 0 zz) ∧ OnW w W' b p G) := hideL (fun W hW => (run13_any l G b n cp i p W hn hnb hW.g hS hin hcp).mono (fun _ _ q => ru_on hW ht q))
  have HYE : Hid (∀ (w' : World) (kk : Int) (tt : ByteArray) (nn zz : Int), onR l G p (tokF (l.drop p)) kk tt nn zz → Kept (fun _ => False) w w' → onPost w l G p (.returned (.tuple #[.agg #[.int .i64 kk, .string tt, .int .i64 nn, .int .i64 (p : Int), .int .i64 0], .int .i64 zz])) w') := hideL (fun w' kk tt nn zz h k => by
    refine ⟨?_, k⟩
    rcases h with ⟨h1, rfl, rfl, rfl⟩ | ⟨t, j, h1, h2, rfl, rfl, rfl, rfl⟩
    · exact .inl ⟨h1, zz, rfl⟩
    · exact .inr ⟨t, j, h1, h2, rfl⟩)
  generalize onPost w l G p = Q at *
  generalize onR l G p (tokF (l.drop p)) = ZR at *
  have q94 : ((c.toNat : Int) == 94) = false := u8_intL c 94 h94
  have q64 : ((c.toNat : Int) == 64) = false := u8_intL c 64 h64
  have q126 : ((c.toNat : Int) == 126) = false := u8_intL c 126 h126
  have q34 : ((c.toNat : Int) == 34) = false := u8_intL c 34 h34
  have hcb : c.toNat < 256 := c.toNat_lt
  generalize hq : c.toNat = m at x0 CS q94 q64 q126 q34 hcb
  have HQ : Hid (c.toNat = m) := hideL hq
  clear hG hS hn ht hd hB hx hsk h94 h64 h126 h34 hq
  go_enter Tryd.func18, Tryd.ntmps18
  go_wp2_with (first
    | (go_at_call 30; refine (CS.out _ H0.out).mono ?_; clear CS; rintro e W1 ⟨rfl, h1⟩; have H1 := hideL h1; clear h1 H0; obtain ⟨y0, y1, y2, y3, y4, yf⟩ := row_cells5 H1.out.t; obtain ⟨z0, z1, z2, z3, z4, zf⟩ := row_cells5 H1.out.r; obtain ⟨x0', x1', x2', -⟩ := H1.out.g.l i _ HX.out; rw [Nat.zero_add] at x0' x1' x2'; dsimp only at x0' x1' x2'; rw [HQ.out] at x0'; clear yf zf)
    | (go_at_call 33; refine (CR.out _ H1.out).mono ?_; clear CR; rintro e W2 ⟨kk, tt, zz, rfl, HR, h2⟩; have H2 := hideL h2; clear h2 H1; obtain ⟨v0, v1, v2, v3, v4, vf⟩ := row_cells5 H2.out.t; obtain ⟨z0, z1, z2, z3, z4, zf⟩ := row_cells5 H2.out.r; have vf0 := vf 0; have vf1 := vf 1; have vf2 := vf 2; have zf0 := zf 0; have zf1 := zf 1; have zf2 := zf 2; have zf3 := zf 3; have zf4 := zf 4; clear vf zf))
  refine bodyPost_ret (results_cellL rfl _ _ _ w.heap.size _ rfl (load_lex (lex_put5 (heap_putL (by omega) (heap_putL (by omega) H2.out.r))))) rfl ?_
  exact HYE.out _ _ _ _ _ HR.out (kept_put5 (kept_putL (kept_putL H2.out.k (by omega)) (by omega)) (Nat.le_refl _))
set_option maxRecDepth 20000 in
set_option maxHeartbeats 4000000 in
theorem one_single (l : List UInt8) (G : List Sg) (b n cp i p : Nat) (w : World) (hn : n = G.length) (hnb : n ≤ 400000000000) (hG : SgB w b G) (hS : SP l G i p) (_hcp : n ≤ cp) (c : UInt8) (r : List UInt8) (k : Nat) (hd : l.drop p = c :: r) (hx : G[i]? = some ⟨c, false, p, 1⟩) (hk : sgK c = (k : Int)) (ht : tokF (l.drop p) = some ⟨k, [], 0, 1⟩) (h92 : c ≠ 92) :
    Calls Tryd.prog 18 #[.slice (some ⟨b, 0, none⟩) n cp, .int .i64 (i : Int)] w (onPost w l G p) := by
  have hS1 := (sp_plain hS c r hd h92).2
  have hin : i < n := by have := (List.getElem?_eq_some_iff.1 hx).1; omega
  have hiz : (i : Int) < (n : Int) := by omega
  have H0 := hideL (on_start (p := p) hG)
  obtain ⟨-, -, x2, -⟩ := (hG.later (Kept.alloc w (.cells #[.int .i64 0, .string ⟨#[]⟩, .int .i64 0, .int .i64 0, .int .i64 0] 41))).l i _ hx
  obtain ⟨x0, x1, -, -⟩ := H0.out.g.l i _ hx
  rw [Nat.zero_add] at x0 x1 x2
  dsimp only at x0 x1 x2
  have HX := hideL hx
  have CS : Hid (∀ W, OnW w W b p G → Calls Tryd.prog 30 #[.int .u8 (c.toNat : Int)] W fun e w' => e = .returned (.int .i64 (k : Int)) ∧ OnW w w' b p G) := hideL (fun W hW => (single13_any c W).mono (fun _ _ q => ⟨by rw [q.1, hk], by rw [q.2]; exact hW⟩))
  have HR : Hid (onR l G p (tokF (l.drop p)) (k : Int) ⟨#[]⟩ 0 ((i : Int) + 1)) := hideL (.inr ⟨_, i + 1, ht, hS1, rfl, rfl, rfl, by omega⟩)
  have HYE : Hid (∀ (w' : World) (kk : Int) (tt : ByteArray) (nn zz : Int), onR l G p (tokF (l.drop p)) kk tt nn zz → Kept (fun _ => False) w w' → onPost w l G p (.returned (.tuple #[.agg #[.int .i64 kk, .string tt, .int .i64 nn, .int .i64 (p : Int), .int .i64 0], .int .i64 zz])) w') := hideL (fun w' kk tt nn zz h k => by
    refine ⟨?_, k⟩
    rcases h with ⟨h1, rfl, rfl, rfl⟩ | ⟨t, j, h1, h2, rfl, rfl, rfl, rfl⟩
    · exact .inl ⟨h1, zz, rfl⟩
    · exact .inr ⟨t, j, h1, h2, rfl⟩)
  generalize onPost w l G p = Q at *
  generalize onR l G p (tokF (l.drop p)) = ZR at *
  have hk0 : (0 : Int) ≤ (k : Int) := by omega
  have hcb : c.toNat < 256 := c.toNat_lt
  generalize hq : c.toNat = m at x0 CS hcb
  have HQ : Hid (c.toNat = m) := hideL hq
  clear hG hS hn ht hd hx hk hS1 hq h92
  go_enter Tryd.func18, Tryd.ntmps18
  go_wp2_with (first
    | (go_at_call 30; refine (CS.out _ H0.out).mono ?_; rintro e W1 ⟨rfl, h1⟩; have H1 := hideL h1; clear h1 H0; obtain ⟨y0, y1, y2, y3, y4, yf⟩ := row_cells5 H1.out.t; obtain ⟨x0', x1', x2', -⟩ := H1.out.g.l i _ HX.out; rw [Nat.zero_add] at x0' x1' x2'; dsimp only at x0' x1' x2'; rw [HQ.out] at x0'; clear yf)
    | (go_at_call 30; refine (CS.out _ H1.out).mono ?_; clear CS; rintro e W2 ⟨rfl, h2⟩; have H2 := hideL h2; clear h2 H1; obtain ⟨v0, v1, v2, v3, v4, vf⟩ := row_cells5 H2.out.t; obtain ⟨z0, z1, z2, z3, z4, zf⟩ := row_cells5 H2.out.r; have vf0 := vf 0; have vf1 := vf 1; have vf2 := vf 2; have zf0 := zf 0; have zf1 := zf 1; have zf2 := zf 2; have zf3 := zf 3; have zf4 := zf 4; clear vf zf))
  refine bodyPost_ret (results_cellL rfl _ _ _ w.heap.size _ rfl (load_lex (lex_put5 (heap_putL (by omega) H2.out.r)))) rfl ?_
  exact HYE.out _ _ _ _ _ HR.out (kept_put5 (kept_putL H2.out.k (by omega)) (Nat.le_refl _))
set_option maxRecDepth 20000 in
set_option maxHeartbeats 4000000 in
theorem one_94 (l : List UInt8) (G : List Sg) (b n cp i p : Nat) (w : World) (hn : n = G.length) (hnb : n ≤ 400000000000) (hG : SgB w b G) (hS : SP l G i p) (_hcp : n ≤ cp) (r : List UInt8) (hd : l.drop p = 94 :: r) (hx : G[i]? = some ⟨94, false, p, 1⟩) :
    Calls Tryd.prog 18 #[.slice (some ⟨b, 0, none⟩) n cp, .int .i64 (i : Int)] w (onPost w l G p) := by
  have hin : i < n := by have := (List.getElem?_eq_some_iff.1 hx).1; omega
  have hiz : (i : Int) < (n : Int) := by omega
  have H0 := hideL (on_start (p := p) hG)
  obtain ⟨-, -, x2, -⟩ := (hG.later (Kept.alloc w (.cells #[.int .i64 0, .string ⟨#[]⟩, .int .i64 0, .int .i64 0, .int .i64 0] 41))).l i _ hx
  obtain ⟨x0, x1, -, -⟩ := H0.out.g.l i _ hx
  rw [Nat.zero_add] at x0 x1 x2
  dsimp only at x0 x1 x2
  have HX := hideL hx
  have x0 : (((w.alloc (.cells #[.int .i64 0, .string ⟨#[]⟩, .int .i64 0, .int .i64 0, .int .i64 0] 41)).alloc (.cells #[.int .i64 (-1), .string ⟨#[]⟩, .int .i64 0, .int .i64 (p : Int), .int .i64 0] 41))).cell? ⟨b, i * 4, none⟩ = some (.int .u8 94) := x0
  have CS : Hid (∀ W, OnW w W b p G → Calls Tryd.prog 30 #[.int .u8 94] W fun e w' => e = .returned (.int .i64 (-1)) ∧ OnW w w' b p G) := hideL (fun W hW => (single13_any 94 W).mono (fun _ _ q => ⟨by rw [q.1]; rfl, by rw [q.2]; exact hW⟩))
  have CR : Hid (∀ W, OnW w W b p G → Calls Tryd.prog 31 #[.slice (some ⟨b, 0, none⟩) n cp, .int .i64 (i : Int)] W fun x W' => ∃ (kk nn zz : Int), x = .returned (.tuple #[.int .i64 kk, .int .i64 nn, .int .i64 zz]) ∧ Hid (onR l G p (tokF (l.drop p)) kk ⟨#[]⟩ nn zz) ∧ OnW w W' b p G) := hideL (fun W hW => (numbered_hat l G b n cp i p W hn hnb hW.g.l hS r hd).mono (fun _ _ q => nb_on hW q))
  have HYE : Hid (∀ (w' : World) (kk : Int) (tt : ByteArray) (nn zz : Int), onR l G p (tokF (l.drop p)) kk tt nn zz → Kept (fun _ => False) w w' → onPost w l G p (.returned (.tuple #[.agg #[.int .i64 kk, .string tt, .int .i64 nn, .int .i64 (p : Int), .int .i64 0], .int .i64 zz])) w') := hideL (fun w' kk tt nn zz h k => by
    refine ⟨?_, k⟩
    rcases h with ⟨h1, rfl, rfl, rfl⟩ | ⟨t, j, h1, h2, rfl, rfl, rfl, rfl⟩
    · exact .inl ⟨h1, zz, rfl⟩
    · exact .inr ⟨t, j, h1, h2, rfl⟩)
  generalize onPost w l G p = Q at *
  generalize onR l G p (tokF (l.drop p)) = ZR at *
  have HQ : Hid (((94 : UInt8).toNat : Int) = 94) := hideL rfl
  clear hG hS hn hd hx
  go_enter Tryd.func18, Tryd.ntmps18
  go_wp2_with (first
    | (go_at_call 30; refine (CS.out _ H0.out).mono ?_; clear CS; rintro e W1 ⟨rfl, h1⟩; have H1 := hideL h1; clear h1 H0; obtain ⟨y0, y1, y2, y3, y4, yf⟩ := row_cells5 H1.out.t; obtain ⟨x0', x1', x2', -⟩ := H1.out.g.l i _ HX.out; rw [Nat.zero_add] at x0' x1' x2'; dsimp only at x0' x1' x2'; rw [HQ.out] at x0'; clear yf)
    | (go_at_call 31; refine (CR.out _ H1.out).mono ?_; clear CR; rintro e W2 ⟨kk, nn, zz, rfl, HR, h2⟩; have H2 := hideL h2; clear h2 H1; obtain ⟨v0, v1, v2, v3, v4, vf⟩ := row_cells5 H2.out.t; obtain ⟨z0, z1, z2, z3, z4, zf⟩ := row_cells5 H2.out.r; have vf0 := vf 0; have vf1 := vf 1; have vf2 := vf 2; have zf0 := zf 0; have zf1 := zf 1; have zf2 := zf 2; have zf3 := zf 3; have zf4 := zf 4; clear vf zf))
  refine bodyPost_ret (results_cellL rfl _ _ _ w.heap.size _ rfl (load_lex (lex_put5 (heap_putL (by omega) (heap_putL (by omega) H2.out.r))))) rfl ?_
  exact HYE.out _ _ _ _ _ HR.out (kept_put5 (kept_putL (kept_putL H2.out.k (by omega)) (by omega)) (Nat.le_refl _))
set_option maxRecDepth 20000 in
set_option maxHeartbeats 4000000 in
theorem one_64 (l : List UInt8) (G : List Sg) (b n cp i p : Nat) (w : World) (hn : n = G.length) (hnb : n ≤ 400000000000) (hG : SgB w b G) (hS : SP l G i p) (_hcp : n ≤ cp) (r : List UInt8) (hd : l.drop p = 64 :: r) (hx : G[i]? = some ⟨64, false, p, 1⟩) :
    Calls Tryd.prog 18 #[.slice (some ⟨b, 0, none⟩) n cp, .int .i64 (i : Int)] w (onPost w l G p) := by
  have hin : i < n := by have := (List.getElem?_eq_some_iff.1 hx).1; omega
  have hiz : (i : Int) < (n : Int) := by omega
  have H0 := hideL (on_start (p := p) hG)
  obtain ⟨-, -, x2, -⟩ := (hG.later (Kept.alloc w (.cells #[.int .i64 0, .string ⟨#[]⟩, .int .i64 0, .int .i64 0, .int .i64 0] 41))).l i _ hx
  obtain ⟨x0, x1, -, -⟩ := H0.out.g.l i _ hx
  rw [Nat.zero_add] at x0 x1 x2
  dsimp only at x0 x1 x2
  have HX := hideL hx
  have x0 : (((w.alloc (.cells #[.int .i64 0, .string ⟨#[]⟩, .int .i64 0, .int .i64 0, .int .i64 0] 41)).alloc (.cells #[.int .i64 (-1), .string ⟨#[]⟩, .int .i64 0, .int .i64 (p : Int), .int .i64 0] 41))).cell? ⟨b, i * 4, none⟩ = some (.int .u8 64) := x0
  have CS : Hid (∀ W, OnW w W b p G → Calls Tryd.prog 30 #[.int .u8 64] W fun e w' => e = .returned (.int .i64 (-1)) ∧ OnW w w' b p G) := hideL (fun W hW => (single13_any 64 W).mono (fun _ _ q => ⟨by rw [q.1]; rfl, by rw [q.2]; exact hW⟩))
  have CR : Hid (∀ W, OnW w W b p G → Calls Tryd.prog 31 #[.slice (some ⟨b, 0, none⟩) n cp, .int .i64 (i : Int)] W fun x W' => ∃ (kk nn zz : Int), x = .returned (.tuple #[.int .i64 kk, .int .i64 nn, .int .i64 zz]) ∧ Hid (onR l G p (tokF (l.drop p)) kk ⟨#[]⟩ nn zz) ∧ OnW w W' b p G) := hideL (fun W hW => (numbered_at l G b n cp i p W hn hnb hW.g.l hS r hd).mono (fun _ _ q => nb_on hW q))
  have HYE : Hid (∀ (w' : World) (kk : Int) (tt : ByteArray) (nn zz : Int), onR l G p (tokF (l.drop p)) kk tt nn zz → Kept (fun _ => False) w w' → onPost w l G p (.returned (.tuple #[.agg #[.int .i64 kk, .string tt, .int .i64 nn, .int .i64 (p : Int), .int .i64 0], .int .i64 zz])) w') := hideL (fun w' kk tt nn zz h k => by
    refine ⟨?_, k⟩
    rcases h with ⟨h1, rfl, rfl, rfl⟩ | ⟨t, j, h1, h2, rfl, rfl, rfl, rfl⟩
    · exact .inl ⟨h1, zz, rfl⟩
    · exact .inr ⟨t, j, h1, h2, rfl⟩)
  generalize onPost w l G p = Q at *
  generalize onR l G p (tokF (l.drop p)) = ZR at *
  have HQ : Hid (((64 : UInt8).toNat : Int) = 64) := hideL rfl
  clear hG hS hn hd hx
  go_enter Tryd.func18, Tryd.ntmps18
  go_wp2_with (first
    | (go_at_call 30; refine (CS.out _ H0.out).mono ?_; clear CS; rintro e W1 ⟨rfl, h1⟩; have H1 := hideL h1; clear h1 H0; obtain ⟨y0, y1, y2, y3, y4, yf⟩ := row_cells5 H1.out.t; obtain ⟨x0', x1', x2', -⟩ := H1.out.g.l i _ HX.out; rw [Nat.zero_add] at x0' x1' x2'; dsimp only at x0' x1' x2'; rw [HQ.out] at x0'; clear yf)
    | (go_at_call 31; refine (CR.out _ H1.out).mono ?_; clear CR; rintro e W2 ⟨kk, nn, zz, rfl, HR, h2⟩; have H2 := hideL h2; clear h2 H1; obtain ⟨v0, v1, v2, v3, v4, vf⟩ := row_cells5 H2.out.t; obtain ⟨z0, z1, z2, z3, z4, zf⟩ := row_cells5 H2.out.r; have vf0 := vf 0; have vf1 := vf 1; have vf2 := vf 2; have zf0 := zf 0; have zf1 := zf 1; have zf2 := zf 2; have zf3 := zf 3; have zf4 := zf 4; clear vf zf))
  refine bodyPost_ret (results_cellL rfl _ _ _ w.heap.size _ rfl (load_lex (lex_put5 (heap_putL (by omega) (heap_putL (by omega) H2.out.r))))) rfl ?_
  exact HYE.out _ _ _ _ _ HR.out (kept_put5 (kept_putL (kept_putL H2.out.k (by omega)) (by omega)) (Nat.le_refl _))
set_option maxRecDepth 20000 in
set_option maxHeartbeats 4000000 in
theorem one_126 (l : List UInt8) (G : List Sg) (b n cp i p : Nat) (w : World) (hn : n = G.length) (hnb : n ≤ 400000000000) (hG : SgB w b G) (hS : SP l G i p) (_hcp : n ≤ cp) (r : List UInt8) (hd : l.drop p = 126 :: r) (hx : G[i]? = some ⟨126, false, p, 1⟩) :
    Calls Tryd.prog 18 #[.slice (some ⟨b, 0, none⟩) n cp, .int .i64 (i : Int)] w (onPost w l G p) := by
  have hin : i < n := by have := (List.getElem?_eq_some_iff.1 hx).1; omega
  have hiz : (i : Int) < (n : Int) := by omega
  have H0 := hideL (on_start (p := p) hG)
  obtain ⟨-, -, x2, -⟩ := (hG.later (Kept.alloc w (.cells #[.int .i64 0, .string ⟨#[]⟩, .int .i64 0, .int .i64 0, .int .i64 0] 41))).l i _ hx
  obtain ⟨x0, x1, -, -⟩ := H0.out.g.l i _ hx
  rw [Nat.zero_add] at x0 x1 x2
  dsimp only at x0 x1 x2
  have HX := hideL hx
  have x0 : (((w.alloc (.cells #[.int .i64 0, .string ⟨#[]⟩, .int .i64 0, .int .i64 0, .int .i64 0] 41)).alloc (.cells #[.int .i64 (-1), .string ⟨#[]⟩, .int .i64 0, .int .i64 (p : Int), .int .i64 0] 41))).cell? ⟨b, i * 4, none⟩ = some (.int .u8 126) := x0
  have CS : Hid (∀ W, OnW w W b p G → Calls Tryd.prog 30 #[.int .u8 126] W fun e w' => e = .returned (.int .i64 (-1)) ∧ OnW w w' b p G) := hideL (fun W hW => (single13_any 126 W).mono (fun _ _ q => ⟨by rw [q.1]; rfl, by rw [q.2]; exact hW⟩))
  have CR : Hid (∀ W, OnW w W b p G → Calls Tryd.prog 31 #[.slice (some ⟨b, 0, none⟩) n cp, .int .i64 (i : Int)] W fun x W' => ∃ (kk nn zz : Int), x = .returned (.tuple #[.int .i64 kk, .int .i64 nn, .int .i64 zz]) ∧ Hid (onR l G p (tokF (l.drop p)) kk ⟨#[]⟩ nn zz) ∧ OnW w W' b p G) := hideL (fun W hW => (numbered_tilde l G b n cp i p W hn hnb hW.g.l hS r hd).mono (fun _ _ q => nb_on hW q))
  have HYE : Hid (∀ (w' : World) (kk : Int) (tt : ByteArray) (nn zz : Int), onR l G p (tokF (l.drop p)) kk tt nn zz → Kept (fun _ => False) w w' → onPost w l G p (.returned (.tuple #[.agg #[.int .i64 kk, .string tt, .int .i64 nn, .int .i64 (p : Int), .int .i64 0], .int .i64 zz])) w') := hideL (fun w' kk tt nn zz h k => by
    refine ⟨?_, k⟩
    rcases h with ⟨h1, rfl, rfl, rfl⟩ | ⟨t, j, h1, h2, rfl, rfl, rfl, rfl⟩
    · exact .inl ⟨h1, zz, rfl⟩
    · exact .inr ⟨t, j, h1, h2, rfl⟩)
  generalize onPost w l G p = Q at *
  generalize onR l G p (tokF (l.drop p)) = ZR at *
  have HQ : Hid (((126 : UInt8).toNat : Int) = 126) := hideL rfl
  clear hG hS hn hd hx
  go_enter Tryd.func18, Tryd.ntmps18
  go_wp2_with (first
    | (go_at_call 30; refine (CS.out _ H0.out).mono ?_; clear CS; rintro e W1 ⟨rfl, h1⟩; have H1 := hideL h1; clear h1 H0; obtain ⟨y0, y1, y2, y3, y4, yf⟩ := row_cells5 H1.out.t; obtain ⟨x0', x1', x2', -⟩ := H1.out.g.l i _ HX.out; rw [Nat.zero_add] at x0' x1' x2'; dsimp only at x0' x1' x2'; rw [HQ.out] at x0'; clear yf)
    | (go_at_call 31; refine (CR.out _ H1.out).mono ?_; clear CR; rintro e W2 ⟨kk, nn, zz, rfl, HR, h2⟩; have H2 := hideL h2; clear h2 H1; obtain ⟨v0, v1, v2, v3, v4, vf⟩ := row_cells5 H2.out.t; obtain ⟨z0, z1, z2, z3, z4, zf⟩ := row_cells5 H2.out.r; have vf0 := vf 0; have vf1 := vf 1; have vf2 := vf 2; have zf0 := zf 0; have zf1 := zf 1; have zf2 := zf 2; have zf3 := zf 3; have zf4 := zf 4; clear vf zf))
  refine bodyPost_ret (results_cellL rfl _ _ _ w.heap.size _ rfl (load_lex (lex_put5 (heap_putL (by omega) (heap_putL (by omega) H2.out.r))))) rfl ?_
  exact HYE.out _ _ _ _ _ HR.out (kept_put5 (kept_putL (kept_putL H2.out.k (by omega)) (by omega)) (Nat.le_refl _))
set_option maxRecDepth 20000 in
set_option maxHeartbeats 4000000 in
theorem one_quoY (l : List UInt8) (G : List Sg) (b n cp i p : Nat) (w : World) (hn : n = G.length) (hnb : n ≤ 400000000000) (hG : SgB w b G) (hS : SP l G i p) (_hcp : n ≤ cp) (r : List UInt8) (hd : l.drop p = 34 :: r) (hx : G[i]? = some ⟨34, false, p, 1⟩) (m : Nat) (hm : qoL (l.drop (p + 1)) = some m) :
    Calls Tryd.prog 18 #[.slice (some ⟨b, 0, none⟩) n cp, .int .i64 (i : Int)] w (onPost w l G p) := by
  have hS1 := (sp_plain hS 34 r hd (by decide)).2
  have hr := (drop_next hd).2
  have hin : i < n := by have := (List.getElem?_eq_some_iff.1 hx).1; omega
  have hiz : (i : Int) < (n : Int) := by omega
  have H0 := hideL (on_start (p := p) hG)
  obtain ⟨-, -, x2, -⟩ := (hG.later (Kept.alloc w (.cells #[.int .i64 0, .string ⟨#[]⟩, .int .i64 0, .int .i64 0, .int .i64 0] 41))).l i _ hx
  obtain ⟨x0, x1, -, -⟩ := H0.out.g.l i _ hx
  rw [Nat.zero_add] at x0 x1 x2
  dsimp only at x0 x1 x2
  have HX := hideL hx
  have x0 : (((w.alloc (.cells #[.int .i64 0, .string ⟨#[]⟩, .int .i64 0, .int .i64 0, .int .i64 0] 41)).alloc (.cells #[.int .i64 (-1), .string ⟨#[]⟩, .int .i64 0, .int .i64 (p : Int), .int .i64 0] 41))).cell? ⟨b, i * 4, none⟩ = some (.int .u8 34) := x0
  have CS : Hid (∀ W, OnW w W b p G → Calls Tryd.prog 30 #[.int .u8 34] W fun e w' => e = .returned (.int .i64 (-1)) ∧ OnW w w' b p G) := hideL (fun W hW => (single13_any 34 W).mono (fun _ _ q => ⟨by rw [q.1]; rfl, by rw [q.2]; exact hW⟩))
  have ht : tokF (l.drop p) = (qoL (l.drop (p + 1))).map (fun m => ⟨3, litF ((l.drop (p + 1)).take (m - 1)), 0, m + 1⟩) := by rw [hd, tokF, if_neg (by decide +kernel), if_pos (by decide +kernel), hr]
  rw [hm] at ht
  have ei : ((i + 1 : Nat) : Int) = (i : Int) + 1 := by omega
  have CR : Hid (∀ W, OnW w W b p G → Calls Tryd.prog 32 #[.slice (some ⟨b, 0, none⟩) n cp, .int .i64 ((i : Int) + 1)] W fun x W' => ∃ (tt : ByteArray) (j : Nat), x = .returned (.tuple #[.string tt, .int .i64 ((j : Int) + 1)]) ∧ Hid (onR l G p (tokF (l.drop p)) 3 tt 0 ((j : Int) + 1)) ∧ OnW w W' b p G) := hideL (fun W hW => by
    rw [← ei]
    refine (quoted13_any l G b n cp (i + 1) (p + 1) W hn hnb hW.g hS1 (by omega)).mono ?_
    rintro x W' ⟨⟨h1, -⟩ | ⟨t, mm, j, h1, rfl, h3⟩, hk⟩
    · unfold qMo at h1; rw [hm] at h1; cases h1
    · unfold qMo at h1
      rw [hm] at h1
      obtain ⟨rfl, rfl⟩ := Prod.mk.inj (Option.some.inj h1)
      refine ⟨_, j, rfl, .inr ⟨_, j + 1, ht, ?_, rfl, ?_, rfl, by omega⟩, hW.later hk⟩
      · rw [show p + (m + 1) = p + 1 + m by omega]; exact h3
      · rw [List.nil_append])
  have HYE : Hid (∀ (w' : World) (kk : Int) (tt : ByteArray) (nn zz : Int), onR l G p (tokF (l.drop p)) kk tt nn zz → Kept (fun _ => False) w w' → onPost w l G p (.returned (.tuple #[.agg #[.int .i64 kk, .string tt, .int .i64 nn, .int .i64 (p : Int), .int .i64 0], .int .i64 zz])) w') := hideL (fun w' kk tt nn zz h k => by
    refine ⟨?_, k⟩
    rcases h with ⟨h1, rfl, rfl, rfl⟩ | ⟨t, j, h1, h2, rfl, rfl, rfl, rfl⟩
    · exact .inl ⟨h1, zz, rfl⟩
    · exact .inr ⟨t, j, h1, h2, rfl⟩)
  generalize onPost w l G p = Q at *
  generalize onR l G p (tokF (l.drop p)) = ZR at *
  have HQ : Hid (((34 : UInt8).toNat : Int) = 34) := hideL rfl
  clear hG hS hn hd hx hS1 hr ht hm ei
  go_enter Tryd.func18, Tryd.ntmps18
  go_wp2_with (first
    | (go_at_call 30; refine (CS.out _ H0.out).mono ?_; clear CS; rintro e W1 ⟨rfl, h1⟩; have H1 := hideL h1; clear h1 H0; obtain ⟨y0, y1, y2, y3, y4, yf⟩ := row_cells5 H1.out.t; obtain ⟨x0', x1', x2', -⟩ := H1.out.g.l i _ HX.out; rw [Nat.zero_add] at x0' x1' x2'; dsimp only at x0' x1' x2'; rw [HQ.out] at x0'; clear yf)
    | (go_at_call 32; refine (CR.out _ H1.out).mono ?_; clear CR; rintro e W2 ⟨tt, j, rfl, HR, h2⟩; have hj0 : (0 : Int) ≤ (j : Int) + 1 := (by omega); have H2 := hideL h2; clear h2 H1; obtain ⟨v0, v1, v2, v3, v4, vf⟩ := row_cells5 H2.out.t; obtain ⟨z0, z1, z2, z3, z4, zf⟩ := row_cells5 H2.out.r; have vf0 := vf 0; have vf1 := vf 1; have vf2 := vf 2; have zf0 := zf 0; have zf1 := zf 1; have zf2 := zf 2; have zf3 := zf 3; have zf4 := zf 4; clear vf zf))
  refine bodyPost_ret (results_cellL rfl _ _ _ w.heap.size _ rfl (load_lex (lex_put5 (heap_putL (by omega) (heap_putL (by omega) H2.out.r))))) rfl ?_
  exact HYE.out _ _ _ _ _ HR.out (kept_put5 (kept_putL (kept_putL H2.out.k (by omega)) (by omega)) (Nat.le_refl _))
set_option maxRecDepth 20000 in
set_option maxHeartbeats 4000000 in
theorem one_quoN (l : List UInt8) (G : List Sg) (b n cp i p : Nat) (w : World) (hn : n = G.length) (hnb : n ≤ 400000000000) (hG : SgB w b G) (hS : SP l G i p) (_hcp : n ≤ cp) (r : List UInt8) (hd : l.drop p = 34 :: r) (hx : G[i]? = some ⟨34, false, p, 1⟩) (hm : qoL (l.drop (p + 1)) = none) :
    Calls Tryd.prog 18 #[.slice (some ⟨b, 0, none⟩) n cp, .int .i64 (i : Int)] w (onPost w l G p) := by
  have hS1 := (sp_plain hS 34 r hd (by decide)).2
  have hr := (drop_next hd).2
  have hin : i < n := by have := (List.getElem?_eq_some_iff.1 hx).1; omega
  have hiz : (i : Int) < (n : Int) := by omega
  have H0 := hideL (on_start (p := p) hG)
  obtain ⟨-, -, x2, -⟩ := (hG.later (Kept.alloc w (.cells #[.int .i64 0, .string ⟨#[]⟩, .int .i64 0, .int .i64 0, .int .i64 0] 41))).l i _ hx
  obtain ⟨x0, x1, -, -⟩ := H0.out.g.l i _ hx
  rw [Nat.zero_add] at x0 x1 x2
  dsimp only at x0 x1 x2
  have HX := hideL hx
  have x0 : (((w.alloc (.cells #[.int .i64 0, .string ⟨#[]⟩, .int .i64 0, .int .i64 0, .int .i64 0] 41)).alloc (.cells #[.int .i64 (-1), .string ⟨#[]⟩, .int .i64 0, .int .i64 (p : Int), .int .i64 0] 41))).cell? ⟨b, i * 4, none⟩ = some (.int .u8 34) := x0
  have CS : Hid (∀ W, OnW w W b p G → Calls Tryd.prog 30 #[.int .u8 34] W fun e w' => e = .returned (.int .i64 (-1)) ∧ OnW w w' b p G) := hideL (fun W hW => (single13_any 34 W).mono (fun _ _ q => ⟨by rw [q.1]; rfl, by rw [q.2]; exact hW⟩))
  have ht : tokF (l.drop p) = (qoL (l.drop (p + 1))).map (fun m => ⟨3, litF ((l.drop (p + 1)).take (m - 1)), 0, m + 1⟩) := by rw [hd, tokF, if_neg (by decide +kernel), if_pos (by decide +kernel), hr]
  rw [hm] at ht
  have ei : ((i + 1 : Nat) : Int) = (i : Int) + 1 := by omega
  have CR : Hid (∀ W, OnW w W b p G → Calls Tryd.prog 32 #[.slice (some ⟨b, 0, none⟩) n cp, .int .i64 ((i : Int) + 1)] W fun x W' => x = .returned (.tuple #[.string ⟨#[]⟩, .int .i64 (-1)]) ∧ OnW w W' b p G) := hideL (fun W hW => by
    rw [← ei]
    refine (quoted13_any l G b n cp (i + 1) (p + 1) W hn hnb hW.g hS1 (by omega)).mono ?_
    rintro x W' ⟨⟨h1, rfl⟩ | ⟨t, mm, j, h1, rfl, h3⟩, hk⟩
    · exact ⟨rfl, hW.later hk⟩
    · unfold qMo at h1; rw [hm] at h1; cases h1)
  have HR : Hid (onR l G p (tokF (l.drop p)) (-1) ⟨#[]⟩ 0 (-1)) := hideL (.inl ⟨ht, rfl, rfl, rfl⟩)
  have HYE : Hid (∀ (w' : World) (kk : Int) (tt : ByteArray) (nn zz : Int), onR l G p (tokF (l.drop p)) kk tt nn zz → Kept (fun _ => False) w w' → onPost w l G p (.returned (.tuple #[.agg #[.int .i64 kk, .string tt, .int .i64 nn, .int .i64 (p : Int), .int .i64 0], .int .i64 zz])) w') := hideL (fun w' kk tt nn zz h k => by
    refine ⟨?_, k⟩
    rcases h with ⟨h1, rfl, rfl, rfl⟩ | ⟨t, j, h1, h2, rfl, rfl, rfl, rfl⟩
    · exact .inl ⟨h1, zz, rfl⟩
    · exact .inr ⟨t, j, h1, h2, rfl⟩)
  generalize onPost w l G p = Q at *
  generalize onR l G p (tokF (l.drop p)) = ZR at *
  have HQ : Hid (((34 : UInt8).toNat : Int) = 34) := hideL rfl
  clear hG hS hn hd hx hS1 hr ht hm ei
  go_enter Tryd.func18, Tryd.ntmps18
  go_wp2_with (first
    | (go_at_call 30; refine (CS.out _ H0.out).mono ?_; clear CS; rintro e W1 ⟨rfl, h1⟩; have H1 := hideL h1; clear h1 H0; obtain ⟨y0, y1, y2, y3, y4, yf⟩ := row_cells5 H1.out.t; obtain ⟨x0', x1', x2', -⟩ := H1.out.g.l i _ HX.out; rw [Nat.zero_add] at x0' x1' x2'; dsimp only at x0' x1' x2'; rw [HQ.out] at x0'; clear yf)
    | (go_at_call 32; refine (CR.out _ H1.out).mono ?_; clear CR; rintro e W2 ⟨rfl, h2⟩; have H2 := hideL h2; clear h2 H1; obtain ⟨v0, v1, v2, v3, v4, vf⟩ := row_cells5 H2.out.t; obtain ⟨z0, z1, z2, z3, z4, zf⟩ := row_cells5 H2.out.r; have vf0 := vf 0; have vf1 := vf 1; have vf2 := vf 2; have zf0 := zf 0; have zf1 := zf 1; have zf2 := zf 2; have zf3 := zf 3; have zf4 := zf 4; clear vf zf))
  refine bodyPost_ret (results_cellL rfl _ _ _ w.heap.size _ rfl (load_lex (lex_put5 (heap_putL (by omega) H2.out.r)))) rfl ?_
  exact HYE.out _ _ _ _ _ HR.out (kept_put5 (kept_putL H2.out.k (by omega)) (Nat.le_refl _))
theorem one_kinds (c : UInt8) : bkB c = true ∨ (8 ≤ cl c ∧ cl c ≤ 17 ∧ sgK c = ((cl c : Nat) : Int) ∧ c ≠ 92 ∧ (∀ r, tokF (c :: r) = some ⟨cl c, [], 0, 1⟩)) ∨ c = 94 ∨ c = 64 ∨ c = 126 ∨ c = 34 ∨ (isB c = true ∧ sgK c = -1 ∧ c ≠ 94 ∧ c ≠ 64 ∧ c ≠ 126 ∧ c ≠ 34) := by
  have h1 := u8_all (fun c => bkB c || (decide (8 ≤ cl c) && decide (cl c ≤ 17) && !(isB c) && !(c == 92)) || c == 94 || c == 64 || c == 126 || c == 34 || (isB c && sgK c == -1 && !(c == 94) && !(c == 64) && !(c == 126) && !(c == 34))) (by decide +kernel) c
  simp only [Bool.or_eq_true, Bool.and_eq_true, decide_eq_true_eq, beq_iff_eq, Bool.not_eq_true', beq_eq_false_iff_ne] at h1
  rcases h1 with (((((h | ⟨⟨⟨h1, h2⟩, h3⟩, h4⟩) | h) | h) | h) | h) | ⟨⟨⟨⟨⟨h1, h2⟩, h3⟩, h4⟩, h5⟩, h6⟩
  · exact .inl h
  · refine .inr (.inl ⟨h1, h2, by unfold sgK; rw [if_pos ⟨h1, h2⟩], h4, fun r => ?_⟩)
    rw [tokF, if_neg (by rw [h3]; decide), if_neg (by omega), if_neg (by omega), if_neg (by omega), if_neg (by omega)]
  · exact .inr (.inr (.inl h))
  · exact .inr (.inr (.inr (.inl h)))
  · exact .inr (.inr (.inr (.inr (.inl h))))
  · exact .inr (.inr (.inr (.inr (.inr (.inl h)))))
  · exact .inr (.inr (.inr (.inr (.inr (.inr ⟨h1, h2, h3, h4, h5, h6⟩)))))
theorem one13_any (l : List UInt8) (G : List Sg) (b n cp i p : Nat) (w : World) (hn : n = G.length) (hnb : n ≤ 400000000000) (hG : SgB w b G) (hS : SP l G i p) (hcp : n ≤ cp) (hin : i < n) (hbl : ∀ c s, l.drop p = c :: s → bkB c = false) :
    Calls Tryd.prog 18 #[.slice (some ⟨b, 0, none⟩) n cp, .int .i64 (i : Int)] w (onPost w l G p) := by
  rcases sp_cases hS with ⟨_, h2⟩ | ⟨x, q, _, hx, _, _, hh⟩
  · omega
  · rcases hh with ⟨d, s, hd, rfl, rfl⟩ | ⟨hd, rfl, rfl⟩ | ⟨c, s, hd, h92, rfl, rfl⟩
    · exact one_letter l G b n cp i p w hn hnb hG hS hcp d s hd hx
    · exact one_run l G b n cp i p w hn hnb hG hS hcp 92 [] hd hx isB_92 (by decide +kernel) (by decide) (by decide) (by decide) (by decide)
    · rcases one_kinds c with h | ⟨_, _, h3, h4, h5⟩ | rfl | rfl | rfl | rfl | ⟨h1, h2, h3, h4, h5, h6⟩
      · rw [hbl c s hd] at h; cases h
      · exact one_single l G b n cp i p w hn hnb hG hS hcp c s (cl c) hd hx h3 (by rw [hd]; exact h5 s) h4
      · exact one_94 l G b n cp i p w hn hnb hG hS hcp s hd hx
      · exact one_64 l G b n cp i p w hn hnb hG hS hcp s hd hx
      · exact one_126 l G b n cp i p w hn hnb hG hS hcp s hd hx
      · cases hm : qoL (l.drop (p + 1)) with
        | none => exact one_quoN l G b n cp i p w hn hnb hG hS hcp s hd hx hm
        | some m => exact one_quoY l G b n cp i p w hn hnb hG hS hcp s hd hx m hm
      · exact one_run l G b n cp i p w hn hnb hG hS hcp c s hd hx h1 h2 h3 h4 h5 h6
end Go.Proofs.YtakjaablankipaaDoor
