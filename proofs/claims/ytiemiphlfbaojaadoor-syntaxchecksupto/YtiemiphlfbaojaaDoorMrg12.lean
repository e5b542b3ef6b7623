import Derived.Test.YtiemiphlfbaojaaDoorLzk
import Derived.Test.YtiemiphlfbaojaaDoorMrg11
namespace Go.Proofs.YtiemiphlfbaojaaDoor
open Go.ChangeShapes Go.WideShapes Go.ChangeAt Go.RowKit

/-! The document's 'one'. -/
theorem results_cellL {fn : Func} {p u : Tmp} {ty : TypeId} (h : fn.results = #[.cell p ty, .tmp u]) (tmps : Array Value) (P : Program) (w : World) (g : Nat) (cs : Array Value)
    (hp : tmps.getD p undef = .pointer (some ⟨g, 0, none⟩)) (hld : (loadVar ty ⟨g, 0, none⟩).run P w = .ok (.agg cs) w) :
    (results fn tmps).run P w = .ok (.tuple #[.agg cs, tmps.getD u undef]) w := by
  have hp' : tmps[p]?.getD undef = .pointer (some ⟨g, 0, none⟩) := by simpa using hp
  simp [results, h, hp', asAddr, hld, Result.andThen]
theorem load_lex {W : World} {g : Nat} {x0 x1 x2 x3 x4 : Value} (h : W.heap[g]? = some (.cells #[x0, x1, x2, x3, x4] 59 (0, 0))) : (loadVar 59 ⟨g, 0, none⟩).run Tryd.prog W = .ok (.agg #[x0, x1, x2, x3, x4]) W :=
  run_loadVar_row W g 59 59 #[x0, x1, x2, x3, x4] (0, 0) _ h Tryd.underlying59 rfl (by kernel_rfl)
theorem lex_put5 {W : World} {g : Nat} {x0 x1 x2 x3 x4 v0 v1 v2 v3 v4 : Value} {t : TypeId} (h : W.heap[g]? = some (.cells #[x0, x1, x2, x3, x4] t (0, 0))) : (((((W.setCell ⟨g, 0, none⟩ v0).setCell ⟨g, 1, none⟩ v1).setCell ⟨g, 2, none⟩ v2).setCell ⟨g, 3, none⟩ v3).setCell ⟨g, 4, none⟩ v4).heap[g]? = some (.cells #[v0, v1, v2, v3, v4] t (0, 0)) := by
  have h1 := heap_setCell_same W g 0 _ t v0 h
  have h2 := heap_setCell_same _ g 1 _ t v1 h1
  have h3 := heap_setCell_same _ g 2 _ t v2 h2
  have h4 := heap_setCell_same _ g 3 _ t v3 h3
  have h5 := heap_setCell_same _ g 4 _ t v4 h4
  simpa using h5
theorem kept_put5 {w W : World} {g : Nat} {v0 v1 v2 v3 v4 : Value} (h : Kept (fun _ => False) w W) (hg : w.heap.size ≤ g) : Kept (fun _ => False) w (((((W.setCell ⟨g, 0, none⟩ v0).setCell ⟨g, 1, none⟩ v1).setCell ⟨g, 2, none⟩ v2).setCell ⟨g, 3, none⟩ v3).setCell ⟨g, 4, none⟩ v4) :=
  ((((h.trans (Kept.setCell W ⟨g, 0, none⟩ v0) (fun i e => .inr (by simp only at e; omega))).trans (Kept.setCell _ ⟨g, 1, none⟩ v1) (fun i e => .inr (by simp only at e; omega))).trans (Kept.setCell _ ⟨g, 2, none⟩ v2) (fun i e => .inr (by simp only at e; omega))).trans (Kept.setCell _ ⟨g, 3, none⟩ v3) (fun i e => .inr (by simp only at e; omega))).trans (Kept.setCell _ ⟨g, 4, none⟩ v4) (fun i e => .inr (by simp only at e; omega))
theorem heap_putL {W : World} {g g' o : Nat} {v : Value} (hne : g ≠ g') {cs : Array Value} {t : TypeId} {fz : Nat × Nat} (h : W.heap[g]? = some (.cells cs t fz)) : (W.setCell ⟨g', o, none⟩ v).heap[g]? = some (.cells cs t fz) :=
  (Kept.setCell W ⟨g', o, none⟩ v).heap h (fun e => hne e)
theorem kept_putL {w W : World} {g o : Nat} {v : Value} (h : Kept (fun _ => False) w W) (hg : w.heap.size ≤ g) : Kept (fun _ => False) w (W.setCell ⟨g, o, none⟩ v) := h.trans (Kept.setCell W ⟨g, o, none⟩ v) (fun i e => .inr (by simp only at e; omega))
/-- The world of 'one' between its calls: its answer's row (still empty), its token's row, the signs. -/
structure OnW (w W : World) (b p : Nat) (G : List Sg) : Prop where
  k : Kept (fun _ => False) w W
  r : W.heap[w.heap.size]? = some (.cells #[.int .i64 0, .string ⟨#[]⟩, .int .i64 0, .int .i64 0, .int .i64 0] 59 (0, 0))
  t : W.heap[w.heap.size + 1]? = some (.cells #[.int .i64 (-1), .string ⟨#[]⟩, .int .i64 0, .int .i64 (p : Int), .int .i64 0] 59 (0, 0))
  g : SgB W b G
theorem OnW.later {w W W' : World} {b p : Nat} {G : List Sg} (h : OnW w W b p G) (k : Kept (fun _ => False) W W') : OnW w W' b p G := ⟨h.k.trans k (fun _ f => f.elim), k.heap h.r (fun f => f), k.heap h.t (fun f => f), h.g.later k⟩
theorem on_start {w : World} {b p : Nat} {G : List Sg} (h : SgB w b G) : OnW w ((w.alloc (.cells #[.int .i64 0, .string ⟨#[]⟩, .int .i64 0, .int .i64 0, .int .i64 0] 59)).alloc (.cells #[.int .i64 (-1), .string ⟨#[]⟩, .int .i64 0, .int .i64 (p : Int), .int .i64 0] 59)) b p G := by
  have k1 := Kept.alloc w (.cells #[.int .i64 0, .string ⟨#[]⟩, .int .i64 0, .int .i64 0, .int .i64 0] 59)
  have k2 := Kept.alloc (w.alloc (.cells #[.int .i64 0, .string ⟨#[]⟩, .int .i64 0, .int .i64 0, .int .i64 0] 59)) (.cells #[.int .i64 (-1), .string ⟨#[]⟩, .int .i64 0, .int .i64 (p : Int), .int .i64 0] 59)
  refine ⟨k1.trans k2 (fun _ f => f.elim), k2.heap (heap_alloc_new w _) (fun f => f), ?_, (h.later k1).later k2⟩
  have := heap_alloc_new (w.alloc (.cells #[.int .i64 0, .string ⟨#[]⟩, .int .i64 0, .int .i64 0, .int .i64 0] 59)) (.cells #[.int .i64 (-1), .string ⟨#[]⟩, .int .i64 0, .int .i64 (p : Int), .int .i64 0] 59)
  simpa using this
theorem row_cells5 {W : World} {g : Nat} {x0 x1 x2 x3 x4 : Value} {t : TypeId} (z : W.heap[g]? = some (.cells #[x0, x1, x2, x3, x4] t (0, 0))) : W.cell? ⟨g, 0, none⟩ = some x0 ∧ W.cell? ⟨g, 1, none⟩ = some x1 ∧ W.cell? ⟨g, 2, none⟩ = some x2 ∧ W.cell? ⟨g, 3, none⟩ = some x3 ∧ W.cell? ⟨g, 4, none⟩ = some x4 ∧ (∀ i, W.frozen? ⟨g, i, none⟩ = false) := by
  refine ⟨?_, ?_, ?_, ?_, ?_, fun i => ?_⟩ <;> simp [World.cell?, World.frozen?, z]
/-- What 'one' answers. -/
def onPost (w : World) (l : List UInt8) (G : List Sg) (p : Nat) (x : Ending) (w' : World) : Prop :=
  ((tokF (l.drop p) = none ∧ ∃ z : Int, x = .returned (.tuple #[.agg #[.int .i64 (-1), .string ⟨#[]⟩, .int .i64 0, .int .i64 (p : Int), .int .i64 0], .int .i64 z])) ∨ (∃ (t : Tk) (j : Nat), tokF (l.drop p) = some t ∧ SP l G j (p + t.z) ∧ x = .returned (.tuple #[.agg #[.int .i64 ((t.k : Nat) : Int), .string (bq t.t), .int .i64 t.n, .int .i64 (p : Int), .int .i64 0], .int .i64 (j : Int)]))) ∧ Kept (fun _ => False) w w'
theorem tok_runB {l : List UInt8} {c : UInt8} {r : List UInt8} (h : l = c :: r) (hb : isB c = true) : tokF l = (rnL l).map (fun m => ⟨kdF (l.take m), txF (l.take m), 0, m⟩) := by
  subst h
  rw [tokF, if_pos hb]
/-- The two ends of 'one': a fault, a token. -/
def onR (l : List UInt8) (G : List Sg) (p : Nat) (Z : Option Tk) (kk : Int) (tt : ByteArray) (nn zz : Int) : Prop := (Z = none ∧ kk = -1 ∧ tt = ⟨#[]⟩ ∧ nn = 0) ∨ (∃ (t : Tk) (j : Nat), Z = some t ∧ SP l G j (p + t.z) ∧ kk = ((t.k : Nat) : Int) ∧ tt = bq t.t ∧ nn = t.n ∧ zz = (j : Int))
theorem ru_on {w W : World} {l : List UInt8} {G : List Sg} {b p : Nat} {x : Ending} {W' : World} (hO : OnW w W b p G) (ht : tokF (l.drop p) = (rnL (l.drop p)).map (fun m => ⟨kdF ((l.drop p).take m), txF ((l.drop p).take m), 0, m⟩)) (h : ruPost W l G p x W') : ∃ (kk : Int) (tt : ByteArray) (zz : Int), x = .returned (.tuple #[.int .i64 kk, .string tt, .int .i64 zz]) ∧ Hid (onR l G p (tokF (l.drop p)) kk tt 0 zz) ∧ OnW w W' b p G := by
  rcases h.1 with ⟨h1, z, rfl⟩ | ⟨m, j, h1, h2, rfl⟩
  · exact ⟨_, _, _, rfl, .inl ⟨by rw [ht, h1]; rfl, rfl, rfl, rfl⟩, hO.later h.2⟩
  · exact ⟨_, _, _, rfl, .inr ⟨_, j, by rw [ht, h1]; rfl, h2, rfl, rfl, rfl, rfl⟩, hO.later h.2⟩
theorem nb_on {w W : World} {l : List UInt8} {G : List Sg} {b p : Nat} {x : Ending} {W' : World} (hO : OnW w W b p G) (h : nbPost W l G p x W') : ∃ (kk nn zz : Int), x = .returned (.tuple #[.int .i64 kk, .int .i64 nn, .int .i64 zz]) ∧ Hid (onR l G p (tokF (l.drop p)) kk ⟨#[]⟩ nn zz) ∧ OnW w W' b p G := by
  obtain ⟨h1, rfl⟩ := h
  rcases h1 with ⟨h1, z, rfl⟩ | ⟨t, j, h1, h2, rfl, h3⟩
  · exact ⟨_, _, _, rfl, .inl ⟨h1, rfl, rfl, rfl⟩, hO⟩
  · exact ⟨_, _, _, rfl, .inr ⟨t, j, h1, h3, rfl, by rw [h2]; rfl, rfl, rfl⟩, hO⟩
set_option maxRecDepth 20000 in
set_option maxHeartbeats 4000000 in
theorem one_letter (l : List UInt8) (G : List Sg) (b n cp i p : Nat) (w : World) (hn : n = G.length) (hnb : n ≤ 400000000000) (hG : SgB w b G) (hS : SP l G i p) (hcp : n ≤ cp) (d : UInt8) (r : List UInt8) (hd : l.drop p = 92 :: d :: r) (hx : G[i]? = some ⟨d, true, p, 2⟩) :
    Calls Tryd.prog 55 #[.slice (some ⟨b, 0, none⟩) n cp, .int .i64 (i : Int)] w (onPost w l G p) := by
  have ht := tok_runB hd isB_92
  have hin : i < n := by have := (List.getElem?_eq_some_iff.1 hx).1; omega
  have hiz : (i : Int) < (n : Int) := by omega
  have H0 := hideL (on_start (p := p) hG)
  obtain ⟨-, -, x2, -⟩ := (hG.later (Kept.alloc w (.cells #[.int .i64 0, .string ⟨#[]⟩, .int .i64 0, .int .i64 0, .int .i64 0] 59))).l i _ hx
  obtain ⟨x0, x1, -, -⟩ := H0.out.g.l i _ hx
  rw [Nat.zero_add] at x0 x1 x2
  dsimp only at x0 x1 x2
  have HX := hideL hx
  have CR : Hid (∀ W, OnW w W b p G → Calls Tryd.prog 74 #[.slice (some ⟨b, 0, none⟩) n cp, .int .i64 (i : Int)] W fun x W' => ∃ (kk : Int) (tt : ByteArray) (zz : Int), x = .returned (.tuple #[.int .i64 kk, .string tt, .int .i64 zz]) ∧ Hid (onR l G p (tokF (l.drop p)) kk tt 0 zz) ∧ OnW w W' b p G) := hideL (fun W hW => (run13_any l G b n cp i p W hn hnb hW.g hS hin hcp).mono (fun _ _ q => ru_on hW ht q))
  have HYE : Hid (∀ (w' : World) (kk : Int) (tt : ByteArray) (nn zz : Int), onR l G p (tokF (l.drop p)) kk tt nn zz → Kept (fun _ => False) w w' → onPost w l G p (.returned (.tuple #[.agg #[.int .i64 kk, .string tt, .int .i64 nn, .int .i64 (p : Int), .int .i64 0], .int .i64 zz])) w') := hideL (fun w' kk tt nn zz h k => by
    refine ⟨?_, k⟩
    rcases h with ⟨h1, rfl, rfl, rfl⟩ | ⟨t, j, h1, h2, rfl, rfl, rfl, rfl⟩
    · exact .inl ⟨h1, zz, rfl⟩
    · exact .inr ⟨t, j, h1, h2, rfl⟩)
  generalize onPost w l G p = Q at *
  generalize onR l G p (tokF (l.drop p)) = ZR at *
  clear hG hS hn ht hd hx
  go_enter Tryd.func55, Tryd.ntmps55
  go_wp2_with (first
    | (go_at_call 74; refine (CR.out _ H0.out).mono ?_; clear CR; rintro e W2 ⟨kk, tt, zz, rfl, HR, h2⟩; have H2 := hideL h2; clear h2 H0; obtain ⟨v0, v1, v2, v3, v4, vf⟩ := row_cells5 H2.out.t; obtain ⟨z0, z1, z2, z3, z4, zf⟩ := row_cells5 H2.out.r; have vf0 := vf 0; have vf1 := vf 1; have vf2 := vf 2; have zf0 := zf 0; have zf1 := zf 1; have zf2 := zf 2; have zf3 := zf 3; have zf4 := zf 4; clear vf zf))
  refine bodyPost_ret (results_cellL rfl _ _ _ w.heap.size _ rfl (load_lex (lex_put5 (heap_putL (by omega) (heap_putL (by omega) H2.out.r))))) rfl ?_
  exact HYE.out _ _ _ _ _ HR.out (kept_put5 (kept_putL (kept_putL H2.out.k (by omega)) (by omega)) (Nat.le_refl _))
set_option maxRecDepth 20000 in
set_option maxHeartbeats 4000000 in
theorem one_run (l : List UInt8) (G : List Sg) (b n cp i p : Nat) (w : World) (hn : n = G.length) (hnb : n ≤ 400000000000) (hG : SgB w b G) (hS : SP l G i p) (hcp : n ≤ cp) (c : UInt8) (r : List UInt8) (hd : l.drop p = c :: r) (hx : G[i]? = some ⟨c, false, p, 1⟩) (hB : isB c = true) (hsk : sgK c = -1) (h94 : c ≠ 94) (h64 : c ≠ 64) (h126 : c ≠ 126) (h34 : c ≠ 34) :
    Calls Tryd.prog 55 #[.slice (some ⟨b, 0, none⟩) n cp, .int .i64 (i : Int)] w (onPost w l G p) := by
  have ht := tok_runB hd hB
  have hin : i < n := by have := (List.getElem?_eq_some_iff.1 hx).1; omega
  have hiz : (i : Int) < (n : Int) := by omega
  have H0 := hideL (on_start (p := p) hG)
  obtain ⟨-, -, x2, -⟩ := (hG.later (Kept.alloc w (.cells #[.int .i64 0, .string ⟨#[]⟩, .int .i64 0, .int .i64 0, .int .i64 0] 59))).l i _ hx
  obtain ⟨x0, x1, -, -⟩ := H0.out.g.l i _ hx
  rw [Nat.zero_add] at x0 x1 x2
  dsimp only at x0 x1 x2
  have HX := hideL hx
  have CS : Hid (∀ W, OnW w W b p G → Calls Tryd.prog 71 #[.int .u8 (c.toNat : Int)] W fun e w' => e = .returned (.int .i64 (-1)) ∧ OnW w w' b p G) := hideL (fun W hW => (single13_any c W).mono (fun _ _ q => ⟨by rw [q.1, hsk], by rw [q.2]; exact hW⟩))
  have CR : Hid (∀ W, OnW w W b p G → Calls Tryd.prog 74 #[.slice (some ⟨b, 0, none⟩) n cp, .int .i64 (i : Int)] W fun x W' => ∃ (kk : Int) (tt : ByteArray) (zz : Int), x = .returned (.tuple #[.int .i64 kk, .string tt, .int .i64 zz]) ∧ Hid (onR l G p (tokF (l.drop p)) kk tt 0 zz) ∧ OnW w W' b p G) := hideL (fun W hW => (run13_any l G b n cp i p W hn hnb hW.g hS hin hcp).mono (fun _ _ q => ru_on hW ht q))
  have HYE : Hid (∀ (w' : World) (kk : Int) (tt : ByteArray) (nn zz : Int), onR l G p (tokF (l.drop p)) kk tt nn zz → Kept (fun _ => False) w w' → onPost w l G p (.returned (.tuple #[.agg #[.int .i64 kk, .string tt, .int .i64 nn, .int .i64 (p : Int), .int .i64 0], .int .i64 zz])) w') := hideL (fun w' kk tt nn zz h k => by
    refine ⟨?_, k⟩
    rcases h with ⟨h1, rfl, rfl, rfl⟩ | ⟨t, j, h1, h2, rfl, rfl, rfl, rfl⟩
    · exact .inl ⟨h1, zz, rfl⟩
    · exact .inr ⟨t, j, h1, h2, rfl⟩)
  generalize onPost w l G p = Q at *
  generalize onR l G p (tokF (l.drop p)) = ZR at *
  have q94 : ((c.toNat : Int) == 94) = false := u8_intL c 94 h94
  have q64 : ((c.toNat : Int) == 64) = false := u8_intL c 64 h64
  have q126 : ((c.toNat : Int) == 126) = false := u8_intL c 126 h126
  have q34 : ((c.toNat : Int) == 34) = false := u8_intL c 34 h34
  have hcb : c.toNat < 256 := c.toNat_lt
  generalize hq : c.toNat = m at x0 CS q94 q64 q126 q34 hcb
  have HQ : Hid (c.toNat = m) := hideL hq
  clear hG hS hn ht hd hB hx hsk h94 h64 h126 h34 hq
  go_enter Tryd.func55, Tryd.ntmps55
  go_wp2_with (first
    | (go_at_call 71; refine (CS.out _ H0.out).mono ?_; clear CS; rintro e W1 ⟨rfl, h1⟩; have H1 := hideL h1; clear h1 H0; obtain ⟨y0, y1, y2, y3, y4, yf⟩ := row_cells5 H1.out.t; obtain ⟨z0, z1, z2, z3, z4, zf⟩ := row_cells5 H1.out.r; obtain ⟨x0', x1', x2', -⟩ := H1.out.g.l i _ HX.out; rw [Nat.zero_add] at x0' x1' x2'; dsimp only at x0' x1' x2'; rw [HQ.out] at x0'; clear yf zf)
    | (go_at_call 74; refine (CR.out _ H1.out).mono ?_; clear CR; rintro e W2 ⟨kk, tt, zz, rfl, HR, h2⟩; have H2 := hideL h2; clear h2 H1; obtain ⟨v0, v1, v2, v3, v4, vf⟩ := row_cells5 H2.out.t; obtain ⟨z0, z1, z2, z3, z4, zf⟩ := row_cells5 H2.out.r; have vf0 := vf 0; have vf1 := vf 1; have vf2 := vf 2; have zf0 := zf 0; have zf1 := zf 1; have zf2 := zf 2; have zf3 := zf 3; have zf4 := zf 4; clear vf zf))
  refine bodyPost_ret (results_cellL rfl _ _ _ w.heap.size _ rfl (load_lex (lex_put5 (heap_putL (by omega) (heap_putL (by omega) H2.out.r))))) rfl ?_
  exact HYE.out _ _ _ _ _ HR.out (kept_put5 (kept_putL (kept_putL H2.out.k (by omega)) (by omega)) (Nat.le_refl _))
set_option maxRecDepth 20000 in
set_option maxHeartbeats 4000000 in
theorem one_single (l : List UInt8) (G : List Sg) (b n cp i p : Nat) (w : World) (hn : n = G.length) (hnb : n ≤ 400000000000) (hG : SgB w b G) (hS : SP l G i p) (_hcp : n ≤ cp) (c : UInt8) (r : List UInt8) (k : Nat) (hd : l.drop p = c :: r) (hx : G[i]? = some ⟨c, false, p, 1⟩) (hk : sgK c = (k : Int)) (ht : tokF (l.drop p) = some ⟨k, [], 0, 1⟩) (h92 : c ≠ 92) :
    Calls Tryd.prog 55 #[.slice (some ⟨b, 0, none⟩) n cp, .int .i64 (i : Int)] w (onPost w l G p) := by
  have hS1 := (sp_plain hS c r hd h92).2
  have hin : i < n := by have := (List.getElem?_eq_some_iff.1 hx).1; omega
  have hiz : (i : Int) < (n : Int) := by omega
  have H0 := hideL (on_start (p := p) hG)
  obtain ⟨-, -, x2, -⟩ := (hG.later (Kept.alloc w (.cells #[.int .i64 0, .string ⟨#[]⟩, .int .i64 0, .int .i64 0, .int .i64 0] 59))).l i _ hx
  obtain ⟨x0, x1, -, -⟩ := H0.out.g.l i _ hx
  rw [Nat.zero_add] at x0 x1 x2
  dsimp only at x0 x1 x2
  have HX := hideL hx
  have CS : Hid (∀ W, OnW w W b p G → Calls Tryd.prog 71 #[.int .u8 (c.toNat : Int)] W fun e w' => e = .returned (.int .i64 (k : Int)) ∧ OnW w w' b p G) := hideL (fun W hW => (single13_any c W).mono (fun _ _ q => ⟨by rw [q.1, hk], by rw [q.2]; exact hW⟩))
  have HR : Hid (onR l G p (tokF (l.drop p)) (k : Int) ⟨#[]⟩ 0 ((i : Int) + 1)) := hideL (.inr ⟨_, i + 1, ht, hS1, rfl, rfl, rfl, by omega⟩)
  have HYE : Hid (∀ (w' : World) (kk : Int) (tt : ByteArray) (nn zz : Int), onR l G p (tokF (l.drop p)) kk tt nn zz → Kept (fun _ => False) w w' → onPost w l G p (.returned (.tuple #[.agg #[.int .i64 kk, .string tt, .int .i64 nn, .int .i64 (p : Int), .int .i64 0], .int .i64 zz])) w') := hideL (fun w' kk tt nn zz h k => by
    refine ⟨?_, k⟩
    rcases h with ⟨h1, rfl, rfl, rfl⟩ | ⟨t, j, h1, h2, rfl, rfl, rfl, rfl⟩
    · exact .inl ⟨h1, zz, rfl⟩
    · exact .inr ⟨t, j, h1, h2, rfl⟩)
  generalize onPost w l G p = Q at *
  generalize onR l G p (tokF (l.drop p)) = ZR at *
  have hk0 : (0 : Int) ≤ (k : Int) := by omega
  have hcb : c.toNat < 256 := c.toNat_lt
  generalize hq : c.toNat = m at x0 CS hcb
  have HQ : Hid (c.toNat = m) := hideL hq
  clear hG hS hn ht hd hx hk hS1 hq h92
  go_enter Tryd.func55, Tryd.ntmps55
  go_wp2_with (first
    | (go_at_call 71; refine (CS.out _ H0.out).mono ?_; rintro e W1 ⟨rfl, h1⟩; have H1 := hideL h1; clear h1 H0; obtain ⟨y0, y1, y2, y3, y4, yf⟩ := row_cells5 H1.out.t; obtain ⟨x0', x1', x2', -⟩ := H1.out.g.l i _ HX.out; rw [Nat.zero_add] at x0' x1' x2'; dsimp only at x0' x1' x2'; rw [HQ.out] at x0'; clear yf)
    | (go_at_call 71; refine (CS.out _ H1.out).mono ?_; clear CS; rintro e W2 ⟨rfl, h2⟩; have H2 := hideL h2; clear h2 H1; obtain ⟨v0, v1, v2, v3, v4, vf⟩ := row_cells5 H2.out.t; obtain ⟨z0, z1, z2, z3, z4, zf⟩ := row_cells5 H2.out.r; have vf0 := vf 0; have vf1 := vf 1; have vf2 := vf 2; have zf0 := zf 0; have zf1 := zf 1; have zf2 := zf 2; have zf3 := zf 3; have zf4 := zf 4; clear vf zf))
  refine bodyPost_ret (results_cellL rfl _ _ _ w.heap.size _ rfl (load_lex (lex_put5 (heap_putL (by omega) H2.out.r)))) rfl ?_
  exact HYE.out _ _ _ _ _ HR.out (kept_put5 (kept_putL H2.out.k (by omega)) (Nat.le_refl _))
set_option maxRecDepth 20000 in
set_option maxHeartbeats 4000000 in
theorem one_94 (l : List UInt8) (G : List Sg) (b n cp i p : Nat) (w : World) (hn : n = G.length) (hnb : n ≤ 400000000000) (hG : SgB w b G) (hS : SP l G i p) (_hcp : n ≤ cp) (r : List UInt8) (hd : l.drop p = 94 :: r) (hx : G[i]? = some ⟨94, false, p, 1⟩) :
    Calls Tryd.prog 55 #[.slice (some ⟨b, 0, none⟩) n cp, .int .i64 (i : Int)] w (onPost w l G p) := by
  have hin : i < n := by have := (List.getElem?_eq_some_iff.1 hx).1; omega
  have hiz : (i : Int) < (n : Int) := by omega
  have H0 := hideL (on_start (p := p) hG)
  obtain ⟨-, -, x2, -⟩ := (hG.later (Kept.alloc w (.cells #[.int .i64 0, .string ⟨#[]⟩, .int .i64 0, .int .i64 0, .int .i64 0] 59))).l i _ hx
  obtain ⟨x0, x1, -, -⟩ := H0.out.g.l i _ hx
  rw [Nat.zero_add] at x0 x1 x2
  dsimp only at x0 x1 x2
  have HX := hideL hx
  have x0 : (((w.alloc (.cells #[.int .i64 0, .string ⟨#[]⟩, .int .i64 0, .int .i64 0, .int .i64 0] 59)).alloc (.cells #[.int .i64 (-1), .string ⟨#[]⟩, .int .i64 0, .int .i64 (p : Int), .int .i64 0] 59))).cell? ⟨b, i * 4, none⟩ = some (.int .u8 94) := x0
  have CS : Hid (∀ W, OnW w W b p G → Calls Tryd.prog 71 #[.int .u8 94] W fun e w' => e = .returned (.int .i64 (-1)) ∧ OnW w w' b p G) := hideL (fun W hW => (single13_any 94 W).mono (fun _ _ q => ⟨by rw [q.1]; rfl, by rw [q.2]; exact hW⟩))
  have CR : Hid (∀ W, OnW w W b p G → Calls Tryd.prog 72 #[.slice (some ⟨b, 0, none⟩) n cp, .int .i64 (i : Int)] W fun x W' => ∃ (kk nn zz : Int), x = .returned (.tuple #[.int .i64 kk, .int .i64 nn, .int .i64 zz]) ∧ Hid (onR l G p (tokF (l.drop p)) kk ⟨#[]⟩ nn zz) ∧ OnW w W' b p G) := hideL (fun W hW => (numbered_hat l G b n cp i p W hn hnb hW.g.l hS r hd).mono (fun _ _ q => nb_on hW q))
  have HYE : Hid (∀ (w' : World) (kk : Int) (tt : ByteArray) (nn zz : Int), onR l G p (tokF (l.drop p)) kk tt nn zz → Kept (fun _ => False) w w' → onPost w l G p (.returned (.tuple #[.agg #[.int .i64 kk, .string tt, .int .i64 nn, .int .i64 (p : Int), .int .i64 0], .int .i64 zz])) w') := hideL (fun w' kk tt nn zz h k => by
    refine ⟨?_, k⟩
    rcases h with ⟨h1, rfl, rfl, rfl⟩ | ⟨t, j, h1, h2, rfl, rfl, rfl, rfl⟩
    · exact .inl ⟨h1, zz, rfl⟩
    · exact .inr ⟨t, j, h1, h2, rfl⟩)
  generalize onPost w l G p = Q at *
  generalize onR l G p (tokF (l.drop p)) = ZR at *
  have HQ : Hid (((94 : UInt8).toNat : Int) = 94) := hideL rfl
  clear hG hS hn hd hx
  go_enter Tryd.func55, Tryd.ntmps55
  go_wp2_with (first
    | (go_at_call 71; refine (CS.out _ H0.out).mono ?_; clear CS; rintro e W1 ⟨rfl, h1⟩; have H1 := hideL h1; clear h1 H0; obtain ⟨y0, y1, y2, y3, y4, yf⟩ := row_cells5 H1.out.t; obtain ⟨x0', x1', x2', -⟩ := H1.out.g.l i _ HX.out; rw [Nat.zero_add] at x0' x1' x2'; dsimp only at x0' x1' x2'; rw [HQ.out] at x0'; clear yf)
    | (go_at_call 72; refine (CR.out _ H1.out).mono ?_; clear CR; rintro e W2 ⟨kk, nn, zz, rfl, HR, h2⟩; have H2 := hideL h2; clear h2 H1; obtain ⟨v0, v1, v2, v3, v4, vf⟩ := row_cells5 H2.out.t; obtain ⟨z0, z1, z2, z3, z4, zf⟩ := row_cells5 H2.out.r; have vf0 := vf 0; have vf1 := vf 1; have vf2 := vf 2; have zf0 := zf 0; have zf1 := zf 1; have zf2 := zf 2; have zf3 := zf 3; have zf4 := zf 4; clear vf zf))
  refine bodyPost_ret (results_cellL rfl _ _ _ w.heap.size _ rfl (load_lex (lex_put5 (heap_putL (by omega) (heap_putL (by omega) H2.out.r))))) rfl ?_
  exact HYE.out _ _ _ _ _ HR.out (kept_put5 (kept_putL (kept_putL H2.out.k (by omega)) (by omega)) (Nat.le_refl _))
set_option maxRecDepth 20000 in
set_option maxHeartbeats 4000000 in
theorem one_64 (l : List UInt8) (G : List Sg) (b n cp i p : Nat) (w : World) (hn : n = G.length) (hnb : n ≤ 400000000000) (hG : SgB w b G) (hS : SP l G i p) (_hcp : n ≤ cp) (r : List UInt8) (hd : l.drop p = 64 :: r) (hx : G[i]? = some ⟨64, false, p, 1⟩) :
    Calls Tryd.prog 55 #[.slice (some ⟨b, 0, none⟩) n cp, .int .i64 (i : Int)] w (onPost w l G p) := by
  have hin : i < n := by have := (List.getElem?_eq_some_iff.1 hx).1; omega
  have hiz : (i : Int) < (n : Int) := by omega
  have H0 := hideL (on_start (p := p) hG)
  obtain ⟨-, -, x2, -⟩ := (hG.later (Kept.alloc w (.cells #[.int .i64 0, .string ⟨#[]⟩, .int .i64 0, .int .i64 0, .int .i64 0] 59))).l i _ hx
  obtain ⟨x0, x1, -, -⟩ := H0.out.g.l i _ hx
  rw [Nat.zero_add] at x0 x1 x2
  dsimp only at x0 x1 x2
  have HX := hideL hx
  have x0 : (((w.alloc (.cells #[.int .i64 0, .string ⟨#[]⟩, .int .i64 0, .int .i64 0, .int .i64 0] 59)).alloc (.cells #[.int .i64 (-1), .string ⟨#[]⟩, .int .i64 0, .int .i64 (p : Int), .int .i64 0] 59))).cell? ⟨b, i * 4, none⟩ = some (.int .u8 64) := x0
  have CS : Hid (∀ W, OnW w W b p G → Calls Tryd.prog 71 #[.int .u8 64] W fun e w' => e = .returned (.int .i64 (-1)) ∧ OnW w w' b p G) := hideL (fun W hW => (single13_any 64 W).mono (fun _ _ q => ⟨by rw [q.1]; rfl, by rw [q.2]; exact hW⟩))
  have CR : Hid (∀ W, OnW w W b p G → Calls Tryd.prog 72 #[.slice (some ⟨b, 0, none⟩) n cp, .int .i64 (i : Int)] W fun x W' => ∃ (kk nn zz : Int), x = .returned (.tuple #[.int .i64 kk, .int .i64 nn, .int .i64 zz]) ∧ Hid (onR l G p (tokF (l.drop p)) kk ⟨#[]⟩ nn zz) ∧ OnW w W' b p G) := hideL (fun W hW => (numbered_at l G b n cp i p W hn hnb hW.g.l hS r hd).mono (fun _ _ q => nb_on hW q))
  have HYE : Hid (∀ (w' : World) (kk : Int) (tt : ByteArray) (nn zz : Int), onR l G p (tokF (l.drop p)) kk tt nn zz → Kept (fun _ => False) w w' → onPost w l G p (.returned (.tuple #[.agg #[.int .i64 kk, .string tt, .int .i64 nn, .int .i64 (p : Int), .int .i64 0], .int .i64 zz])) w') := hideL (fun w' kk tt nn zz h k => by
    refine ⟨?_, k⟩
    rcases h with ⟨h1, rfl, rfl, rfl⟩ | ⟨t, j, h1, h2, rfl, rfl, rfl, rfl⟩
    · exact .inl ⟨h1, zz, rfl⟩
    · exact .inr ⟨t, j, h1, h2, rfl⟩)
  generalize onPost w l G p = Q at *
  generalize onR l G p (tokF (l.drop p)) = ZR at *
  have HQ : Hid (((64 : UInt8).toNat : Int) = 64) := hideL rfl
  clear hG hS hn hd hx
  go_enter Tryd.func55, Tryd.ntmps55
  go_wp2_with (first
    | (go_at_call 71; refine (CS.out _ H0.out).mono ?_; clear CS; rintro e W1 ⟨rfl, h1⟩; have H1 := hideL h1; clear h1 H0; obtain ⟨y0, y1, y2, y3, y4, yf⟩ := row_cells5 H1.out.t; obtain ⟨x0', x1', x2', -⟩ := H1.out.g.l i _ HX.out; rw [Nat.zero_add] at x0' x1' x2'; dsimp only at x0' x1' x2'; rw [HQ.out] at x0'; clear yf)
    | (go_at_call 72; refine (CR.out _ H1.out).mono ?_; clear CR; rintro e W2 ⟨kk, nn, zz, rfl, HR, h2⟩; have H2 := hideL h2; clear h2 H1; obtain ⟨v0, v1, v2, v3, v4, vf⟩ := row_cells5 H2.out.t; obtain ⟨z0, z1, z2, z3, z4, zf⟩ := row_cells5 H2.out.r; have vf0 := vf 0; have vf1 := vf 1; have vf2 := vf 2; have zf0 := zf 0; have zf1 := zf 1; have zf2 := zf 2; have zf3 := zf 3; have zf4 := zf 4; clear vf zf))
  refine bodyPost_ret (results_cellL rfl _ _ _ w.heap.size _ rfl (load_lex (lex_put5 (heap_putL (by omega) (heap_putL (by omega) H2.out.r))))) rfl ?_
  exact HYE.out _ _ _ _ _ HR.out (kept_put5 (kept_putL (kept_putL H2.out.k (by omega)) (by omega)) (Nat.le_refl _))
set_option maxRecDepth 20000 in
set_option maxHeartbeats 4000000 in
theorem one_126 (l : List UInt8) (G : List Sg) (b n cp i p : Nat) (w : World) (hn : n = G.length) (hnb : n ≤ 400000000000) (hG : SgB w b G) (hS : SP l G i p) (_hcp : n ≤ cp) (r : List UInt8) (hd : l.drop p = 126 :: r) (hx : G[i]? = some ⟨126, false, p, 1⟩) :
    Calls Tryd.prog 55 #[.slice (some ⟨b, 0, none⟩) n cp, .int .i64 (i : Int)] w (onPost w l G p) := by
  have hin : i < n := by have := (List.getElem?_eq_some_iff.1 hx).1; omega
  have hiz : (i : Int) < (n : Int) := by omega
  have H0 := hideL (on_start (p := p) hG)
  obtain ⟨-, -, x2, -⟩ := (hG.later (Kept.alloc w (.cells #[.int .i64 0, .string ⟨#[]⟩, .int .i64 0, .int .i64 0, .int .i64 0] 59))).l i _ hx
  obtain ⟨x0, x1, -, -⟩ := H0.out.g.l i _ hx
  rw [Nat.zero_add] at x0 x1 x2
  dsimp only at x0 x1 x2
  have HX := hideL hx
  have x0 : (((w.alloc (.cells #[.int .i64 0, .string ⟨#[]⟩, .int .i64 0, .int .i64 0, .int .i64 0] 59)).alloc (.cells #[.int .i64 (-1), .string ⟨#[]⟩, .int .i64 0, .int .i64 (p : Int), .int .i64 0] 59))).cell? ⟨b, i * 4, none⟩ = some (.int .u8 126) := x0
  have CS : Hid (∀ W, OnW w W b p G → Calls Tryd.prog 71 #[.int .u8 126] W fun e w' => e = .returned (.int .i64 (-1)) ∧ OnW w w' b p G) := hideL (fun W hW => (single13_any 126 W).mono (fun _ _ q => ⟨by rw [q.1]; rfl, by rw [q.2]; exact hW⟩))
  have CR : Hid (∀ W, OnW w W b p G → Calls Tryd.prog 72 #[.slice (some ⟨b, 0, none⟩) n cp, .int .i64 (i : Int)] W fun x W' => ∃ (kk nn zz : Int), x = .returned (.tuple #[.int .i64 kk, .int .i64 nn, .int .i64 zz]) ∧ Hid (onR l G p (tokF (l.drop p)) kk ⟨#[]⟩ nn zz) ∧ OnW w W' b p G) := hideL (fun W hW => (numbered_tilde l G b n cp i p W hn hnb hW.g.l hS r hd).mono (fun _ _ q => nb_on hW q))
  have HYE : Hid (∀ (w' : World) (kk : Int) (tt : ByteArray) (nn zz : Int), onR l G p (tokF (l.drop p)) kk tt nn zz → Kept (fun _ => False) w w' → onPost w l G p (.returned (.tuple #[.agg #[.int .i64 kk, .string tt, .int .i64 nn, .int .i64 (p : Int), .int .i64 0], .int .i64 zz])) w') := hideL (fun w' kk tt nn zz h k => by
    refine ⟨?_, k⟩
    rcases h with ⟨h1, rfl, rfl, rfl⟩ | ⟨t, j, h1, h2, rfl, rfl, rfl, rfl⟩
    · exact .inl ⟨h1, zz, rfl⟩
    · exact .inr ⟨t, j, h1, h2, rfl⟩)
  generalize onPost w l G p = Q at *
  generalize onR l G p (tokF (l.drop p)) = ZR at *
  have HQ : Hid (((126 : UInt8).toNat : Int) = 126) := hideL rfl
  clear hG hS hn hd hx
  go_enter Tryd.func55, Tryd.ntmps55
  go_wp2_with (first
    | (go_at_call 71; refine (CS.out _ H0.out).mono ?_; clear CS; rintro e W1 ⟨rfl, h1⟩; have H1 := hideL h1; clear h1 H0; obtain ⟨y0, y1, y2, y3, y4, yf⟩ := row_cells5 H1.out.t; obtain ⟨x0', x1', x2', -⟩ := H1.out.g.l i _ HX.out; rw [Nat.zero_add] at x0' x1' x2'; dsimp only at x0' x1' x2'; rw [HQ.out] at x0'; clear yf)
    | (go_at_call 72; refine (CR.out _ H1.out).mono ?_; clear CR; rintro e W2 ⟨kk, nn, zz, rfl, HR, h2⟩; have H2 := hideL h2; clear h2 H1; obtain ⟨v0, v1, v2, v3, v4, vf⟩ := row_cells5 H2.out.t; obtain ⟨z0, z1, z2, z3, z4, zf⟩ := row_cells5 H2.out.r; have vf0 := vf 0; have vf1 := vf 1; have vf2 := vf 2; have zf0 := zf 0; have zf1 := zf 1; have zf2 := zf 2; have zf3 := zf 3; have zf4 := zf 4; clear vf zf))
  refine bodyPost_ret (results_cellL rfl _ _ _ w.heap.size _ rfl (load_lex (lex_put5 (heap_putL (by omega) (heap_putL (by omega) H2.out.r))))) rfl ?_
  exact HYE.out _ _ _ _ _ HR.out (kept_put5 (kept_putL (kept_putL H2.out.k (by omega)) (by omega)) (Nat.le_refl _))
set_option maxRecDepth 20000 in
set_option maxHeartbeats 4000000 in
theorem one_quoY (l : List UInt8) (G : List Sg) (b n cp i p : Nat) (w : World) (hn : n = G.length) (hnb : n ≤ 400000000000) (hG : SgB w b G) (hS : SP l G i p) (_hcp : n ≤ cp) (r : List UInt8) (hd : l.drop p = 34 :: r) (hx : G[i]? = some ⟨34, false, p, 1⟩) (m : Nat) (hm : qoL (l.drop (p + 1)) = some m) :
    Calls Tryd.prog 55 #[.slice (some ⟨b, 0, none⟩) n cp, .int .i64 (i : Int)] w (onPost w l G p) := by
  have hS1 := (sp_plain hS 34 r hd (by decide)).2
  have hr := (drop_next hd).2
  have hin : i < n := by have := (List.getElem?_eq_some_iff.1 hx).1; omega
  have hiz : (i : Int) < (n : Int) := by omega
  have H0 := hideL (on_start (p := p) hG)
  obtain ⟨-, -, x2, -⟩ := (hG.later (Kept.alloc w (.cells #[.int .i64 0, .string ⟨#[]⟩, .int .i64 0, .int .i64 0, .int .i64 0] 59))).l i _ hx
  obtain ⟨x0, x1, -, -⟩ := H0.out.g.l i _ hx
  rw [Nat.zero_add] at x0 x1 x2
  dsimp only at x0 x1 x2
  have HX := hideL hx
  have x0 : (((w.alloc (.cells #[.int .i64 0, .string ⟨#[]⟩, .int .i64 0, .int .i64 0, .int .i64 0] 59)).alloc (.cells #[.int .i64 (-1), .string ⟨#[]⟩, .int .i64 0, .int .i64 (p : Int), .int .i64 0] 59))).cell? ⟨b, i * 4, none⟩ = some (.int .u8 34) := x0
  have CS : Hid (∀ W, OnW w W b p G → Calls Tryd.prog 71 #[.int .u8 34] W fun e w' => e = .returned (.int .i64 (-1)) ∧ OnW w w' b p G) := hideL (fun W hW => (single13_any 34 W).mono (fun _ _ q => ⟨by rw [q.1]; rfl, by rw [q.2]; exact hW⟩))
  have ht : tokF (l.drop p) = (qoL (l.drop (p + 1))).map (fun m => ⟨3, litF ((l.drop (p + 1)).take (m - 1)), 0, m + 1⟩) := by rw [hd, tokF, if_neg (by decide +kernel), if_pos (by decide +kernel), hr]
  rw [hm] at ht
  have ei : ((i + 1 : Nat) : Int) = (i : Int) + 1 := by omega
  have CR : Hid (∀ W, OnW w W b p G → Calls Tryd.prog 73 #[.slice (some ⟨b, 0, none⟩) n cp, .int .i64 ((i : Int) + 1)] W fun x W' => ∃ (tt : ByteArray) (j : Nat), x = .returned (.tuple #[.string tt, .int .i64 ((j : Int) + 1)]) ∧ Hid (onR l G p (tokF (l.drop p)) 3 tt 0 ((j : Int) + 1)) ∧ OnW w W' b p G) := hideL (fun W hW => by
    rw [← ei]
    refine (quoted13_any l G b n cp (i + 1) (p + 1) W hn hnb hW.g hS1 (by omega)).mono ?_
    rintro x W' ⟨⟨h1, -⟩ | ⟨t, mm, j, h1, rfl, h3⟩, hk⟩
    · unfold qMo at h1; rw [hm] at h1; cases h1
    · unfold qMo at h1
      rw [hm] at h1
      obtain ⟨rfl, rfl⟩ := Prod.mk.inj (Option.some.inj h1)
      refine ⟨_, j, rfl, .inr ⟨_, j + 1, ht, ?_, rfl, ?_, rfl, by omega⟩, hW.later hk⟩
      · rw [show p + (m + 1) = p + 1 + m by omega]; exact h3
      · rw [List.nil_append])
  have HYE : Hid (∀ (w' : World) (kk : Int) (tt : ByteArray) (nn zz : Int), onR l G p (tokF (l.drop p)) kk tt nn zz → Kept (fun _ => False) w w' → onPost w l G p (.returned (.tuple #[.agg #[.int .i64 kk, .string tt, .int .i64 nn, .int .i64 (p : Int), .int .i64 0], .int .i64 zz])) w') := hideL (fun w' kk tt nn zz h k => by
    refine ⟨?_, k⟩
    rcases h with ⟨h1, rfl, rfl, rfl⟩ | ⟨t, j, h1, h2, rfl, rfl, rfl, rfl⟩
    · exact .inl ⟨h1, zz, rfl⟩
    · exact .inr ⟨t, j, h1, h2, rfl⟩)
  generalize onPost w l G p = Q at *
  generalize onR l G p (tokF (l.drop p)) = ZR at *
  have HQ : Hid (((34 : UInt8).toNat : Int) = 34) := hideL rfl
  clear hG hS hn hd hx hS1 hr ht hm ei
  go_enter Tryd.func55, Tryd.ntmps55
  go_wp2_with (first
    | (go_at_call 71; refine (CS.out _ H0.out).mono ?_; clear CS; rintro e W1 ⟨rfl, h1⟩; have H1 := hideL h1; clear h1 H0; obtain ⟨y0, y1, y2, y3, y4, yf⟩ := row_cells5 H1.out.t; obtain ⟨x0', x1', x2', -⟩ := H1.out.g.l i _ HX.out; rw [Nat.zero_add] at x0' x1' x2'; dsimp only at x0' x1' x2'; rw [HQ.out] at x0'; clear yf)
    | (go_at_call 73; refine (CR.out _ H1.out).mono ?_; clear CR; rintro e W2 ⟨tt, j, rfl, HR, h2⟩; have hj0 : (0 : Int) ≤ (j : Int) + 1 := (by omega); have H2 := hideL h2; clear h2 H1; obtain ⟨v0, v1, v2, v3, v4, vf⟩ := row_cells5 H2.out.t; obtain ⟨z0, z1, z2, z3, z4, zf⟩ := row_cells5 H2.out.r; have vf0 := vf 0; have vf1 := vf 1; have vf2 := vf 2; have zf0 := zf 0; have zf1 := zf 1; have zf2 := zf 2; have zf3 := zf 3; have zf4 := zf 4; clear vf zf))
  refine bodyPost_ret (results_cellL rfl _ _ _ w.heap.size _ rfl (load_lex (lex_put5 (heap_putL (by omega) (heap_putL (by omega) H2.out.r))))) rfl ?_
  exact HYE.out _ _ _ _ _ HR.out (kept_put5 (kept_putL (kept_putL H2.out.k (by omega)) (by omega)) (Nat.le_refl _))
set_option maxRecDepth 20000 in
set_option maxHeartbeats 4000000 in
theorem one_quoN (l : List UInt8) (G : List Sg) (b n cp i p : Nat) (w : World) (hn : n = G.length) (hnb : n ≤ 400000000000) (hG : SgB w b G) (hS : SP l G i p) (_hcp : n ≤ cp) (r : List UInt8) (hd : l.drop p = 34 :: r) (hx : G[i]? = some ⟨34, false, p, 1⟩) (hm : qoL (l.drop (p + 1)) = none) :
    Calls Tryd.prog 55 #[.slice (some ⟨b, 0, none⟩) n cp, .int .i64 (i : Int)] w (onPost w l G p) := by
  have hS1 := (sp_plain hS 34 r hd (by decide)).2
  have hr := (drop_next hd).2
  have hin : i < n := by have := (List.getElem?_eq_some_iff.1 hx).1; omega
  have hiz : (i : Int) < (n : Int) := by omega
  have H0 := hideL (on_start (p := p) hG)
  obtain ⟨-, -, x2, -⟩ := (hG.later (Kept.alloc w (.cells #[.int .i64 0, .string ⟨#[]⟩, .int .i64 0, .int .i64 0, .int .i64 0] 59))).l i _ hx
  obtain ⟨x0, x1, -, -⟩ := H0.out.g.l i _ hx
  rw [Nat.zero_add] at x0 x1 x2
  dsimp only at x0 x1 x2
  have HX := hideL hx
  have x0 : (((w.alloc (.cells #[.int .i64 0, .string ⟨#[]⟩, .int .i64 0, .int .i64 0, .int .i64 0] 59)).alloc (.cells #[.int .i64 (-1), .string ⟨#[]⟩, .int .i64 0, .int .i64 (p : Int), .int .i64 0] 59))).cell? ⟨b, i * 4, none⟩ = some (.int .u8 34) := x0
  have CS : Hid (∀ W, OnW w W b p G → Calls Tryd.prog 71 #[.int .u8 34] W fun e w' => e = .returned (.int .i64 (-1)) ∧ OnW w w' b p G) := hideL (fun W hW => (single13_any 34 W).mono (fun _ _ q => ⟨by rw [q.1]; rfl, by rw [q.2]; exact hW⟩))
  have ht : tokF (l.drop p) = (qoL (l.drop (p + 1))).map (fun m => ⟨3, litF ((l.drop (p + 1)).take (m - 1)), 0, m + 1⟩) := by rw [hd, tokF, if_neg (by decide +kernel), if_pos (by decide +kernel), hr]
  rw [hm] at ht
  have ei : ((i + 1 : Nat) : Int) = (i : Int) + 1 := by omega
  have CR : Hid (∀ W, OnW w W b p G → Calls Tryd.prog 73 #[.slice (some ⟨b, 0, none⟩) n cp, .int .i64 ((i : Int) + 1)] W fun x W' => x = .returned (.tuple #[.string ⟨#[]⟩, .int .i64 (-1)]) ∧ OnW w W' b p G) := hideL (fun W hW => by
    rw [← ei]
    refine (quoted13_any l G b n cp (i + 1) (p + 1) W hn hnb hW.g hS1 (by omega)).mono ?_
    rintro x W' ⟨⟨h1, rfl⟩ | ⟨t, mm, j, h1, rfl, h3⟩, hk⟩
    · exact ⟨rfl, hW.later hk⟩
    · unfold qMo at h1; rw [hm] at h1; cases h1)
  have HR : Hid (onR l G p (tokF (l.drop p)) (-1) ⟨#[]⟩ 0 (-1)) := hideL (.inl ⟨ht, rfl, rfl, rfl⟩)
  have HYE : Hid (∀ (w' : World) (kk : Int) (tt : ByteArray) (nn zz : Int), onR l G p (tokF (l.drop p)) kk tt nn zz → Kept (fun _ => False) w w' → onPost w l G p (.returned (.tuple #[.agg #[.int .i64 kk, .string tt, .int .i64 nn, .int .i64 (p : Int), .int .i64 0], .int .i64 zz])) w') := hideL (fun w' kk tt nn zz h k => by
    refine ⟨?_, k⟩
    rcases h with ⟨h1, rfl, rfl, rfl⟩ | ⟨t, j, h1, h2, rfl, rfl, rfl, rfl⟩
    · exact .inl ⟨h1, zz, rfl⟩
    · exact .inr ⟨t, j, h1, h2, rfl⟩)
  generalize onPost w l G p = Q at *
  generalize onR l G p (tokF (l.drop p)) = ZR at *
  have HQ : Hid (((34 : UInt8).toNat : Int) = 34) := hideL rfl
  clear hG hS hn hd hx hS1 hr ht hm ei
  go_enter Tryd.func55, Tryd.ntmps55
  go_wp2_with (first
    | (go_at_call 71; refine (CS.out _ H0.out).mono ?_; clear CS; rintro e W1 ⟨rfl, h1⟩; have H1 := hideL h1; clear h1 H0; obtain ⟨y0, y1, y2, y3, y4, yf⟩ := row_cells5 H1.out.t; obtain ⟨x0', x1', x2', -⟩ := H1.out.g.l i _ HX.out; rw [Nat.zero_add] at x0' x1' x2'; dsimp only at x0' x1' x2'; rw [HQ.out] at x0'; clear yf)
    | (go_at_call 73; refine (CR.out _ H1.out).mono ?_; clear CR; rintro e W2 ⟨rfl, h2⟩; have H2 := hideL h2; clear h2 H1; obtain ⟨v0, v1, v2, v3, v4, vf⟩ := row_cells5 H2.out.t; obtain ⟨z0, z1, z2, z3, z4, zf⟩ := row_cells5 H2.out.r; have vf0 := vf 0; have vf1 := vf 1; have vf2 := vf 2; have zf0 := zf 0; have zf1 := zf 1; have zf2 := zf 2; have zf3 := zf 3; have zf4 := zf 4; clear vf zf))
  refine bodyPost_ret (results_cellL rfl _ _ _ w.heap.size _ rfl (load_lex (lex_put5 (heap_putL (by omega) H2.out.r)))) rfl ?_
  exact HYE.out _ _ _ _ _ HR.out (kept_put5 (kept_putL H2.out.k (by omega)) (Nat.le_refl _))
theorem one_kinds (c : UInt8) : bkB c = true ∨ (8 ≤ cl c ∧ cl c ≤ 17 ∧ sgK c = ((cl c : Nat) : Int) ∧ c ≠ 92 ∧ (∀ r, tokF (c :: r) = some ⟨cl c, [], 0, 1⟩)) ∨ c = 94 ∨ c = 64 ∨ c = 126 ∨ c = 34 ∨ (isB c = true ∧ sgK c = -1 ∧ c ≠ 94 ∧ c ≠ 64 ∧ c ≠ 126 ∧ c ≠ 34) := by
  have h1 := u8_all (fun c => bkB c || (decide (8 ≤ cl c) && decide (cl c ≤ 17) && !(isB c) && !(c == 92)) || c == 94 || c == 64 || c == 126 || c == 34 || (isB c && sgK c == -1 && !(c == 94) && !(c == 64) && !(c == 126) && !(c == 34))) (by decide +kernel) c
  simp only [Bool.or_eq_true, Bool.and_eq_true, decide_eq_true_eq, beq_iff_eq, Bool.not_eq_true', beq_eq_false_iff_ne] at h1
  rcases h1 with (((((h | ⟨⟨⟨h1, h2⟩, h3⟩, h4⟩) | h) | h) | h) | h) | ⟨⟨⟨⟨⟨h1, h2⟩, h3⟩, h4⟩, h5⟩, h6⟩
  · exact .inl h
  · refine .inr (.inl ⟨h1, h2, by unfold sgK; rw [if_pos ⟨h1, h2⟩], h4, fun r => ?_⟩)
    rw [tokF, if_neg (by rw [h3]; decide), if_neg (by omega), if_neg (by omega), if_neg (by omega), if_neg (by omega)]
  · exact .inr (.inr (.inl h))
  · exact .inr (.inr (.inr (.inl h)))
  · exact .inr (.inr (.inr (.inr (.inl h))))
  · exact .inr (.inr (.inr (.inr (.inr (.inl h)))))
  · exact .inr (.inr (.inr (.inr (.inr (.inr ⟨h1, h2, h3, h4, h5, h6⟩)))))
theorem one13_any (l : List UInt8) (G : List Sg) (b n cp i p : Nat) (w : World) (hn : n = G.length) (hnb : n ≤ 400000000000) (hG : SgB w b G) (hS : SP l G i p) (hcp : n ≤ cp) (hin : i < n) (hbl : ∀ c s, l.drop p = c :: s → bkB c = false) :
    Calls Tryd.prog 55 #[.slice (some ⟨b, 0, none⟩) n cp, .int .i64 (i : Int)] w (onPost w l G p) := by
  rcases sp_cases hS with ⟨_, h2⟩ | ⟨x, q, _, hx, _, _, hh⟩
  · omega
  · rcases hh with ⟨d, s, hd, rfl, rfl⟩ | ⟨hd, rfl, rfl⟩ | ⟨c, s, hd, h92, rfl, rfl⟩
    · exact one_letter l G b n cp i p w hn hnb hG hS hcp d s hd hx
    · exact one_run l G b n cp i p w hn hnb hG hS hcp 92 [] hd hx isB_92 (by decide +kernel) (by decide) (by decide) (by decide) (by decide)
    · rcases one_kinds c with h | ⟨_, _, h3, h4, h5⟩ | rfl | rfl | rfl | rfl | ⟨h1, h2, h3, h4, h5, h6⟩
      · rw [hbl c s hd] at h; cases h
      · exact one_single l G b n cp i p w hn hnb hG hS hcp c s (cl c) hd hx h3 (by rw [hd]; exact h5 s) h4
      · exact one_94 l G b n cp i p w hn hnb hG hS hcp s hd hx
      · exact one_64 l G b n cp i p w hn hnb hG hS hcp s hd hx
      · exact one_126 l G b n cp i p w hn hnb hG hS hcp s hd hx
      · cases hm : qoL (l.drop (p + 1)) with
        | none => exact one_quoN l G b n cp i p w hn hnb hG hS hcp s hd hx hm
        | some m => exact one_quoY l G b n cp i p w hn hnb hG hS hcp s hd hx m hm
      · exact one_run l G b n cp i p w hn hnb hG hS hcp c s hd hx h1 h2 h3 h4 h5 h6
end Go.Proofs.YtiemiphlfbaojaaDoor
namespace Go.Proofs.YtiemiphlfbaojaaDoor
open Go.ChangeShapes Go.WideShapes Go.ChangeAt Go.RowKit

/-! The document's Scan. -/
theorem Gs13.sgb {w0 w : World} {a : Option Addr} {c n : Nat} {G : List Sg} (h : Gs13 w0 w a c n G) (hn : 0 < n) : ∃ b, a = some ⟨b, 0, none⟩ ∧ n ≤ c ∧ SgB w b G := by
  rcases h.gro.own.2 with ⟨_, e2⟩ | ⟨g, cap, cur, e1, hg, hh, h1, h2, _⟩
  · omega
  · simp only [Value.slice.injEq] at e1
    obtain ⟨rfl, -, rfl⟩ := e1
    refine ⟨g, rfl, by omega, ⟨fun k y ey => ?_, cur, _, hh⟩⟩
    obtain ⟨hk, rfl⟩ := List.getElem?_eq_some_iff.1 ey
    obtain ⟨g', e', x0, x1, x2, x3⟩ := h.cell k hk
    obtain rfl : g = g' := by simpa using e'
    rw [Nat.zero_add]
    exact ⟨x0, x1, x2, x3⟩
theorem sp_mono {l : List UInt8} {G : List Sg} {k p j q : Nat} (h : SP l G k p) (h' : SP l G j q) (hlt : p < q) : k < j := by
  rcases Nat.lt_or_ge k j with hc | hc
  · exact hc
  · have := (sp_piece l G (k - j) j q p h' (by rw [show j + (k - j) = k by omega]; exact h) (by have := h.2.2; omega)).1
    omega
theorem sp_prev (l : List UInt8) (G : List Sg) : ∀ (n k p q : Nat), SP l G k p → SP l G (k + n + 1) q → ∃ y, G[k + n]? = some y ∧ y.p + y.z = q := by
  intro n
  induction n with
  | zero =>
    intro k p q h h'
    rcases sp_cases h with ⟨_, h2⟩ | ⟨x, q', _, hx, hq, hS, _⟩
    · have := h'.2.2; omega
    · refine ⟨x, hx, ?_⟩
      rw [hq]
      exact sp_uniq hS h'
  | succ n ih =>
    intro k p q h h'
    rcases sp_cases h with ⟨_, h2⟩ | ⟨x, q', _, hx, hq, hS, _⟩
    · have := h'.2.2; omega
    · obtain ⟨y, h1, h2⟩ := ih (k + 1) q' q hS (by rw [show k + 1 + n + 1 = k + (n + 1) + 1 by omega]; exact h')
      exact ⟨y, by rw [show k + (n + 1) = k + 1 + n by omega]; exact h1, h2⟩
/-- 'append(s, x)' of a token, beside lists of other types. -/
theorem wpList_pushLx {w0 W : World} {ops : Array Oper} {rest : List Oper} {o : Oper} {act : Act} {Q : Exit → Act → World → Prop} (hgd : o.guard = none) (s x : Operand)
    (ho : o.op = .call { callee := .builtin .append, args := #[s, x], argTypes := #[31, 31] }) (a : Option Addr) (c0 n : Nat) (L : List Lx) (y : Lx) (k : Int) (t : ByteArray) (nn a0 e0 : Int) (hs : act.eval s = .slice a n c0) (hG : Hid (Tks w0 W a c0 n L)) (b : Nat) (hb : b = W.heap.size) (hx : act.eval x = .slice (some ⟨b, 0, none⟩) 1 1)
    (hy : Hid (k = (y.k : Int) ∧ t = bq y.t ∧ nn = y.n ∧ a0 = (y.a : Int) ∧ e0 = (y.e : Int))) (hn : n ≤ 1000000000000)
    (h : ∀ a' c' W', Hid (Tks w0 W' a' c' (n + 1) (L ++ [y])) → Hid (KT 59 W W') → wpList Tryd.prog ops Q rest (act.put o.dst (.slice a' (n + 1) c')) W') : wpList Tryd.prog ops Q (o :: rest) act (W.alloc (.cells #[.int .i64 k, .string t, .int .i64 nn, .int .i64 a0, .int .i64 e0] 59)) := by
  subst hb
  obtain ⟨i0, hi, hz0, hz1, hz2⟩ := info_partsL Tryd.infoLx
  obtain ⟨rfl, rfl, rfl, rfl, rfl⟩ := hy.out
  refine wpList_pushT hgd s x 31 ho 59 i0 (.agg #[.int .i64 0, .string ⟨#[]⟩, .int .i64 0, .int .i64 0, .int .i64 0]) 5 48 Tryd.underlying31 hi hz0 hz1 hz2 rfl (by decide) (.slice a n c0) n (lxv L) (lv1 y) hs (hideL hG.out.gro) hx rfl (by
    intro u hu
    simp [lv1] at hu
    rcases hu with rfl | rfl | rfl | rfl | rfl <;> rfl) (hideL (by omega)) (hideL (by unfold maxLen; omega)) ?_
  intro a' c' W' g k
  refine h a' c' W' ⟨?_, by rw [List.length_append, hG.out.len]; rfl⟩ k
  rw [lxv_append]
  have e : lxv [y] = lv1 y := List.append_nil _
  rw [e]
  exact g.out
/-- What the document's Scan answers. -/
def rsPost (w : World) (Z : List Lx × Option Nat) (x : Ending) (w' : World) : Prop :=
  (Z.2 = none ∧ ∃ a c m, x = .returned (.tuple #[.slice a m c, .int .i64 0, .int .i64 0]) ∧ Tks w w' a c m Z.1) ∨ (∃ f : Nat, Z.2 = some f ∧ (∃ a c, x = .returned (.tuple #[.slice a 0 c, .int .i64 (f : Int), .int .i64 16])) ∧ Kept (fun _ => False) w w')
theorem bk_cl (c : UInt8) : bkB c = (cl c == 101) := by
  have := u8_all (fun c => bkB c == (cl c == 101)) (by decide +kernel) c
  simpa using this
theorem cm_end (L : List Lx) (p f : Nat) : cmL L (scF (f + 1) p []) = (L ++ [endT p], none) := by rw [sc_nil]; rfl
theorem tks_empty (w W : World) (k : Kept (fun _ => False) w W) : Tks w (W.alloc (.cells #[] 59)) (some ⟨W.heap.size, 0, none⟩) 0 0 [] := ⟨gro_empty w W _ _ k, rfl⟩
theorem sc_stepB {l : List UInt8} {p : Nat} (L : List Lx) {c : UInt8} {s : List UInt8} (hd : l.drop p = c :: s) (hb : cl c = 101) : cmL L (scF (l.length - p + 1) p (l.drop p)) = cmL L (scF (l.length - (p + 1) + 1) (p + 1) (l.drop (p + 1))) := by
  obtain ⟨hlt, h1⟩ := drop_next hd
  rw [hd, sc_blank _ _ _ _ hb, h1, show l.length - p = l.length - (p + 1) + 1 by omega]
theorem sc_stepT {l : List UInt8} {p : Nat} (L : List Lx) {c : UInt8} {s : List UInt8} (hd : l.drop p = c :: s) (hb : cl c ≠ 101) (t : Tk) (ht : tokF (l.drop p) = some t) : cmL L (scF (l.length - p + 1) p (l.drop p)) = cmL (L ++ [⟨t.k, t.t, t.n, p, p + t.z⟩]) (scF (l.length - (p + t.z) + 1) (p + t.z) (l.drop (p + t.z))) := by
  have hz := tok_len _ t ht
  rw [List.length_drop] at hz
  have e : (l.drop p).drop t.z = l.drop (p + t.z) := List.drop_drop
  rw [← cm_cm, hd, sc_tok _ _ _ _ hb t (hd ▸ ht), ← hd, e, sc_fuel (l.length - p) (l.length - (p + t.z) + 1) _ _ (by rw [List.length_drop]; omega) (by rw [List.length_drop]; omega)]
theorem sc_stepN {l : List UInt8} {p : Nat} (L : List Lx) {c : UInt8} {s : List UInt8} (hd : l.drop p = c :: s) (hb : cl c ≠ 101) (ht : tokF (l.drop p) = none) : (cmL L (scF (l.length - p + 1) p (l.drop p))).2 = some p := by
  rw [hd, sc_bad _ _ _ _ hb (hd ▸ ht)]
  rfl
theorem sign_ways {l : List UInt8} {p q : Nat} {x : Sg} (hh : (∃ d s, l.drop p = 92 :: d :: s ∧ x = ⟨d, true, p, 2⟩ ∧ q = p + 2) ∨ (l.drop p = [92] ∧ x = ⟨92, false, p, 1⟩ ∧ q = p + 1) ∨ (∃ c s, l.drop p = c :: s ∧ c ≠ 92 ∧ x = ⟨c, false, p, 1⟩ ∧ q = p + 1)) : (∃ s, x.l = false ∧ bkB x.c = true ∧ l.drop p = x.c :: s ∧ q = p + 1) ∨ ((x.l = true ∨ bkB x.c = false) ∧ ∃ c s, l.drop p = c :: s ∧ bkB c = false) := by
  rcases hh with ⟨d, s, hd, rfl, rfl⟩ | ⟨hd, rfl, rfl⟩ | ⟨c, s, hd, h92, rfl, rfl⟩
  · exact .inr ⟨.inl rfl, 92, _, hd, by decide⟩
  · exact .inr ⟨.inr (show bkB 92 = false by decide), 92, _, hd, by decide⟩
  · rcases Bool.eq_false_or_eq_true (bkB c) with hb | hb
    · exact .inl ⟨s, rfl, hb, hd, rfl⟩
    · exact .inr ⟨.inr hb, c, s, hd, hb⟩
/-- 'one' at a token, with the sign behind which it ends. -/
theorem one_yes (l : List UInt8) (G : List Sg) (b n cp i p : Nat) (w : World) (hn : n = G.length) (hnb : n ≤ 400000000000) (hG : SgB w b G) (hS : SP l G i p) (hcp : n ≤ cp) (hin : i < n) {c : UInt8} {s : List UInt8} (hd : l.drop p = c :: s) (hbc : bkB c = false) (t : Tk) (ht : tokF (l.drop p) = some t) :
    Calls Tryd.prog 55 #[.slice (some ⟨b, 0, none⟩) n cp, .int .i64 (i : Int)] w fun x w' => ∃ (j yp yz : Nat), x = .returned (.tuple #[.agg #[.int .i64 ((t.k : Nat) : Int), .string (bq t.t), .int .i64 t.n, .int .i64 (p : Int), .int .i64 0], .int .i64 ((j : Int) + 1)]) ∧ Hid (SP l G (j + 1) (p + t.z)) ∧ i ≤ j ∧ j < n ∧ w'.cell? ⟨b, j * 4 + 2, none⟩ = some (.int .i64 (yp : Int)) ∧ w'.cell? ⟨b, j * 4 + 3, none⟩ = some (.int .i64 (yz : Int)) ∧ Hid (yp + yz = p + t.z) ∧ yp + yz ≤ l.length ∧ Kept (fun _ => False) w w' := by
  refine (one13_any l G b n cp i p w hn hnb hG hS hcp hin (fun c' s' h => by rw [hd] at h; obtain ⟨rfl, _⟩ := List.cons.inj h; exact hbc)).mono ?_
  rintro x w' ⟨⟨h1, _⟩ | ⟨t', j, h1, h2, rfl⟩, hk⟩
  · rw [ht] at h1; cases h1
  · rw [ht] at h1
    obtain rfl := Option.some.inj h1
    have hz := tok_len _ t ht
    rw [List.length_drop] at hz
    have hlt := sp_mono hS h2 (by omega)
    obtain ⟨j, rfl⟩ : ∃ j', j = j' + 1 := ⟨j - 1, by omega⟩
    obtain ⟨y, hy, hq⟩ := sp_prev l G (j - i) i p (p + t.z) hS (by rw [show i + (j - i) + 1 = j + 1 by omega]; exact h2)
    rw [show i + (j - i) = j by omega] at hy
    obtain ⟨-, -, y2, y3⟩ := (hG.later hk).l j y hy
    rw [Nat.zero_add] at y2 y3
    have hjn := h2.2.2
    exact ⟨j, y.p, y.z, rfl, h2, by omega, by omega, y2, y3, hq, by have := h2.2.1; omega, hk⟩
theorem one_no (l : List UInt8) (G : List Sg) (b n cp i p : Nat) (w : World) (hn : n = G.length) (hnb : n ≤ 400000000000) (hG : SgB w b G) (hS : SP l G i p) (hcp : n ≤ cp) (hin : i < n) {c : UInt8} {s : List UInt8} (hd : l.drop p = c :: s) (hbc : bkB c = false) (ht : tokF (l.drop p) = none) :
    Calls Tryd.prog 55 #[.slice (some ⟨b, 0, none⟩) n cp, .int .i64 (i : Int)] w fun x w' => ∃ (z : Int), x = .returned (.tuple #[.agg #[.int .i64 (-1), .string ⟨#[]⟩, .int .i64 0, .int .i64 (p : Int), .int .i64 0], .int .i64 z]) ∧ Kept (fun _ => False) w w' := by
  refine (one13_any l G b n cp i p w hn hnb hG hS hcp hin (fun c' s' h => by rw [hd] at h; obtain ⟨rfl, _⟩ := List.cons.inj h; exact hbc)).mono ?_
  rintro x w' ⟨⟨_, z, rfl⟩ | ⟨t', j, h1, h2, rfl⟩, hk⟩
  · exact ⟨z, rfl, hk⟩
  · rw [ht] at h1; cases h1
end Go.Proofs.YtiemiphlfbaojaaDoor
namespace Go.Proofs.YtiemiphlfbaojaaDoor
open Go.ChangeShapes Go.WideShapes Go.ChangeAt Go.RowKit

set_option maxRecDepth 20000 in
set_option maxHeartbeats 4000000 in
theorem rscan_cons (l : List UInt8) (w : World) (hl : l.length ≤ 400000000000) (h0 : l ≠ []) : Calls Tryd.prog 25 #[.string (bq l)] w (rsPost w (scanF l)) := by
  obtain ⟨G, hGd⟩ : ∃ G, G = sgp 0 l := ⟨_, rfl⟩
  obtain ⟨N, hN⟩ : ∃ N, N = G.length := ⟨_, rfl⟩
  obtain ⟨Z, hZ⟩ : ∃ Z, Z = scanF l := ⟨_, rfl⟩
  have HS0 : Hid (SP l G 0 0) := hideL (by rw [hGd]; exact sp_zero l)
  have hNp : 0 < N := by
    rcases sp_cases HS0.out with ⟨h1, _⟩ | ⟨_, _, h1, _⟩
    · cases l with
      | nil => exact absurd rfl h0
      | cons c l => simp at h1
    · omega
  have hnb : N ≤ 400000000000 := by rw [hN, hGd]; exact Nat.le_trans (sgp_len 0 l) hl
  have HZ0 : Hid (Z = cmL [] (scF (l.length - 0 + 1) 0 (l.drop 0))) := hideL (by rw [hZ]; rfl)
  have CS := hideL (fun W => signs_any l W hl)
  rw [← hGd, ← hN] at CS
  unfold sgPost at CS
  have HN := hideL hN
  have CB := hideL rblank_any
  have CY := hideL (fun (b cp i p : Nat) (W : World) (hG : SgB W b G) (hS : SP l G i p) (hcp : N ≤ cp) (hin : i < N) (c : UInt8) (s : List UInt8) (hd : l.drop p = c :: s) (hbc : bkB c = false) (t : Tk) (ht : tokF (l.drop p) = some t) => one_yes l G b N cp i p W hN hnb hG hS hcp hin hd hbc t ht)
  have CN := hideL (fun (b cp i p : Nat) (W : World) (hG : SgB W b G) (hS : SP l G i p) (hcp : N ≤ cp) (hin : i < N) (c : UInt8) (s : List UInt8) (hd : l.drop p = c :: s) (hbc : bkB c = false) (ht : tokF (l.drop p) = none) => one_no l G b N cp i p W hN hnb hG hS hcp hin hd hbc ht)
  have HNO : Hid (∀ (f : Nat) a c w', Z.2 = some f → Kept (fun _ => False) w w' → rsPost w Z (.returned (.tuple #[.slice a 0 c, .int .i64 (f : Int), .int .i64 16])) w') := hideL (fun f a c w' h k => .inr ⟨f, h, ⟨a, c, rfl⟩, k⟩)
  have HYE : Hid (∀ a c m w' L, Z = (L, none) → Tks w w' a c m L → rsPost w Z (.returned (.tuple #[.slice a m c, .int .i64 0, .int .i64 0])) w') := hideL (fun a c m w' L h k => .inl ⟨by rw [h], a, c, m, rfl, by rw [h]; exact k⟩)
  rw [← hZ]
  generalize rsPost w Z = Q at *
  have hsz : (bq l).size = l.length := bq_size l
  generalize bq l = str at *
  obtain ⟨nl, hnl⟩ : ∃ nl, nl = l.length := ⟨_, rfl⟩
  rw [← hnl] at hsz hl
  have HNL := hideL hnl
  clear hN hGd hZ h0 hnl
  go_enter Tryd.func25, Tryd.ntmps25
  go_wp2_with (go_at_call 53; refine (CS.out _).mono ?_; clear CS; rintro e W9 ⟨a9, cp, rfl, G9⟩; obtain ⟨b, rfl, hcp, hB9⟩ := G9.sgb hNp; have HT := hideL (tks_empty w W9 G9.gro.kept); have HB := hideL (hB9.later (Kept.alloc W9 (.cells #[] 59))); clear G9 hB9)
  go_loopw [6, 7] (fun ov iv wr => ∃ (k p m : Nat) (a : Option Addr) (c : Nat) (L : List Lx), iv = .int .i64 k ∧ ov = .slice a m c ∧ k ≤ N ∧ m ≤ k ∧ Hid (Tks w wr a c m L) ∧ Hid (SgB wr b G) ∧ Hid (SP l G k p) ∧ Hid (Z = cmL L (scF (l.length - p + 1) p (l.drop p)))) (fun _ iv _ => N - (intOf iv).toNat)
  case atStart => exact ⟨0, 0, 0, _, _, [], rfl, rfl, by omega, by omega, HT, HB, HS0, HZ0⟩
  case round =>
    obtain ⟨k, p, m, a, c, L, rfl, rfl, hk, hmk, HTr, HGr, HSp, HZ⟩ := hrel
    clear HT HB HS0 HZ0
    rcases sp_cases HSp.out with ⟨h1, h2⟩ | ⟨x, q, hkG, hx, hq, hSn, hh⟩
    · have hkn : k = N := by have := HN.out; omega
      have hkz : ¬ (k : Int) < (N : Int) := by omega
      have HZe : Hid (Z = (L ++ [endT nl], none)) := hideL (by rw [HZ.out, List.drop_of_length_le (by omega), cm_end, h1, HNL.out])
      have HE : Hid ((0 : Int) = ((endT nl).k : Int) ∧ (⟨#[]⟩ : ByteArray) = bq (endT nl).t ∧ (0 : Int) = (endT nl).n ∧ (nl : Int) = ((endT nl).a : Int) ∧ (nl : Int) = ((endT nl).e : Int)) := hideL ⟨rfl, rfl, rfl, rfl, rfl⟩
      clear HZ h1 h2 hkn CB CY CN HNO HSp HGr
      go_wp2_with (at_builtin; refine wpList_pushLx rfl _ _ rfl _ _ m L (endT nl) _ _ _ _ _ rfl HTr _ (by first | rfl | simp) rfl HE (by omega) ?_; intro a4 c4 W4 H4 K4; clear HTr K4)
      go_ret3
      exact HYE.out _ _ _ _ _ HZe.out H4.out
    · obtain ⟨xc, xl, xp, xz⟩ := x
      have hkn : k < N := by have := HN.out; omega
      have hkz : (k : Int) < (N : Int) := by omega
      obtain ⟨x0, x1, x2, x3⟩ := HGr.out.l k _ hx
      rw [Nat.zero_add] at x0 x1 x2 x3
      dsimp only at x0 x1 x2 x3
      rcases sign_ways hh with ⟨s, hxl, hbk, hd, hq1⟩ | ⟨hxl, ch, s, hd, hbk⟩
      · dsimp only at hxl hbk hd
        subst hxl hq1
        have HSn := hideL hSn
        have HZn : Hid (Z = cmL L (scF (l.length - (p + 1) + 1) (p + 1) (l.drop (p + 1)))) := hideL (by rw [HZ.out, sc_stepB L hd (by rw [bk_cl] at hbk; simpa using hbk)])
        have C1 := hideL (fun W => CB.out xc W)
        rw [hbk] at C1
        have hxb : xc.toNat < 256 := xc.toNat_lt
        generalize xc.toNat = qx at x0 C1 hxb
        clear hh hx hq hSn hd hbk HZ HSp CB CY CN HNO HYE x2 x3
        go_wp2_with (go_at_call 54; refine (C1.out _).mono ?_; clear C1; rintro e w6 ⟨rfl, e6⟩; subst e6)
        go_roundw
        case rel => exact ⟨k + 1, p + 1, m, a, c, L, by go_num, rfl, by omega, by omega, HTr, HGr, HSn, HZn⟩
        case measure => simp [intOf] <;> omega
      · dsimp only at hxl
        have C0 := hideL (fun W => CB.out xc W)
        have hcl : cl ch ≠ 101 := by intro e; rw [bk_cl, e] at hbk; cases hbk
        have hxb : xc.toNat < 256 := xc.toNat_lt
        cases ht : tokF (l.drop p) with
        | none =>
          have hzn : Z.2 = some p := by rw [HZ.out]; exact sc_stepN L hd hcl ht
          have HZN := hideL hzn
          have C1 := hideL (CN.out b cp k p wr HGr.out HSp.out hcp hkn ch s hd hbk ht)
          have HKr := hideL HTr.out.gro.kept
          have hxl2 : xl = false → bkB xc = false := by intro e; rcases hxl with h | h; rw [e] at h; cases h; exact h
          clear hh hx hq hSn hd hbk HZ HSp CB CY CN HYE x2 x3 ht hcl hzn hxl HTr
          cases xl with
          | true =>
            clear C0 hxl2
            generalize xc.toNat = qx at x0 hxb
            go_wp2_with (go_at_call 55; refine C1.out.mono ?_; clear C1; rintro e w6 ⟨z6, rfl, k6⟩; have K6 := hideL k6; clear k6)
            obtain ⟨-, -, -, d3, -⟩ := lx_new w6 (.int .i64 (-1)) (.string ⟨#[]⟩) (.int .i64 0) (.int .i64 (p : Int)) (.int .i64 0)
            have KV := hideL ((HKr.out.trans K6.out (fun _ f => f.elim)).trans (Kept.alloc w6 (.cells #[.int .i64 (-1), .string ⟨#[]⟩, .int .i64 0, .int .i64 (p : Int), .int .i64 0] 59)) (fun _ f => f.elim))
            generalize w6.alloc (.cells #[.int .i64 (-1), .string ⟨#[]⟩, .int .i64 0, .int .i64 (p : Int), .int .i64 0] 59) = V at *
            generalize w6.heap.size = b8 at *
            have d3a := (Kept.alloc V (.cells #[] 59)).cell d3 (fun f => f)
            clear HKr K6 x0 x1
            go_region
            all_goals go_wp2
            all_goals go_ret3
            all_goals exact HNO.out p _ _ _ HZN.out (KV.out.trans ((Kept.drew V).trans (Kept.alloc _ _) (fun _ f => f.elim)) (fun _ f => f.elim))
          | false =>
            rw [hxl2 rfl] at C0
            clear hxl2
            generalize xc.toNat = qx at x0 C0 hxb
            go_wp2_with (first | (go_at_call 54; refine (C0.out _).mono ?_; clear C0; rintro e w5 ⟨rfl, e5⟩; subst e5) | (go_at_call 55; refine C1.out.mono ?_; clear C1; rintro e w6 ⟨z6, rfl, k6⟩; have K6 := hideL k6; clear k6))
            obtain ⟨-, -, -, d3, -⟩ := lx_new w6 (.int .i64 (-1)) (.string ⟨#[]⟩) (.int .i64 0) (.int .i64 (p : Int)) (.int .i64 0)
            have KV := hideL ((HKr.out.trans K6.out (fun _ f => f.elim)).trans (Kept.alloc w6 (.cells #[.int .i64 (-1), .string ⟨#[]⟩, .int .i64 0, .int .i64 (p : Int), .int .i64 0] 59)) (fun _ f => f.elim))
            generalize w6.alloc (.cells #[.int .i64 (-1), .string ⟨#[]⟩, .int .i64 0, .int .i64 (p : Int), .int .i64 0] 59) = V at *
            generalize w6.heap.size = b8 at *
            have d3a := (Kept.alloc V (.cells #[] 59)).cell d3 (fun f => f)
            clear HKr K6 x0 x1
            go_region
            all_goals go_wp2
            all_goals go_ret3
            all_goals exact HNO.out p _ _ _ HZN.out (KV.out.trans ((Kept.drew V).trans (Kept.alloc _ _) (fun _ f => f.elim)) (fun _ f => f.elim))
        | some t =>
          have HZT := hideL (HZ.out.trans (sc_stepT L hd hcl t ht))
          have C1 := hideL (CY.out b cp k p wr HGr.out HSp.out hcp hkn ch s hd hbk t ht)
          have htz := tok_len _ t ht
          have hpl : p ≤ l.length := HSp.out.2.1
          have hpb : p ≤ 400000000000 := by have := HNL.out; omega
          have hxl2 : xl = false → bkB xc = false := by intro e; rcases hxl with h | h; rw [e] at h; cases h; exact h
          obtain ⟨tk, tt, tn, tz⟩ := t
          dsimp only at C1 HZT
          clear hh hx hq hSn hd hbk HZ HSp CB CY CN HNO HYE x2 x3 ht hcl hxl htz hpl
          cases xl with
          | true =>
            clear C0 hxl2
            generalize xc.toNat = qx at x0 hxb
            go_wp2_with (go_at_call 55; refine C1.out.mono ?_; clear C1; rintro e w6 ⟨j, yp, yz, rfl, HSj, hkj, hjn, y2, y3, HYQ, hyb, k6⟩; have K6 := hideL k6; have hjz : (j : Int) < (N : Int) := (by omega); have htk : ¬ (tk : Int) < 0 := (by omega); clear k6)
            have hV := heap_alloc_new w6 (.cells #[.int .i64 (tk : Int), .string (bq tt), .int .i64 tn, .int .i64 (p : Int), .int .i64 0] 59)
            have KA := Kept.alloc w6 (.cells #[.int .i64 (tk : Int), .string (bq tt), .int .i64 tn, .int .i64 (p : Int), .int .i64 0] 59)
            have y2v := KA.cell y2 (fun f => f)
            have y3v := KA.cell y3 (fun f => f)
            have KV := hideL (K6.out.trans KA (fun _ f => f.elim))
            have KW := hideL KA
            clear KA y2 y3 x0 x1
            generalize hVe : w6.alloc (.cells #[.int .i64 (tk : Int), .string (bq tt), .int .i64 tn, .int .i64 (p : Int), .int .i64 0] 59) = V at hV y2v y3v KV KW ⊢
            obtain ⟨d0, d1, d2, d3, d4⟩ := (show V.cell? ⟨w6.heap.size, 0, none⟩ = some (.int .i64 (tk : Int)) ∧ V.cell? ⟨w6.heap.size, 1, none⟩ = some (.string (bq tt)) ∧ V.cell? ⟨w6.heap.size, 2, none⟩ = some (.int .i64 tn) ∧ V.cell? ⟨w6.heap.size, 3, none⟩ = some (.int .i64 (p : Int)) ∧ V.cell? ⟨w6.heap.size, 4, none⟩ = some (.int .i64 0) by rw [← hVe]; exact lx_new w6 _ _ _ _ _)
            have f4 : V.frozen? ⟨w6.heap.size, 4, none⟩ = false := by simp [World.frozen?, hV]
            have hbw := hideL K6.out.size
            have hyb2 : yp + yz ≤ 400000000000 := by have := HNL.out; omega
            have HYZ := hideL (show (tk : Int) = ((⟨tk, tt, tn, p, p + tz⟩ : Lx).k : Int) ∧ bq tt = bq (⟨tk, tt, tn, p, p + tz⟩ : Lx).t ∧ tn = (⟨tk, tt, tn, p, p + tz⟩ : Lx).n ∧ (p : Int) = ((⟨tk, tt, tn, p, p + tz⟩ : Lx).a : Int) ∧ (yp : Int) + (yz : Int) = ((⟨tk, tt, tn, p, p + tz⟩ : Lx).e : Int) from ⟨rfl, rfl, rfl, rfl, by have := HYQ.out; show (yp : Int) + (yz : Int) = ((p + tz : Nat) : Int); omega⟩)
            clear hVe KW
            generalize w6.heap.size = b8 at *
            have HVV := hideL hV
            clear hV
            go_region
            have hX := heap_setCell_same V b8 4 _ _ (.int .i64 ((yp : Int) + (yz : Int))) HVV.out
            have hX : (V.setCell ⟨b8, 4, none⟩ (.int .i64 ((yp : Int) + (yz : Int)))).drew.heap[b8]? = some (.cells #[.int .i64 (tk : Int), .string (bq tt), .int .i64 tn, .int .i64 (p : Int), .int .i64 ((yp : Int) + (yz : Int))] 59 (0, 0)) := hX
            have KX := (kept_putL (o := 4) (v := .int .i64 ((yp : Int) + (yz : Int))) KV.out hbw.out).trans (Kept.drew _) (fun _ f => f.elim)
            have HTX := hideL (HTr.out.later KX)
            have HGX := hideL (HGr.out.later KX)
            obtain ⟨e0, e1, e2, e3, e4, -⟩ := row_cells5 hX
            clear HTr HGr KX KV hX d0 d1 d2 d3 d4 f4 y2v y3v K6 HVV hbw HYQ hyb
            generalize (V.setCell ⟨b8, 4, none⟩ (.int .i64 ((yp : Int) + (yz : Int)))).drew = X at *
            go_wp2_with (at_builtin; refine wpList_pushLx rfl _ _ rfl _ _ m L ⟨tk, tt, tn, p, p + tz⟩ _ _ _ _ _ rfl HTX _ (by first | rfl | simp) rfl HYZ (by omega) ?_; intro a4 c4 W4 H4 K4; have HG4 := hideL (HGX.out.other K4.out (by decide)); clear HTX K4 HGX)
            go_roundw
            case rel => exact ⟨j + 1, p + tz, m + 1, a4, c4, _, by go_num, rfl, by omega, by omega, H4, HG4, HSj, HZT⟩
            case measure => simp [intOf] <;> omega
          | false =>
            rw [hxl2 rfl] at C0
            clear hxl2
            generalize xc.toNat = qx at x0 C0 hxb
            go_wp2_with (first | (go_at_call 54; refine (C0.out _).mono ?_; clear C0; rintro e w5 ⟨rfl, e5⟩; subst e5) | (go_at_call 55; refine C1.out.mono ?_; clear C1; rintro e w6 ⟨j, yp, yz, rfl, HSj, hkj, hjn, y2, y3, HYQ, hyb, k6⟩; have K6 := hideL k6; have hjz : (j : Int) < (N : Int) := (by omega); have htk : ¬ (tk : Int) < 0 := (by omega); clear k6))
            have hV := heap_alloc_new w6 (.cells #[.int .i64 (tk : Int), .string (bq tt), .int .i64 tn, .int .i64 (p : Int), .int .i64 0] 59)
            have KA := Kept.alloc w6 (.cells #[.int .i64 (tk : Int), .string (bq tt), .int .i64 tn, .int .i64 (p : Int), .int .i64 0] 59)
            have y2v := KA.cell y2 (fun f => f)
            have y3v := KA.cell y3 (fun f => f)
            have KV := hideL (K6.out.trans KA (fun _ f => f.elim))
            have KW := hideL KA
            clear KA y2 y3 x0 x1
            generalize hVe : w6.alloc (.cells #[.int .i64 (tk : Int), .string (bq tt), .int .i64 tn, .int .i64 (p : Int), .int .i64 0] 59) = V at hV y2v y3v KV KW ⊢
            obtain ⟨d0, d1, d2, d3, d4⟩ := (show V.cell? ⟨w6.heap.size, 0, none⟩ = some (.int .i64 (tk : Int)) ∧ V.cell? ⟨w6.heap.size, 1, none⟩ = some (.string (bq tt)) ∧ V.cell? ⟨w6.heap.size, 2, none⟩ = some (.int .i64 tn) ∧ V.cell? ⟨w6.heap.size, 3, none⟩ = some (.int .i64 (p : Int)) ∧ V.cell? ⟨w6.heap.size, 4, none⟩ = some (.int .i64 0) by rw [← hVe]; exact lx_new w6 _ _ _ _ _)
            have f4 : V.frozen? ⟨w6.heap.size, 4, none⟩ = false := by simp [World.frozen?, hV]
            have hbw := hideL K6.out.size
            have hyb2 : yp + yz ≤ 400000000000 := by have := HNL.out; omega
            have HYZ := hideL (show (tk : Int) = ((⟨tk, tt, tn, p, p + tz⟩ : Lx).k : Int) ∧ bq tt = bq (⟨tk, tt, tn, p, p + tz⟩ : Lx).t ∧ tn = (⟨tk, tt, tn, p, p + tz⟩ : Lx).n ∧ (p : Int) = ((⟨tk, tt, tn, p, p + tz⟩ : Lx).a : Int) ∧ (yp : Int) + (yz : Int) = ((⟨tk, tt, tn, p, p + tz⟩ : Lx).e : Int) from ⟨rfl, rfl, rfl, rfl, by have := HYQ.out; show (yp : Int) + (yz : Int) = ((p + tz : Nat) : Int); omega⟩)
            clear hVe KW
            generalize w6.heap.size = b8 at *
            have HVV := hideL hV
            clear hV
            go_region
            have hX := heap_setCell_same V b8 4 _ _ (.int .i64 ((yp : Int) + (yz : Int))) HVV.out
            have hX : (V.setCell ⟨b8, 4, none⟩ (.int .i64 ((yp : Int) + (yz : Int)))).drew.heap[b8]? = some (.cells #[.int .i64 (tk : Int), .string (bq tt), .int .i64 tn, .int .i64 (p : Int), .int .i64 ((yp : Int) + (yz : Int))] 59 (0, 0)) := hX
            have KX := (kept_putL (o := 4) (v := .int .i64 ((yp : Int) + (yz : Int))) KV.out hbw.out).trans (Kept.drew _) (fun _ f => f.elim)
            have HTX := hideL (HTr.out.later KX)
            have HGX := hideL (HGr.out.later KX)
            obtain ⟨e0, e1, e2, e3, e4, -⟩ := row_cells5 hX
            clear HTr HGr KX KV hX d0 d1 d2 d3 d4 f4 y2v y3v K6 HVV hbw HYQ hyb
            generalize (V.setCell ⟨b8, 4, none⟩ (.int .i64 ((yp : Int) + (yz : Int)))).drew = X at *
            go_wp2_with (at_builtin; refine wpList_pushLx rfl _ _ rfl _ _ m L ⟨tk, tt, tn, p, p + tz⟩ _ _ _ _ _ rfl HTX _ (by first | rfl | simp) rfl HYZ (by omega) ?_; intro a4 c4 W4 H4 K4; have HG4 := hideL (HGX.out.other K4.out (by decide)); clear HTX K4 HGX)
            go_roundw
            case rel => exact ⟨j + 1, p + tz, m + 1, a4, c4, _, by go_num, rfl, by omega, by omega, H4, HG4, HSj, HZT⟩
            case measure => simp [intOf] <;> omega
end Go.Proofs.YtiemiphlfbaojaaDoor
namespace Go.Proofs.YtiemiphlfbaojaaDoor
open Go.ChangeShapes Go.WideShapes Go.ChangeAt Go.RowKit

/-! The document's Scan, any text. -/
set_option maxRecDepth 20000 in
set_option maxHeartbeats 4000000 in
theorem rscan_nil (w : World) : Calls Tryd.prog 25 #[.string (bq [])] w (rsPost w (scanF [])) := by
  have e : scanF [] = ([endT 0], none) := by unfold scanF; rw [sc_nil]; rfl
  rw [e]
  have CS := hideL (fun W => signs_any [] W (by simp))
  have HP : Hid (∀ a c w', Tks w w' a c 1 [endT 0] → rsPost w ([endT 0], none) (.returned (.tuple #[.slice a 1 c, .int .i64 0, .int .i64 0])) w') := hideL (fun a c w' h => .inl ⟨rfl, a, c, 1, rfl, h⟩)
  have HE : Hid ((0 : Int) = ((endT 0).k : Int) ∧ (⟨#[]⟩ : ByteArray) = bq (endT 0).t ∧ (0 : Int) = (endT 0).n ∧ (0 : Int) = ((endT 0).a : Int) ∧ (0 : Int) = ((endT 0).e : Int)) := hideL ⟨rfl, rfl, rfl, rfl, rfl⟩
  have hs0 : (bq []).size = 0 := rfl
  generalize rsPost w ([endT 0], none) = Q at *
  generalize bq [] = s at *
  have h0 : (sgp 0 []).length = 0 := rfl
  rw [h0] at CS
  unfold sgPost at CS
  clear e h0
  go_enter Tryd.func25, Tryd.ntmps25
  go_wp2_with (go_at_call 53; refine (CS.out _).mono ?_; clear CS; rintro e W9 ⟨a9, c9, rfl, G9⟩; have HT := hideL (tks_empty w W9 G9.gro.kept); clear G9)
  go_loopw [6, 7] (fun ov iv wr => ∃ a c, iv = .int .i64 0 ∧ ov = .slice a 0 c ∧ Hid (Tks w wr a c 0 [])) (fun _ _ _ => 0)
  case atStart => exact ⟨_, _, rfl, rfl, HT⟩
  case round =>
    obtain ⟨a, c, rfl, rfl, HTr⟩ := hrel
    clear HT
    go_wp2_with (at_builtin; refine wpList_pushLx rfl _ _ rfl _ _ 0 [] (endT 0) _ _ _ _ _ rfl HTr _ (by first | rfl | simp) rfl HE (by omega) ?_; intro a4 c4 W4 H4 K4; clear HTr K4)
    go_ret3
    exact HP.out _ _ _ H4.out
theorem rscan_any (l : List UInt8) (w : World) (hl : l.length ≤ 400000000000) : Calls Tryd.prog 25 #[.string (bq l)] w (rsPost w (scanF l)) := by
  cases l with
  | nil => exact rscan_nil w
  | cons c l => exact rscan_cons (c :: l) w hl (by simp)
theorem rscan_list (l : List UInt8) (L : List Lx) (n : Nat) (w : World) (hl : l.length ≤ 400000000000) (h : scanF l = (L, none)) (hn : n = L.length) (h0 : 0 < n) :
    Calls Tryd.prog 25 #[.string (bq l)] w fun x w' => (∃ g c, x = .returned (.tuple #[.slice (some ⟨g, 0, none⟩) n c, .int .i64 0, .int .i64 0]) ∧ ∀ k y, L[k]? = some y → LxAt w' g k y) ∧ Kept (fun _ => False) w w' := by
  refine (rscan_any l w hl).mono ?_
  rw [h]
  rintro x w' (⟨_, a, c, m, rfl, hT⟩ | ⟨f, hf, _⟩)
  · have hT : Tks w w' a c m L := hT
    have hm : m = n := by rw [hn]; exact hT.len
    subst hm
    obtain ⟨g, rfl, hc⟩ := hT.ats h0
    refine ⟨⟨g, c, rfl, fun k y hy => ?_⟩, hT.gro.kept⟩
    obtain ⟨hk2, e⟩ := List.getElem?_eq_some_iff.1 hy
    rw [← e]
    exact hc k hk2
  · cases hf
theorem rscan_some (l : List UInt8) (w : World) (hl : l.length ≤ 400000000000) (f : Nat) (h : (scanF l).2 = some f) :
    Calls Tryd.prog 25 #[.string (bq l)] w fun x w' => (∃ a c, x = .returned (.tuple #[.slice a 0 c, .int .i64 (f : Int), .int .i64 16])) ∧ Kept (fun _ => False) w w' := by
  refine (rscan_any l w hl).mono ?_
  rintro x w' (⟨h1, _⟩ | ⟨f', hf, ⟨a, c, rfl⟩, hk⟩)
  · rw [h] at h1; cases h1
  · rw [h] at hf
    obtain rfl := Option.some.inj hf
    exact ⟨⟨a, c, rfl⟩, hk⟩
end Go.Proofs.YtiemiphlfbaojaaDoor
