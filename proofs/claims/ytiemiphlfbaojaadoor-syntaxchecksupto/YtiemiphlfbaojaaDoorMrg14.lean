import Derived.Test.YtiemiphlfbaojaaDoorMrg2
import Derived.BigRegion
namespace Go.Proofs.YtiemiphlfbaojaaDoor
open Go.ChangeShapes Go.WideShapes Go.ChangeAt Go.RowKit

/-! The parser at its block: its row, its place, its depth. -/
structure Pr (w0 w : World) (b rc : Nat) (a0 : Option Addr) (R : List Tn) (p d : Nat) : Prop where
  blk : w.heap[b]? = some (.cells #[.slice a0 R.length rc, .int .i64 (p : Int), .int .i64 (d : Int)] 64 (0, 0))
  kept : Kept (fun _ => False) w0 w
  hb : w0.heap.size ≤ b
  row : Rw w0 a0 R
  hr : R.length ≤ 500000000000
  hp : p < R.length
variable {w0 w w' : World} {b rc : Nat} {a0 : Option Addr} {R : List Tn} {p d : Nat}
theorem Pr.cells (h : Pr w0 w b rc a0 R p d) : w.cell? ⟨b, 0, none⟩ = some (.slice a0 R.length rc) ∧ w.cell? ⟨b, 1, none⟩ = some (.int .i64 (p : Int)) ∧ w.cell? ⟨b, 2, none⟩ = some (.int .i64 (d : Int)) := by
  have hc := fun j => cell_of_row w b j _ _ _ h.blk
  refine ⟨?_, ?_, ?_⟩ <;> (rw [hc]; rfl)
theorem Pr.free (h : Pr w0 w b rc a0 R p d) (j : Nat) : w.frozen? ⟨b, j, none⟩ = false := by simp [World.frozen?, h.blk]
theorem Pr.later (h : Pr w0 w b rc a0 R p d) (k : Kept (fun _ => False) w w') : Pr w0 w' b rc a0 R p d := ⟨k.heap h.blk (fun f => f), h.kept.trans k (fun _ f => f.elim), h.hb, h.row, h.hr, h.hp⟩
theorem Pr.setP (h : Pr w0 w b rc a0 R p d) (x : Nat) (z : Int) (hz : z = (x : Int)) (hx : x < R.length) : Pr w0 (w.setCell ⟨b, 1, none⟩ (.int .i64 z)) b rc a0 R x d := by
  subst hz
  exact ⟨heap_setCell_same w b 1 _ _ _ h.blk, h.kept.trans (Kept.setCell _ _ _) (fun i hi => .inr (by have := h.hb; simp only at hi; omega)), h.hb, h.row, h.hr, hx⟩
theorem Pr.setD (h : Pr w0 w b rc a0 R p d) (x : Nat) (z : Int) (hz : z = (x : Int)) : Pr w0 (w.setCell ⟨b, 2, none⟩ (.int .i64 z)) b rc a0 R p x := by
  subst hz
  exact ⟨heap_setCell_same w b 2 _ _ _ h.blk, h.kept.trans (Kept.setCell _ _ _) (fun i hi => .inr (by have := h.hb; simp only at hi; omega)), h.hb, h.row, h.hr, h.hp⟩
theorem Pr.at' (h : Pr w0 w b rc a0 R p d) {q : Nat} (hq : q < R.length) : ∃ g o, a0 = some ⟨g, o, none⟩ ∧ TnAt w g (o + q * 5) (tkA R q) := by
  have hne : R ≠ [] := by intro e; rw [e] at hq; simp at hq
  obtain ⟨g, o, e0, hc⟩ := h.row hne
  have hy : R[q]? = some R[q] := List.getElem?_eq_getElem hq
  have et : tkA R q = R[q] := by unfold tkA; rw [hy]; rfl
  rw [et]
  exact ⟨g, o, e0, (hc _ _ hy).later h.kept⟩
set_option maxRecDepth 20000 in
set_option maxHeartbeats 4000000 in
theorem ptoken_any (h : Pr w0 w b rc a0 R p d) :
    Calls Tryd.prog 78 #[.pointer (some ⟨b, 0, none⟩)] w fun e w' => e = .returned (tkA R p).v ∧ Kept (fun _ => False) w w' := by
  have KA := Kept.alloc w (.cells #[.int .i64 0, .string ⟨#[]⟩, .int .i64 0, .int .i64 0, .int .i64 0] 59)
  obtain ⟨x0, x1, -⟩ := (h.later KA).cells
  have hp := h.hp
  have hr := h.hr
  have hnew := heap_alloc_new w (.cells #[.int .i64 0, .string ⟨#[]⟩, .int .i64 0, .int .i64 0, .int .i64 0] 59)
  obtain ⟨g, o, e0, hc⟩ := h.at' hp
  obtain ⟨y0, y1, y2, y3, y4⟩ := hc.later KA
  generalize tkA R p = Y at *
  obtain ⟨yk, yt, yn, ya, ye⟩ := Y
  dsimp only at y0 y1 y2 y3 y4
  subst e0
  have hz : (p : Int) < (R.length : Int) := by omega
  have HK := hideL KA
  generalize R.length = n at *
  clear h hc hp
  go_enter Tryd.func78, Tryd.ntmps78
  go_wp2_with fail
  clear KA
  generalize w.alloc (.cells #[.int .i64 0, .string ⟨#[]⟩, .int .i64 0, .int .i64 0, .int .i64 0] 59) = V at *
  generalize hge : w.heap.size = g9 at hnew ⊢
  have HG9 : Hid (w.heap.size ≤ g9) := hideL (by omega)
  clear hge
  have HN2 := hideL hnew
  obtain ⟨d0, d1, d2, d3, d4, df⟩ := rowS_cells5 hnew
  have f0 := df 0
  have f1 := df 1
  have f2 := df 2
  have f3 := df 3
  have f4 := df 4
  clear df hnew
  go_region
  go_wp2_with fail
  refine bodyPost_ret (results_cellS rfl _ _ _ g9 _ rfl (load_lexS (by exact lexS_put5 HN2.out))) rfl ?_
  exact ⟨rfl, (keptS_put5 HK.out HG9.out).trans (Kept.drew _) (fun _ f => f.elim)⟩
set_option maxRecDepth 20000 in
set_option maxHeartbeats 4000000 in
theorem pis_any (h : Pr w0 w b rc a0 R p d) (k : Nat) :
    Calls Tryd.prog 67 #[.pointer (some ⟨b, 0, none⟩), .int .i64 (k : Int)] w fun e w' => e = .returned (.bool (isK k (tkA R p))) ∧ Kept (fun _ => False) w w' := by
  have C1 := hideL (ptoken_any h)
  have hb : ((tkA R p).k == (k : Int)) = isK k (tkA R p) := rfl
  generalize isK k (tkA R p) = B at *
  generalize tkA R p = Y at *
  obtain ⟨yk, yt, yn, ya, ye⟩ := Y
  unfold Tn.v at C1
  dsimp only at C1 hb
  have F0 := fun W => field_lx0 W yk yn ya ye yt
  clear h
  cases B
  all_goals
    go_enter Tryd.func67, Tryd.ntmps67
    go_wp2_with (go_at_call 78; refine C1.out.mono ?_; clear C1; rintro e W1 ⟨rfl, k1⟩; have K1 := hideL k1; clear k1)
    go_ret
    exact ⟨rfl, K1.out⟩
set_option maxRecDepth 20000 in
set_option maxHeartbeats 4000000 in
theorem ptake_no (h : Pr w0 w b rc a0 R p d) (k : Nat) (hk : isK k (tkA R p) = false) :
    Calls Tryd.prog 45 #[.pointer (some ⟨b, 0, none⟩), .int .i64 (k : Int)] w fun e w' => e = .returned (.bool false) ∧ Kept (fun _ => False) w w' := by
  have C1 := hideL (pis_any h k)
  rw [hk] at C1
  clear h hk
  go_enter Tryd.func45, Tryd.ntmps45
  go_wp2_with (go_at_call 67; refine C1.out.mono ?_; clear C1; rintro e W1 ⟨rfl, k1⟩; have K1 := hideL k1; clear k1)
  go_ret
  exact ⟨rfl, K1.out⟩
set_option maxRecDepth 20000 in
set_option maxHeartbeats 4000000 in
theorem ptake_yes (h : Pr w0 w b rc a0 R p d) (k : Nat) (hk : isK k (tkA R p) = true) (hp : p + 1 < R.length) :
    Calls Tryd.prog 45 #[.pointer (some ⟨b, 0, none⟩), .int .i64 (k : Int)] w fun e w' => e = .returned (.bool true) ∧ Pr w0 w' b rc a0 R (p + 1) d ∧ Kept (fun i => i = b) w w' := by
  have C1 := hideL (pis_any h k)
  rw [hk] at C1
  have H0 := hideL h
  have hr := h.hr
  have hpb : p ≤ 500000000000 := by omega
  have HPp := hideL hp
  clear h hk
  go_enter Tryd.func45, Tryd.ntmps45
  go_wp2_with (go_at_call 67; refine C1.out.mono ?_; clear C1; rintro e W1 ⟨rfl, k1⟩; have H1 := hideL (H0.out.later k1); have K1 := hideL k1; have x1 := H1.out.cells.2.1; have f1 := H1.out.free 1; clear k1 H0)
  go_ret
  exact ⟨rfl, H1.out.setP (p + 1) _ (by omega) HPp.out, (K1.out.mono (fun _ f => f.elim)).trans (Kept.setCell _ _ _) (fun i e => .inl e)⟩
end Go.Proofs.YtiemiphlfbaojaaDoor
namespace Go.Proofs.YtiemiphlfbaojaaDoor
open Go.ChangeShapes Go.WideShapes Go.ChangeAt Go.RowKit
variable {w0 w w' : World} {b rc : Nat} {a0 : Option Addr} {R : List Tn} {p d : Nat}

/-! The parser's sign, isBehind, need; a word without edits. -/
set_option maxRecDepth 20000 in
set_option maxHeartbeats 4000000 in
theorem psign_plus (h : Pr w0 w b rc a0 R p d) (hk : isK 15 (tkA R p) = true) (hp : p + 1 < R.length) :
    Calls Tryd.prog 63 #[.pointer (some ⟨b, 0, none⟩)] w fun e w' => e = .returned (.int .i64 1) ∧ Pr w0 w' b rc a0 R (p + 1) d ∧ Kept (fun i => i = b) w w' := by
  have C1 := hideL (ptake_yes h 15 hk hp)
  clear h hk hp
  go_enter Tryd.func63, Tryd.ntmps63
  go_wp2_with (go_at_call 45; refine C1.out.mono ?_; clear C1; rintro e W1 ⟨rfl, h1, k1⟩; have H1 := hideL h1; have K1 := hideL k1; clear h1 k1)
  go_ret
  exact ⟨rfl, H1.out, K1.out⟩
set_option maxRecDepth 20000 in
set_option maxHeartbeats 4000000 in
theorem need_yes (w : World) (b : Nat) : Calls Tryd.prog 44 #[.pointer (some ⟨b, 0, none⟩), .bool true] w fun e w' => e = .returned (.tuple #[]) ∧ w' = w := by
  go_enter Tryd.func44, Tryd.ntmps44
  go_wp2_with fail
  first | go_ret | go_end0
  exact ⟨rfl, rfl⟩
set_option maxRecDepth 20000 in
set_option maxHeartbeats 4000000 in
theorem pbehind_any (h : Pr w0 w b rc a0 R p d) (k : Nat) (hq : p + 1 < R.length) :
    Calls Tryd.prog 88 #[.pointer (some ⟨b, 0, none⟩), .int .i64 (k : Int)] w fun e w' => e = .returned (.bool (isK k (tkA R (p + 1)))) ∧ Kept (fun _ => False) w w' := by
  obtain ⟨x0, x1, -⟩ := h.cells
  obtain ⟨g, o, e0, hc⟩ := h.at' hq
  have y0 := hc.c0
  have hr := h.hr
  have hb : ((tkA R (p + 1)).k == (k : Int)) = isK k (tkA R (p + 1)) := rfl
  generalize isK k (tkA R (p + 1)) = B at *
  generalize (tkA R (p + 1)).k = yk at *
  have hz : (p : Int) + 1 < (R.length : Int) := by omega
  have hpb : p ≤ 500000000000 := by omega
  subst e0
  generalize R.length = n at *
  clear h hc hq
  cases B
  all_goals
    go_enter Tryd.func88, Tryd.ntmps88
    go_wp2_with fail
    go_region
    go_wp2_with fail
    go_ret
    exact ⟨rfl, Kept.drew _⟩
end Go.Proofs.YtiemiphlfbaojaaDoor
namespace Go.Proofs.YtiemiphlfbaojaaDoor
open Go.ChangeShapes Go.WideShapes Go.ChangeAt Go.RowKit

/-! Nodes in memory: twelve cells. -/
theorem load_node {W : World} {g : Nat} {x0 x1 x2 x3 x4 x5 x6 x7 x8 x9 x10 x11 : Value} (h : W.heap[g]? = some (.cells #[x0, x1, x2, x3, x4, x5, x6, x7, x8, x9, x10, x11] 39 (0, 0))) : (loadVar 39 ⟨g, 0, none⟩).run Tryd.prog W = .ok (.agg #[x0, x1, x2, x3, x4, x5, x6, x7, x8, x9, x10, x11]) W :=
  run_loadVar_row W g 39 39 #[x0, x1, x2, x3, x4, x5, x6, x7, x8, x9, x10, x11] (0, 0) _ h Tryd.underlying39 rfl (by kernel_rfl)
theorem node_put12 {W : World} {g : Nat} {x0 x1 x2 x3 x4 x5 x6 x7 x8 x9 x10 x11 v0 v1 v2 v3 v4 v5 v6 v7 v8 v9 v10 v11 : Value} {t : TypeId} (h : W.heap[g]? = some (.cells #[x0, x1, x2, x3, x4, x5, x6, x7, x8, x9, x10, x11] t (0, 0))) : ((((((((((((W.setCell ⟨g, 0, none⟩ v0).setCell ⟨g, 1, none⟩ v1).setCell ⟨g, 2, none⟩ v2).setCell ⟨g, 3, none⟩ v3).setCell ⟨g, 4, none⟩ v4).setCell ⟨g, 5, none⟩ v5).setCell ⟨g, 6, none⟩ v6).setCell ⟨g, 7, none⟩ v7).setCell ⟨g, 8, none⟩ v8).setCell ⟨g, 9, none⟩ v9).setCell ⟨g, 10, none⟩ v10).setCell ⟨g, 11, none⟩ v11).heap[g]? = some (.cells #[v0, v1, v2, v3, v4, v5, v6, v7, v8, v9, v10, v11] t (0, 0)) := by
  have h0 := heap_setCell_same _ g 0 _ t v0 h
  have h1 := heap_setCell_same _ g 1 _ t v1 h0
  have h2 := heap_setCell_same _ g 2 _ t v2 h1
  have h3 := heap_setCell_same _ g 3 _ t v3 h2
  have h4 := heap_setCell_same _ g 4 _ t v4 h3
  have h5 := heap_setCell_same _ g 5 _ t v5 h4
  have h6 := heap_setCell_same _ g 6 _ t v6 h5
  have h7 := heap_setCell_same _ g 7 _ t v7 h6
  have h8 := heap_setCell_same _ g 8 _ t v8 h7
  have h9 := heap_setCell_same _ g 9 _ t v9 h8
  have h10 := heap_setCell_same _ g 10 _ t v10 h9
  have h11 := heap_setCell_same _ g 11 _ t v11 h10
  simpa using h11
theorem node_kept12 {w W : World} {g : Nat} {v0 v1 v2 v3 v4 v5 v6 v7 v8 v9 v10 v11 : Value} (h : Kept (fun _ => False) w W) (hg : w.heap.size ≤ g) : Kept (fun _ => False) w ((((((((((((W.setCell ⟨g, 0, none⟩ v0).setCell ⟨g, 1, none⟩ v1).setCell ⟨g, 2, none⟩ v2).setCell ⟨g, 3, none⟩ v3).setCell ⟨g, 4, none⟩ v4).setCell ⟨g, 5, none⟩ v5).setCell ⟨g, 6, none⟩ v6).setCell ⟨g, 7, none⟩ v7).setCell ⟨g, 8, none⟩ v8).setCell ⟨g, 9, none⟩ v9).setCell ⟨g, 10, none⟩ v10).setCell ⟨g, 11, none⟩ v11) := keptS_put (keptS_put (keptS_put (keptS_put (keptS_put (keptS_put (keptS_put (keptS_put (keptS_put (keptS_put (keptS_put (keptS_put h hg) hg) hg) hg) hg) hg) hg) hg) hg) hg) hg) hg
theorem node_cells {W : World} {g : Nat} {x0 x1 x2 x3 x4 x5 x6 x7 x8 x9 x10 x11 : Value} {t : TypeId} (z : W.heap[g]? = some (.cells #[x0, x1, x2, x3, x4, x5, x6, x7, x8, x9, x10, x11] t (0, 0))) : W.cell? ⟨g, 0, none⟩ = some x0 ∧ W.cell? ⟨g, 1, none⟩ = some x1 ∧ W.cell? ⟨g, 2, none⟩ = some x2 ∧ W.cell? ⟨g, 3, none⟩ = some x3 ∧ W.cell? ⟨g, 4, none⟩ = some x4 ∧ W.cell? ⟨g, 5, none⟩ = some x5 ∧ W.cell? ⟨g, 6, none⟩ = some x6 ∧ W.cell? ⟨g, 7, none⟩ = some x7 ∧ W.cell? ⟨g, 8, none⟩ = some x8 ∧ W.cell? ⟨g, 9, none⟩ = some x9 ∧ W.cell? ⟨g, 10, none⟩ = some x10 ∧ W.cell? ⟨g, 11, none⟩ = some x11 ∧ (∀ i, W.frozen? ⟨g, i, none⟩ = false) := by
  refine ⟨?_, ?_, ?_, ?_, ?_, ?_, ?_, ?_, ?_, ?_, ?_, ?_, fun i => ?_⟩ <;> simp [World.cell?, World.frozen?, z]
/-- A term's node. -/
def termV (f t : ByteArray) : Value := .agg #[.int .i64 1, .string f, .string t, .int .i64 0, .bool false, .bool false, .string ⟨#[]⟩, .bool false, .bool false, .string ⟨#[]⟩, .slice none 0 0, .slice none 0 0]
variable {w0 w w' : World} {b rc : Nat} {a0 : Option Addr} {R : List Tn} {p d : Nat}
set_option maxRecDepth 20000 in
set_option maxHeartbeats 4000000 in
theorem pword_term (h : Pr w0 w b rc a0 R p d) (t : ByteArray) (he : isEd (tkA R p) = false) :
    Calls Tryd.prog 91 #[.pointer (some ⟨b, 0, none⟩), .string t] w fun e w' => e = .returned (termV ⟨#[]⟩ t) ∧ Kept (fun _ => False) w w' := by
  have KA := Kept.alloc w (.cells #[.int .i64 0, .string ⟨#[]⟩, .string ⟨#[]⟩, .int .i64 0, .bool false, .bool false, .string ⟨#[]⟩, .bool false, .bool false, .string ⟨#[]⟩, .slice none 0 0, .slice none 0 0] 39)
  have C1 := hideL (ptoken_any (h.later KA))
  have C2 := hideL (fun W => isEdits_any (tkA R p) W)
  rw [he] at C2
  have hnew := heap_alloc_new w (.cells #[.int .i64 0, .string ⟨#[]⟩, .string ⟨#[]⟩, .int .i64 0, .bool false, .bool false, .string ⟨#[]⟩, .bool false, .bool false, .string ⟨#[]⟩, .slice none 0 0, .slice none 0 0] 39)
  have HK := hideL KA
  generalize tkA R p = Y at *
  obtain ⟨yk, yt, yn, ya, ye⟩ := Y
  unfold Tn.v at C1 C2
  dsimp only at C1 C2
  have HN := hideL hnew
  clear h KA hnew he
  go_enter Tryd.func91, Tryd.ntmps91
  go_wp2_with (first
    | (go_at_call 78; refine C1.out.mono ?_; clear C1; rintro e W1 ⟨rfl, k1⟩; have K1 := hideL k1; clear k1)
    | (go_at_call 61; refine (C2.out _).mono ?_; clear C2; rintro e W2 ⟨rfl, k2⟩; refine Stp13.go ?_))
  have KW := (Kept.alloc W1 (.cells #[.int .i64 yk, .string yt, .int .i64 yn, .int .i64 ya, .int .i64 ye] 59)).trans k2 (fun _ f => f.elim)
  have KV := K1.out.trans KW (fun _ f => f.elim)
  have HN2 := hideL (KV.heap HN.out (fun f => f))
  have HK2 := hideL (HK.out.trans KV (fun _ f => f.elim))
  clear HN HK K1 KW KV k2
  refine ⟨?_⟩
  generalize hge : w.heap.size = g9 at HN2 ⊢
  have HG9 : Hid (w.heap.size ≤ g9) := hideL (by omega)
  clear hge
  obtain ⟨d0, d1, d2, d3, d4, d5, d6, d7, d8, d9, d10, d11, df⟩ := node_cells HN2.out
  have f0 := df 0
  have f1 := df 1
  have f2 := df 2
  have f3 := df 3
  have f4 := df 4
  have f5 := df 5
  have f6 := df 6
  have f7 := df 7
  have f8 := df 8
  have f9 := df 9
  have f10 := df 10
  have f11 := df 11
  clear df
  go_wp2_with fail
  refine bodyPost_ret (results_cellS rfl _ _ _ g9 _ rfl (load_node (by exact node_put12 HN2.out))) rfl ?_
  exact ⟨rfl, node_kept12 HK2.out HG9.out⟩
end Go.Proofs.YtiemiphlfbaojaaDoor
namespace Go.Proofs.YtiemiphlfbaojaaDoor
open Go.ChangeShapes Go.WideShapes Go.ChangeAt Go.RowKit
variable {w0 w w' : World} {b rc : Nat} {a0 : Option Addr} {R : List Tn} {p d : Nat}
set_option maxRecDepth 20000 in
set_option maxHeartbeats 4000000 in
theorem cloneL_nil (w : World) : Calls Tryd.prog 98 #[.string ⟨#[]⟩] w fun e w' => e = .returned (.string ⟨#[]⟩) ∧ w' = w := by
  go_enter Tryd.func98, Tryd.ntmps98
  go_wp2_with fail
  go_ret
  exact ⟨rfl, rfl⟩
set_option maxRecDepth 20000 in
set_option maxHeartbeats 4000000 in
theorem clone_nil (w : World) : Calls Tryd.prog 95 #[.string ⟨#[]⟩] w fun e w' => e = .returned (.string ⟨#[]⟩) ∧ w' = w := by
  have C1 := cloneL_nil w
  go_enter Tryd.func95, Tryd.ntmps95
  go_wp2_with (go_at_call 98; refine C1.mono ?_; clear C1; rintro e W1 ⟨rfl, rfl⟩)
  go_ret
  exact ⟨rfl, rfl⟩
theorem Pr.past {F : Nat → Prop} (h : Pr w0 w b rc a0 R p d) (k : Kept F w w') (hb : ¬ F b) (hF : ∀ i, F i → w0.heap.size ≤ i) : Pr w0 w' b rc a0 R p d := ⟨k.heap h.blk hb, h.kept.trans k (fun i f => .inr (hF i f)), h.hb, h.row, h.hr, h.hp⟩
theorem Pr.lt (h : Pr w0 w b rc a0 R p d) : b < w.heap.size := (Array.getElem?_eq_some_iff.mp h.blk).1
theorem node_keptG {W : World} {g : Nat} {v0 v1 v2 v3 v4 v5 v6 v7 v8 v9 v10 v11 : Value} : Kept (fun i => i = g) W ((((((((((((W.setCell ⟨g, 0, none⟩ v0).setCell ⟨g, 1, none⟩ v1).setCell ⟨g, 2, none⟩ v2).setCell ⟨g, 3, none⟩ v3).setCell ⟨g, 4, none⟩ v4).setCell ⟨g, 5, none⟩ v5).setCell ⟨g, 6, none⟩ v6).setCell ⟨g, 7, none⟩ v7).setCell ⟨g, 8, none⟩ v8).setCell ⟨g, 9, none⟩ v9).setCell ⟨g, 10, none⟩ v10).setCell ⟨g, 11, none⟩ v11) := by
  have H : ∀ (V : World) (o : Nat) (v : Value), Kept (fun i => i = g) W V → Kept (fun i => i = g) W (V.setCell ⟨g, o, none⟩ v) := fun V o v k => k.trans (Kept.setCell V ⟨g, o, none⟩ v) (fun i e => .inl e)
  exact (H _ _ _ (H _ _ _ (H _ _ _ (H _ _ _ (H _ _ _ (H _ _ _ (H _ _ _ (H _ _ _ (H _ _ _ (H _ _ _ (H _ _ _ (H _ _ _ (Kept.refl _ _)))))))))))))
set_option maxRecDepth 20000 in
set_option maxHeartbeats 4000000 in
theorem pleaf_word (h : Pr w0 w b rc a0 R p d) (hk : isK 1 (tkA R p) = true) (hp : p + 1 < R.length) (he : isEd (tkA R (p + 1)) = false) :
    Calls Tryd.prog 90 #[.pointer (some ⟨b, 0, none⟩), .string ⟨#[]⟩] w fun e w' => e = .returned (termV ⟨#[]⟩ (tkA R p).t) ∧ Pr w0 w' b rc a0 R (p + 1) d ∧ Kept (fun i => i = b) w w' := by
  have KA := Kept.alloc w (.cells #[.int .i64 0, .string ⟨#[]⟩, .string ⟨#[]⟩, .int .i64 0, .bool false, .bool false, .string ⟨#[]⟩, .bool false, .bool false, .string ⟨#[]⟩, .slice none 0 0, .slice none 0 0] 39)
  have C1 := hideL (ptoken_any (h.later KA))
  have C2 := hideL (fun W (hW : Pr w0 W b rc a0 R p d) => ptake_yes hW 1 hk hp)
  have C3 := hideL (fun W (hW : Pr w0 W b rc a0 R (p + 1) d) t => pword_term hW t he)
  have C4 := hideL (fun W => clone_nil W)
  have H0 := hideL (h.later KA)
  have HK := hideL KA
  generalize tkA R p = Y at *
  obtain ⟨yk, yt, yn, ya, ye⟩ := Y
  unfold Tn.v at C1
  dsimp only at C1 ⊢
  have hbw := h.lt
  clear h KA he hp
  go_enter Tryd.func90, Tryd.ntmps90
  go_wp2_with (first
    | (go_at_call 78; refine C1.out.mono ?_; clear C1; rintro e W1 ⟨rfl, k1⟩; have K1 := hideL k1; clear k1)
    | (go_at_call 45; refine Stp13.go ?_))
  have KL := Kept.alloc W1 (.cells #[.int .i64 yk, .string yt, .int .i64 yn, .int .i64 ya, .int .i64 ye] 59)
  have hl := heap_alloc_new W1 (.cells #[.int .i64 yk, .string yt, .int .i64 yn, .int .i64 ya, .int .i64 ye] 59)
  have sl : (W1.alloc (.cells #[.int .i64 yk, .string yt, .int .i64 yn, .int .i64 ya, .int .i64 ye] 59)).heap.size = W1.heap.size + 1 := by simp
  generalize W1.alloc (.cells #[.int .i64 yk, .string yt, .int .i64 yn, .int .i64 ya, .int .i64 ye] 59) = WL at *
  have KN := Kept.alloc WL (.cells #[.int .i64 0, .string ⟨#[]⟩, .string ⟨#[]⟩, .int .i64 0, .bool false, .bool false, .string ⟨#[]⟩, .bool false, .bool false, .string ⟨#[]⟩, .slice none 0 0, .slice none 0 0] 39)
  have hn := heap_alloc_new WL (.cells #[.int .i64 0, .string ⟨#[]⟩, .string ⟨#[]⟩, .int .i64 0, .bool false, .bool false, .string ⟨#[]⟩, .bool false, .bool false, .string ⟨#[]⟩, .slice none 0 0, .slice none 0 0] 39)
  rw [sl] at hn
  generalize WL.alloc (.cells #[.int .i64 0, .string ⟨#[]⟩, .string ⟨#[]⟩, .int .i64 0, .bool false, .bool false, .string ⟨#[]⟩, .bool false, .bool false, .string ⟨#[]⟩, .slice none 0 0, .slice none 0 0] 39) = WN at *
  have s1 : w.heap.size + 1 ≤ W1.heap.size := by have := K1.out.size; simpa using this
  have KV := (K1.out.trans KL (fun _ f => f.elim)).trans KN (fun _ f => f.elim)
  have hg := KV.heap (heap_alloc_new w (.cells #[.int .i64 0, .string ⟨#[]⟩, .string ⟨#[]⟩, .int .i64 0, .bool false, .bool false, .string ⟨#[]⟩, .bool false, .bool false, .string ⟨#[]⟩, .slice none 0 0, .slice none 0 0] 39)) (fun f => f)
  have hl2 := KN.heap hl (fun f => f)
  have hP := H0.out.later KV
  have KW := HK.out.trans KV (fun _ f => f.elim)
  clear H0 HK K1 KL KN KV hl sl
  refine ⟨?_⟩
  refine (C2.out WN hP).mono ?_
  rintro e W2 ⟨rfl, h2, k2⟩
  have hgb : ¬ w.heap.size = b := by omega
  have hlb : ¬ W1.heap.size = b := by omega
  have hnb : ¬ W1.heap.size + 1 = b := by omega
  have HG := hideL (k2.heap hg hgb)
  have HL := hideL (k2.heap hl2 hlb)
  have HN := hideL (k2.heap hn hnb)
  have HP := hideL h2
  have HK2 := hideL ((KW.mono (fun _ f => f.elim)).trans k2 (fun i e => .inl e))
  clear hP KW k2 hg hl2 hn h2 C2
  generalize hge : w.heap.size = g9 at HG s1 hgb hbw ⊢
  have HG9 : Hid (w.heap.size = g9) := hideL hge
  clear hge
  generalize W1.heap.size = l9 at *
  generalize hne : l9 + 1 = n9 at *
  have HLT : Hid (g9 + 1 ≤ l9 ∧ l9 + 1 = n9) := hideL ⟨s1, hne⟩
  clear s1 hne
  obtain ⟨l0, l1, l2, l3, l4, lf⟩ := rowS_cells5 HL.out
  clear lf l0 l2 l3 l4
  go_wp2_with (first
    | (go_at_call 91; refine Stp13.go ?_))
  refine ⟨?_⟩
  refine (C3.out W2 HP.out yt).mono ?_
  rintro e W3 ⟨rfl, k3⟩
  have HG3 := hideL (k3.heap HG.out (fun f => f))
  have HN3 := hideL (k3.heap HN.out (fun f => f))
  have HP3 := hideL (HP.out.later k3)
  have HK3 := hideL (HK2.out.trans k3 (fun _ f => f.elim))
  clear HG HN HP HK2 k3 C3 HL l1
  unfold termV
  obtain ⟨d0, d1, d2, d3, d4, d5, d6, d7, d8, d9, d10, d11, df⟩ := node_cells HN3.out
  have f0 := df 0
  have f1 := df 1
  have f2 := df 2
  have f3 := df 3
  have f4 := df 4
  have f5 := df 5
  have f6 := df 6
  have f7 := df 7
  have f8 := df 8
  have f9 := df 9
  have f10 := df 10
  have f11 := df 11
  clear df
  go_wp2_with (first
    | (go_at_call 95; refine Stp13.go ?_))
  refine ⟨?_⟩
  refine (C4.out _).mono ?_
  rintro e W4 ⟨rfl, rfl⟩
  clear d0 d1 d2 d3 d4 d5 d6 d7 d8 d9 d10 d11 f0 f1 f2 f3 f4 f5 f6 f7 f8 f9 f10 f11
  have hN4 := node_put12 (v0 := (.int .i64 1)) (v1 := (.string ⟨#[]⟩)) (v2 := (.string yt)) (v3 := (.int .i64 0)) (v4 := (.bool false)) (v5 := (.bool false)) (v6 := (.string ⟨#[]⟩)) (v7 := (.bool false)) (v8 := (.bool false)) (v9 := (.string ⟨#[]⟩)) (v10 := (.slice none 0 0)) (v11 := (.slice none 0 0)) HN3.out
  have KP := node_keptG (W := W3) (g := n9) (v0 := (.int .i64 1)) (v1 := (.string ⟨#[]⟩)) (v2 := (.string yt)) (v3 := (.int .i64 0)) (v4 := (.bool false)) (v5 := (.bool false)) (v6 := (.string ⟨#[]⟩)) (v7 := (.bool false)) (v8 := (.bool false)) (v9 := (.string ⟨#[]⟩)) (v10 := (.slice none 0 0)) (v11 := (.slice none 0 0))
  generalize ((((((((((((W3.setCell ⟨n9, 0, none⟩ (.int .i64 1)).setCell ⟨n9, 1, none⟩ (.string ⟨#[]⟩)).setCell ⟨n9, 2, none⟩ (.string yt)).setCell ⟨n9, 3, none⟩ (.int .i64 0)).setCell ⟨n9, 4, none⟩ (.bool false)).setCell ⟨n9, 5, none⟩ (.bool false)).setCell ⟨n9, 6, none⟩ (.string ⟨#[]⟩)).setCell ⟨n9, 7, none⟩ (.bool false)).setCell ⟨n9, 8, none⟩ (.bool false)).setCell ⟨n9, 9, none⟩ (.string ⟨#[]⟩)).setCell ⟨n9, 10, none⟩ (.slice none 0 0)).setCell ⟨n9, 11, none⟩ (.slice none 0 0)) = W4 at *
  have hlt := HLT.out
  have hgn : ¬ g9 = n9 := by omega
  have hng : ¬ n9 = g9 := by omega
  have hG4 := KP.heap HG3.out hgn
  have hgw := HG9.out
  have hw0 := HP3.out.hb
  have HP4 := hideL (HP3.out.past KP (fun e => hnb e.symm) (fun i e => by omega))
  have HK4 := hideL (HK3.out.trans KP (fun i e => .inr (by omega)))
  have HGX := hideL ((Kept.setCell W4 ⟨n9, 1, none⟩ (.string ⟨#[]⟩)).heap hG4 (fun e => hgn e))
  obtain ⟨d0, d1, d2, d3, d4, d5, d6, d7, d8, d9, d10, d11, df⟩ := node_cells hN4
  have f0 := df 0
  have f1 := df 1
  have f2 := df 2
  have f3 := df 3
  have f4 := df 4
  have f5 := df 5
  have f6 := df 6
  have f7 := df 7
  have f8 := df 8
  have f9 := df 9
  have f10 := df 10
  have f11 := df 11
  obtain ⟨c0, c1, c2, c3, c4, c5, c6, c7, c8, c9, c10, c11, ef⟩ := node_cells hG4
  have e0 := ef 0
  have e1 := ef 1
  have e2 := ef 2
  have e3 := ef 3
  have e4 := ef 4
  have e5 := ef 5
  have e6 := ef 6
  have e7 := ef 7
  have e8 := ef 8
  have e9 := ef 9
  have e10 := ef 10
  have e11 := ef 11
  clear df ef HN3 HG3 HP3 HK3 KP hlt hgw hw0
  go_wp2_with fail
  refine bodyPost_ret (results_cellS rfl _ _ _ g9 _ rfl (load_node (by exact node_put12 HGX.out))) rfl ?_
  have hlt := HLT.out
  have hgw := HG9.out
  have hw0 := HP4.out.hb
  have KS : Kept (fun i => i = n9) W4 (W4.setCell ⟨n9, 1, none⟩ (.string ⟨#[]⟩)) := (Kept.setCell W4 ⟨n9, 1, none⟩ (.string ⟨#[]⟩)).mono (fun i e => .inl e)
  have HP5 := HP4.out.past KS (fun e => hnb e.symm) (fun i e => by omega)
  have HK5 := HK4.out.trans KS (fun i e => .inr (by omega))
  exact ⟨rfl, HP5.past node_keptG (fun e => hgb e.symm) (fun i e => by omega), HK5.trans node_keptG (fun i e => .inr (by omega))⟩
end Go.Proofs.YtiemiphlfbaojaaDoor
namespace Go.Proofs.YtiemiphlfbaojaaDoor
open Go.ChangeShapes Go.WideShapes Go.ChangeAt Go.RowKit

/-! Parts in memory: thirteen cells. -/
theorem load_part {W : World} {g : Nat} {x0 x1 x2 x3 x4 x5 x6 x7 x8 x9 x10 x11 x12 : Value} (h : W.heap[g]? = some (.cells #[x0, x1, x2, x3, x4, x5, x6, x7, x8, x9, x10, x11, x12] 75 (0, 0))) : (loadVar 75 ⟨g, 0, none⟩).run Tryd.prog W = .ok (.agg #[x0, x1, x2, x3, x4, x5, x6, x7, x8, x9, x10, x11, x12]) W :=
  run_loadVar_row W g 75 75 #[x0, x1, x2, x3, x4, x5, x6, x7, x8, x9, x10, x11, x12] (0, 0) _ h Tryd.underlying75 rfl (by kernel_rfl)
theorem part_put {W : World} {g : Nat} {x0 x1 x2 x3 x4 x5 x6 x7 x8 x9 x10 x11 x12 v0 v1 v2 v3 v4 v5 v6 v7 v8 v9 v10 v11 v12 : Value} {t : TypeId} (h : W.heap[g]? = some (.cells #[x0, x1, x2, x3, x4, x5, x6, x7, x8, x9, x10, x11, x12] t (0, 0))) : (((((((((((((W.setCell ⟨g, 0, none⟩ v0).setCell ⟨g, 1, none⟩ v1).setCell ⟨g, 2, none⟩ v2).setCell ⟨g, 3, none⟩ v3).setCell ⟨g, 4, none⟩ v4).setCell ⟨g, 5, none⟩ v5).setCell ⟨g, 6, none⟩ v6).setCell ⟨g, 7, none⟩ v7).setCell ⟨g, 8, none⟩ v8).setCell ⟨g, 9, none⟩ v9).setCell ⟨g, 10, none⟩ v10).setCell ⟨g, 11, none⟩ v11).setCell ⟨g, 12, none⟩ v12).heap[g]? = some (.cells #[v0, v1, v2, v3, v4, v5, v6, v7, v8, v9, v10, v11, v12] t (0, 0)) := by
  have h0 := heap_setCell_same _ g 0 _ t v0 h
  have h1 := heap_setCell_same _ g 1 _ t v1 h0
  have h2 := heap_setCell_same _ g 2 _ t v2 h1
  have h3 := heap_setCell_same _ g 3 _ t v3 h2
  have h4 := heap_setCell_same _ g 4 _ t v4 h3
  have h5 := heap_setCell_same _ g 5 _ t v5 h4
  have h6 := heap_setCell_same _ g 6 _ t v6 h5
  have h7 := heap_setCell_same _ g 7 _ t v7 h6
  have h8 := heap_setCell_same _ g 8 _ t v8 h7
  have h9 := heap_setCell_same _ g 9 _ t v9 h8
  have h10 := heap_setCell_same _ g 10 _ t v10 h9
  have h11 := heap_setCell_same _ g 11 _ t v11 h10
  have h12 := heap_setCell_same _ g 12 _ t v12 h11
  simpa using h12
theorem part_keptG {W : World} {g : Nat} {v0 v1 v2 v3 v4 v5 v6 v7 v8 v9 v10 v11 v12 : Value} : Kept (fun i => i = g) W (((((((((((((W.setCell ⟨g, 0, none⟩ v0).setCell ⟨g, 1, none⟩ v1).setCell ⟨g, 2, none⟩ v2).setCell ⟨g, 3, none⟩ v3).setCell ⟨g, 4, none⟩ v4).setCell ⟨g, 5, none⟩ v5).setCell ⟨g, 6, none⟩ v6).setCell ⟨g, 7, none⟩ v7).setCell ⟨g, 8, none⟩ v8).setCell ⟨g, 9, none⟩ v9).setCell ⟨g, 10, none⟩ v10).setCell ⟨g, 11, none⟩ v11).setCell ⟨g, 12, none⟩ v12) := by
  have H : ∀ (V : World) (o : Nat) (v : Value), Kept (fun i => i = g) W V → Kept (fun i => i = g) W (V.setCell ⟨g, o, none⟩ v) := fun V o v k => k.trans (Kept.setCell V ⟨g, o, none⟩ v) (fun i e => .inl e)
  exact (H _ _ _ (H _ _ _ (H _ _ _ (H _ _ _ (H _ _ _ (H _ _ _ (H _ _ _ (H _ _ _ (H _ _ _ (H _ _ _ (H _ _ _ (H _ _ _ (H _ _ _ (Kept.refl _ _))))))))))))))
theorem part_cells {W : World} {g : Nat} {x0 x1 x2 x3 x4 x5 x6 x7 x8 x9 x10 x11 x12 : Value} {t : TypeId} (z : W.heap[g]? = some (.cells #[x0, x1, x2, x3, x4, x5, x6, x7, x8, x9, x10, x11, x12] t (0, 0))) : W.cell? ⟨g, 0, none⟩ = some x0 ∧ W.cell? ⟨g, 1, none⟩ = some x1 ∧ W.cell? ⟨g, 2, none⟩ = some x2 ∧ W.cell? ⟨g, 3, none⟩ = some x3 ∧ W.cell? ⟨g, 4, none⟩ = some x4 ∧ W.cell? ⟨g, 5, none⟩ = some x5 ∧ W.cell? ⟨g, 6, none⟩ = some x6 ∧ W.cell? ⟨g, 7, none⟩ = some x7 ∧ W.cell? ⟨g, 8, none⟩ = some x8 ∧ W.cell? ⟨g, 9, none⟩ = some x9 ∧ W.cell? ⟨g, 10, none⟩ = some x10 ∧ W.cell? ⟨g, 11, none⟩ = some x11 ∧ W.cell? ⟨g, 12, none⟩ = some x12 ∧ (∀ i, W.frozen? ⟨g, i, none⟩ = false) := by
  refine ⟨?_, ?_, ?_, ?_, ?_, ?_, ?_, ?_, ?_, ?_, ?_, ?_, ?_, fun i => ?_⟩ <;> simp [World.cell?, World.frozen?, z]
variable {w0 w w' : World} {b rc : Nat} {a0 : Option Addr} {R : List Tn} {p d : Nat}
theorem isK_other {y : Tn} {k j : Nat} (h : isK k y = true) (hj : j ≠ k) : isK j y = false := by
  unfold isK at *
  simp only [beq_iff_eq] at h
  simp only [beq_eq_false_iff_ne]
  omega
theorem isSt_word {y : Tn} (h : isK 1 y = true) : isSt y = false := by
  unfold isK at h
  unfold isSt
  simp only [beq_iff_eq] at h
  rw [h]
  rfl
/-- A part that is a term. -/
def termP (f t : ByteArray) : Value := .agg #[.int .i64 1, .string f, .string t, .int .i64 0, .bool false, .bool false, .string ⟨#[]⟩, .bool false, .bool false, .string ⟨#[]⟩, .slice none 0 0, .slice none 0 0, .int .i64 0]
set_option maxRecDepth 20000 in
set_option maxHeartbeats 4000000 in
theorem patom_word (h : Pr w0 w b rc a0 R p d) (hk : isK 1 (tkA R p) = true) (hp : p + 1 < R.length) (he : isEd (tkA R (p + 1)) = false) (hc : isK 14 (tkA R (p + 1)) = false) :
    Calls Tryd.prog 85 #[.pointer (some ⟨b, 0, none⟩), .string ⟨#[]⟩] w fun e w' => e = .returned (termP ⟨#[]⟩ (tkA R p).t) ∧ Pr w0 w' b rc a0 R (p + 1) d ∧ Kept (fun i => i = b) w w' := by
  have KA := Kept.alloc w (.cells #[.int .i64 0, .string ⟨#[]⟩, .string ⟨#[]⟩, .int .i64 0, .bool false, .bool false, .string ⟨#[]⟩, .bool false, .bool false, .string ⟨#[]⟩, .slice none 0 0, .slice none 0 0, .int .i64 0] 75)
  have hbw := h.lt
  have C1 := hideL (ptoken_any (h.later KA))
  have C2 := hideL (fun W => isStar_any (tkA R p) W)
  rw [isSt_word hk] at C2
  have C3 := hideL (fun W (hW : Pr w0 W b rc a0 R p d) => pis_any hW 1)
  rw [hk] at C3
  have C4 := hideL (fun W (hW : Pr w0 W b rc a0 R p d) => pbehind_any hW 14 hp)
  rw [hc] at C4
  have C5 := hideL (fun W (hW : Pr w0 W b rc a0 R p d) => ptake_no hW 8 (isK_other hk (by omega)))
  have C6 := hideL (fun W (hW : Pr w0 W b rc a0 R p d) => pleaf_word hW hk hp he)
  have H0 := hideL (h.later KA)
  have HG := hideL (heap_alloc_new w (.cells #[.int .i64 0, .string ⟨#[]⟩, .string ⟨#[]⟩, .int .i64 0, .bool false, .bool false, .string ⟨#[]⟩, .bool false, .bool false, .string ⟨#[]⟩, .slice none 0 0, .slice none 0 0, .int .i64 0] 75))
  have HK := hideL KA
  generalize tkA R p = Y at *
  obtain ⟨yk, yt, yn, ya, ye⟩ := Y
  unfold Tn.v at C1 C2
  dsimp only at C1 C2 C6 ⊢
  clear h KA he hp hc hk
  go_enter Tryd.func85, Tryd.ntmps85
  go_wp2_with (first
    | (go_at_call 78; refine C1.out.mono ?_; clear C1; rintro e W1 ⟨rfl, k1⟩; have H1 := hideL (H0.out.later k1); have G1 := hideL (k1.heap HG.out (fun f => f)); have K1 := hideL (HK.out.trans k1 (fun _ f => f.elim)); clear k1 H0 HG HK)
    | (go_at_call 58; refine (C2.out _).mono ?_; clear C2; rintro e W2 ⟨rfl, k2⟩; have H2 := hideL (H1.out.later k2); have G2 := hideL (k2.heap G1.out (fun f => f)); have K2 := hideL (K1.out.trans k2 (fun _ f => f.elim)); clear k2 H1 G1 K1)
    | (go_at_call 67; refine (C3.out _ H2.out).mono ?_; clear C3; rintro e W3 ⟨rfl, k3⟩; have H3 := hideL (H2.out.later k3); have G3 := hideL (k3.heap G2.out (fun f => f)); have K3 := hideL (K2.out.trans k3 (fun _ f => f.elim)); clear k3 H2 G2 K2)
    | (go_at_call 88; refine (C4.out _ H3.out).mono ?_; clear C4; rintro e W4 ⟨rfl, k4⟩; have H4 := hideL (H3.out.later k4); have G4 := hideL (k4.heap G3.out (fun f => f)); have K4 := hideL (K3.out.trans k4 (fun _ f => f.elim)); clear k4 H3 G3 K3)
    | (go_at_call 45; refine (C5.out _ H4.out).mono ?_; clear C5; rintro e W5 ⟨rfl, k5⟩; have H5 := hideL (H4.out.later k5); have G5 := hideL (k5.heap G4.out (fun f => f)); have K5 := hideL (K4.out.trans k5 (fun _ f => f.elim)); clear k5 H4 G4 K4)
    | (go_at_call 90; refine Stp13.go ?_))
  refine ⟨?_⟩
  refine (C6.out _ H5.out).mono ?_
  rintro e W6 ⟨rfl, h6, k6⟩
  unfold termV
  have hgb : ¬ w.heap.size = b := by omega
  have HG6 := hideL (k6.heap G5.out hgb)
  have HP6 := hideL h6
  have HK6 := hideL ((K5.out.mono (fun _ f => f.elim)).trans k6 (fun i e => .inl e))
  clear h6 k6 G5 K5 H5 C6
  generalize hge : w.heap.size = g9 at HG6 hgb hbw ⊢
  have HG9 : Hid (w.heap.size = g9) := hideL hge
  clear hge
  obtain ⟨d0, d1, d2, d3, d4, d5, d6, d7, d8, d9, d10, d11, d12, df⟩ := part_cells HG6.out
  have f0 := df 0
  have f1 := df 1
  have f2 := df 2
  have f3 := df 3
  have f4 := df 4
  have f5 := df 5
  have f6 := df 6
  have f7 := df 7
  have f8 := df 8
  have f9 := df 9
  have f10 := df 10
  have f11 := df 11
  have f12 := df 12
  clear df
  go_wp2_with fail
  refine bodyPost_ret (results_cellS rfl _ _ _ g9 _ rfl (load_part (by exact part_put HG6.out))) rfl ?_
  have hgw := HG9.out
  have hw0 := HP6.out.hb
  exact ⟨rfl, HP6.out.past part_keptG (fun e => hgb e.symm) (fun i e => by omega), HK6.out.trans part_keptG (fun i e => .inr (by omega))⟩
end Go.Proofs.YtiemiphlfbaojaaDoor
namespace Go.Proofs.YtiemiphlfbaojaaDoor
open Go.ChangeShapes Go.WideShapes Go.ChangeAt Go.RowKit
variable {w0 w w' : World} {b rc : Nat} {a0 : Option Addr} {R : List Tn} {p d : Nat}
theorem field_lx2 (W : World) (k n a e : Int) (t : ByteArray) : (Instr.field 59 (.agg #[.int .i64 k, .string t, .int .i64 n, .int .i64 a, .int .i64 e]) 2).run Tryd.prog W = .ok (.int .i64 n) W := by kernel_rfl
set_option maxRecDepth 20000 in
set_option maxHeartbeats 4000000 in
theorem ppiece_word (h : Pr w0 w b rc a0 R p d) (hk : isK 1 (tkA R p) = true) (hp : p + 1 < R.length) (he : isEd (tkA R (p + 1)) = false) (hc : isK 14 (tkA R (p + 1)) = false) (hx : isK 18 (tkA R (p + 1)) = false) (hy : isK 19 (tkA R (p + 1)) = false) :
    Calls Tryd.prog 75 #[.pointer (some ⟨b, 0, none⟩), .string ⟨#[]⟩] w fun e w' => e = .returned (termP ⟨#[]⟩ (tkA R p).t) ∧ Pr w0 w' b rc a0 R (p + 1) d ∧ Kept (fun i => i = b) w w' := by
  have KA := Kept.alloc w (.cells #[.int .i64 0, .string ⟨#[]⟩, .string ⟨#[]⟩, .int .i64 0, .bool false, .bool false, .string ⟨#[]⟩, .bool false, .bool false, .string ⟨#[]⟩, .slice none 0 0, .slice none 0 0, .int .i64 0] 75)
  have hbw := h.lt
  have C1 := hideL (patom_word (h.later KA) hk hp he hc)
  have C2 := hideL (fun W (hW : Pr w0 W b rc a0 R (p + 1) d) => ptoken_any hW)
  have C3 := hideL (fun W (hW : Pr w0 W b rc a0 R (p + 1) d) => ptake_no hW 18 hx)
  have C4 := hideL (fun W (hW : Pr w0 W b rc a0 R (p + 1) d) => ptake_no hW 19 hy)
  have HG := hideL (heap_alloc_new w (.cells #[.int .i64 0, .string ⟨#[]⟩, .string ⟨#[]⟩, .int .i64 0, .bool false, .bool false, .string ⟨#[]⟩, .bool false, .bool false, .string ⟨#[]⟩, .slice none 0 0, .slice none 0 0, .int .i64 0] 75))
  have HK := hideL KA
  generalize tkA R (p + 1) = Y at *
  obtain ⟨yk, yt, yn, ya, ye⟩ := Y
  generalize tkA R p = X at *
  obtain ⟨xk, xt, xn, xa, xe⟩ := X
  unfold Tn.v at C2
  unfold termP at C1 ⊢
  dsimp only at C1 C2 ⊢
  clear h KA he hp hc hk hx hy
  go_enter Tryd.func75, Tryd.ntmps75
  go_wp2_with (first
    | (go_at_call 85; refine C1.out.mono ?_; clear C1; rintro e W1 ⟨rfl, h1, k1⟩; have H1 := hideL h1; have G1 := hideL (k1.heap HG.out (show ¬ w.heap.size = b by omega)); have K1 := hideL ((HK.out.mono (fun _ f => f.elim)).trans k1 (fun _ f => .inl f)); clear k1 h1 HG HK))
  have KL := Kept.alloc W1 (.cells #[.int .i64 1, .string ⟨#[]⟩, .string xt, .int .i64 0, .bool false, .bool false, .string ⟨#[]⟩, .bool false, .bool false, .string ⟨#[]⟩, .slice none 0 0, .slice none 0 0, .int .i64 0] 75)
  have hl := heap_alloc_new W1 (.cells #[.int .i64 1, .string ⟨#[]⟩, .string xt, .int .i64 0, .bool false, .bool false, .string ⟨#[]⟩, .bool false, .bool false, .string ⟨#[]⟩, .slice none 0 0, .slice none 0 0, .int .i64 0] 75)
  generalize W1.alloc (.cells #[.int .i64 1, .string ⟨#[]⟩, .string xt, .int .i64 0, .bool false, .bool false, .string ⟨#[]⟩, .bool false, .bool false, .string ⟨#[]⟩, .slice none 0 0, .slice none 0 0, .int .i64 0] 75) = WL at *
  have s1 : w.heap.size < W1.heap.size := (Array.getElem?_eq_some_iff.mp G1.out).1
  have H2 := hideL (H1.out.later KL)
  have G2 := hideL (KL.heap G1.out (fun f => f))
  have L2 := hideL hl
  have K2 := hideL (K1.out.trans KL (fun _ f => f.elim))
  clear H1 G1 K1 KL hl
  have hgb : ¬ w.heap.size = b := by omega
  generalize hge : w.heap.size = g9 at G2 s1 hgb hbw ⊢
  have HG9 : Hid (w.heap.size = g9) := hideL hge
  clear hge
  generalize W1.heap.size = l9 at *
  have hgl : ¬ g9 = l9 := by omega
  have hlg : ¬ l9 = g9 := by omega
  refine wp_loop_once ?_
  have F2 := fun W => field_lx2 W yk yn ya ye yt
  go_wp2_with (first
    | (go_at_call 78; refine (C2.out _ H2.out).mono ?_; clear C2; rintro e W3 ⟨rfl, k3⟩; have H3 := hideL (H2.out.later k3); have G3 := hideL (k3.heap G2.out (fun f => f)); have L3 := hideL (k3.heap L2.out (fun f => f)); have K3 := hideL (K2.out.trans k3 (fun _ f => f.elim)); clear k3 H2 G2 K2 L2)
    | (go_at_call 45; refine Stp13.go ?_))
  refine ⟨?_⟩
  refine (C3.out _ H3.out).mono ?_
  rintro e W4 ⟨rfl, k4⟩
  have H4 := hideL (H3.out.later k4)
  have G4 := hideL (k4.heap G3.out (fun f => f))
  have L4 := hideL (k4.heap L3.out (fun f => f))
  have K4 := hideL (K3.out.trans k4 (fun _ f => f.elim))
  clear k4 H3 G3 L3 K3 C3 F2
  go_wp2_with (first
    | (go_at_call 45; refine Stp13.go ?_))
  refine ⟨?_⟩
  refine (C4.out _ H4.out).mono ?_
  rintro e W5 ⟨rfl, k5⟩
  have H5 := hideL (H4.out.later k5)
  have G5 := hideL (k5.heap G4.out (fun f => f))
  have L5 := hideL (k5.heap L4.out (fun f => f))
  have K5 := hideL (K4.out.trans k5 (fun _ f => f.elim))
  clear k5 H4 G4 L4 K4 C4
  obtain ⟨d0, d1, d2, d3, d4, d5, d6, d7, d8, d9, d10, d11, d12, df⟩ := part_cells L5.out
  have f0 := df 0
  have f1 := df 1
  have f2 := df 2
  have f3 := df 3
  have f4 := df 4
  have f5 := df 5
  have f6 := df 6
  have f7 := df 7
  have f8 := df 8
  have f9 := df 9
  have f10 := df 10
  have f11 := df 11
  have f12 := df 12
  obtain ⟨c0, c1, c2, c3, c4, c5, c6, c7, c8, c9, c10, c11, c12, ef⟩ := part_cells G5.out
  have e0 := ef 0
  have e1 := ef 1
  have e2 := ef 2
  have e3 := ef 3
  have e4 := ef 4
  have e5 := ef 5
  have e6 := ef 6
  have e7 := ef 7
  have e8 := ef 8
  have e9 := ef 9
  have e10 := ef 10
  have e11 := ef 11
  have e12 := ef 12
  clear df ef
  go_wp2_with fail
  refine bodyPost_ret (results_cellS rfl _ _ _ g9 _ rfl (load_part (by exact part_put G5.out))) rfl ?_
  have hgw := HG9.out
  have hw0 := H5.out.hb
  exact ⟨rfl, H5.out.past part_keptG (fun e => hgb e.symm) (fun i e => by omega), K5.out.trans part_keptG (fun i e => .inr (by omega))⟩
end Go.Proofs.YtiemiphlfbaojaaDoor
namespace Go.Proofs.YtiemiphlfbaojaaDoor
open Go.ChangeShapes Go.WideShapes Go.ChangeAt Go.RowKit
variable {w0 w w' : World} {b rc : Nat} {a0 : Option Addr} {R : List Tn} {p d : Nat}
set_option maxRecDepth 20000 in
set_option maxHeartbeats 4000000 in
theorem punary_word (h : Pr w0 w b rc a0 R p d) (hk : isK 1 (tkA R p) = true) (hp : p + 1 < R.length) (he : isEd (tkA R (p + 1)) = false) (hc : isK 14 (tkA R (p + 1)) = false) (hx : isK 18 (tkA R (p + 1)) = false) (hy : isK 19 (tkA R (p + 1)) = false) :
    Calls Tryd.prog 66 #[.pointer (some ⟨b, 0, none⟩), .string ⟨#[]⟩] w fun e w' => e = .returned (termP ⟨#[]⟩ (tkA R p).t) ∧ Pr w0 w' b rc a0 R (p + 1) d ∧ Kept (fun i => i = b) w w' := by
  have KA := Kept.alloc w (.cells #[.int .i64 0, .string ⟨#[]⟩, .string ⟨#[]⟩, .int .i64 0, .bool false, .bool false, .string ⟨#[]⟩, .bool false, .bool false, .string ⟨#[]⟩, .slice none 0 0, .slice none 0 0, .int .i64 0] 75)
  have hbw := h.lt
  have C1 := hideL (ptake_no (h.later KA) 6 (isK_other hk (by omega)))
  have C2 := hideL (fun W (hW : Pr w0 W b rc a0 R p d) => ppiece_word hW hk hp he hc hx hy)
  have HG := hideL (heap_alloc_new w (.cells #[.int .i64 0, .string ⟨#[]⟩, .string ⟨#[]⟩, .int .i64 0, .bool false, .bool false, .string ⟨#[]⟩, .bool false, .bool false, .string ⟨#[]⟩, .slice none 0 0, .slice none 0 0, .int .i64 0] 75))
  have HK := hideL KA
  have H0 := hideL (h.later KA)
  generalize tkA R p = X at *
  obtain ⟨xk, xt, xn, xa, xe⟩ := X
  unfold termP at C2 ⊢
  dsimp only at C2 ⊢
  clear h KA he hp hc hk hx hy
  go_enter Tryd.func66, Tryd.ntmps66
  go_wp2_with (first
    | (go_at_call 45; refine C1.out.mono ?_; clear C1; rintro e W1 ⟨rfl, k1⟩; have H1 := hideL (H0.out.later k1); have G1 := hideL (k1.heap HG.out (fun f => f)); have K1 := hideL (HK.out.trans k1 (fun _ f => f.elim)); clear k1 H0 HG HK)
    | (go_at_call 75; refine Stp13.go ?_))
  refine ⟨?_⟩
  refine (C2.out _ H1.out).mono ?_
  rintro e W5 ⟨rfl, h5, k5⟩
  have hgb : ¬ w.heap.size = b := by omega
  have H5 := hideL h5
  have G5 := hideL (k5.heap G1.out hgb)
  have K5 := hideL ((K1.out.mono (fun _ f => f.elim)).trans k5 (fun _ f => .inl f))
  clear k5 h5 H1 G1 K1 C2
  generalize hge : w.heap.size = g9 at G5 hgb hbw ⊢
  have HG9 : Hid (w.heap.size = g9) := hideL hge
  clear hge
  obtain ⟨d0, d1, d2, d3, d4, d5, d6, d7, d8, d9, d10, d11, d12, df⟩ := part_cells G5.out
  have f0 := df 0
  have f1 := df 1
  have f2 := df 2
  have f3 := df 3
  have f4 := df 4
  have f5 := df 5
  have f6 := df 6
  have f7 := df 7
  have f8 := df 8
  have f9 := df 9
  have f10 := df 10
  have f11 := df 11
  have f12 := df 12
  clear df
  go_wp2_with fail
  refine bodyPost_ret (results_cellS rfl _ _ _ g9 _ rfl (load_part (by exact part_put G5.out))) rfl ?_
  have hgw := HG9.out
  have hw0 := H5.out.hb
  exact ⟨rfl, H5.out.past part_keptG (fun e => hgb e.symm) (fun i e => by omega), K5.out.trans part_keptG (fun i e => .inr (by omega))⟩
end Go.Proofs.YtiemiphlfbaojaaDoor
