import Derived.Test.YtohnkamobmkhkaaDoorVfo
namespace Go.Proofs.YtohnkamobmkhkaaDoor
open Go.ChangeShapes Go.WideShapes Go.ChangeAt Go.RowKit

theorem results_cell1V {fn : Func} {p : Tmp} {ty : TypeId} (h : fn.results = #[.cell p ty]) (tmps : Array Value) (P : Program) (w : World) (g : Nat) (cs : Array Value)
    (hp : tmps.getD p undef = .pointer (some ⟨g, 0, none⟩)) (hld : (loadVar ty ⟨g, 0, none⟩).run P w = .ok (.agg cs) w) :
    (results fn tmps).run P w = .ok (.agg cs) w := by
  have hp' : tmps[p]?.getD undef = .pointer (some ⟨g, 0, none⟩) := by simpa using hp
  simp [results, h, hp', asAddr, hld]
theorem load_pgV {W : World} {g : Nat} {x0 x1 x2 x3 x4 x5 : Value} (h : W.heap[g]? = some (.cells #[x0, x1, x2, x3, x4, x5] 27 (0, 0))) : (loadVar 27 ⟨g, 0, none⟩).run Tryd.prog W = .ok (.agg #[x0, x1, x2, x3, x4, x5]) W :=
  run_loadVar_row W g 27 27 #[x0, x1, x2, x3, x4, x5] (0, 0) _ h Tryd.underlying27 rfl (by kernel_rfl)
theorem pg_put6 {W : World} {g : Nat} {x0 x1 x2 x3 x4 x5 v0 v1 v2 v3 v4 v5 : Value} {t : TypeId} (h : W.heap[g]? = some (.cells #[x0, x1, x2, x3, x4, x5] t (0, 0))) : ((((((W.setCell ⟨g, 0, none⟩ v0).setCell ⟨g, 1, none⟩ v1).setCell ⟨g, 2, none⟩ v2).setCell ⟨g, 3, none⟩ v3).setCell ⟨g, 4, none⟩ v4).setCell ⟨g, 5, none⟩ v5).heap[g]? = some (.cells #[v0, v1, v2, v3, v4, v5] t (0, 0)) := by
  have h1 := heap_setCell_same W g 0 _ t v0 h
  have h2 := heap_setCell_same _ g 1 _ t v1 h1
  have h3 := heap_setCell_same _ g 2 _ t v2 h2
  have h4 := heap_setCell_same _ g 3 _ t v3 h3
  have h5 := heap_setCell_same _ g 4 _ t v4 h4
  have h6 := heap_setCell_same _ g 5 _ t v5 h5
  simpa using h6
theorem kept_put6 {W : World} {g : Nat} {v0 v1 v2 v3 v4 v5 : Value} : Kept (fun i => i = g) W ((((((W.setCell ⟨g, 0, none⟩ v0).setCell ⟨g, 1, none⟩ v1).setCell ⟨g, 2, none⟩ v2).setCell ⟨g, 3, none⟩ v3).setCell ⟨g, 4, none⟩ v4).setCell ⟨g, 5, none⟩ v5) :=
  (((((Kept.setCell W ⟨g, 0, none⟩ v0).trans (Kept.setCell _ ⟨g, 1, none⟩ v1) (fun _ e => .inl e)).trans (Kept.setCell _ ⟨g, 2, none⟩ v2) (fun _ e => .inl e)).trans (Kept.setCell _ ⟨g, 3, none⟩ v3) (fun _ e => .inl e)).trans (Kept.setCell _ ⟨g, 4, none⟩ v4) (fun _ e => .inl e)).trans (Kept.setCell _ ⟨g, 5, none⟩ v5) (fun _ e => .inl e)
theorem box6f {W : World} {g : Nat} {x0 x1 x2 x3 x4 x5 : Value} {t : TypeId} (z : W.heap[g]? = some (.cells #[x0, x1, x2, x3, x4, x5] t (0, 0))) : ∀ i, W.frozen? ⟨g, i, none⟩ = false := fun i => by simp [World.frozen?, z]
set_option maxRecDepth 20000 in
set_option maxHeartbeats 8000000 in
theorem least_any (w : World) : Calls Tryd.prog 22 #[] w (lsP w) := by
  have KA := Kept.alloc w (.cells #[.slice none 0 0, .slice none 0 0, .slice none 0 0, .bool false, .slice none 0 0, .slice none 0 0] 27)
  obtain ⟨V, hV⟩ : ∃ V, V = w.alloc (.cells #[.slice none 0 0, .slice none 0 0, .slice none 0 0, .bool false, .slice none 0 0, .slice none 0 0] 27) := ⟨_, rfl⟩
  rw [← hV] at KA
  have HEN := hideI (rencode_any fxL (some ⟨V.heap.size, 0, none⟩) 5 _ (fx_ins V) fxL_ok (by decide))
  have KB := Kept.alloc V (.cells #[.int .i64 4, .int .u64 0, .int .u64 5, .int .i64 15, .int .u64 2, .int .u64 0, .int .i64 2, .int .u64 0, .int .u64 0, .int .i64 6, .int .u64 0, .int .u64 0, .int .i64 0, .int .u64 0, .int .u64 0] 56)
  have HKA := hideI (KA.trans KB (fun _ f => f.elim))
  have HBX : Hid (V.heap[w.heap.size]? = some (.cells #[.slice none 0 0, .slice none 0 0, .slice none 0 0, .bool false, .slice none 0 0, .slice none 0 0] 27 (0, 0))) := hideI (by rw [hV]; exact heap_alloc_new w _)
  have HBV := hideI (KB.heap HBX.out (fun f => f))
  have hsz : V.heap.size = w.heap.size + 1 := by rw [hV]; simp
  rw [show fxL.length = 5 from rfl, hsz] at HEN
  obtain ⟨nb, hnb⟩ : ∃ nb, nb = (ibL fxL).length := ⟨_, rfl⟩
  have HNB := hideI hnb
  subst hV
  clear KA KB hnb hsz HBX
  go_enter Tryd.func22, Tryd.ntmps22
  go_wp2_with (go_at_call 38; refine HEN.out.mono ?_; clear HEN; rintro e W1 ⟨h1, -, K1⟩; obtain ⟨aO, cO, he, hg⟩ := h1 fxL_good; rw [← HNB.out] at he hg; subst he; have HK1 := hideI (HKA.out.trans K1 (fun _ f => f.elim)); have HG := hideI hg; have HB1 := hideI (K1.heap HBV.out (fun f => f)); have HL2 := hideI (((Kept.alloc W1 (.cells #[.int .i64 0] 3)).trans (Kept.alloc _ (.cells #[.int .i64 0, .string ⟨#[97]⟩] 63)) (fun _ f => f.elim))); have HB3 := hideI (HL2.out.heap HB1.out (fun f => f)); obtain ⟨z0, z1, z2, z3, z4, z5⟩ := box6 HB3.out; have zf := box6f HB3.out; clear K1 h1 hg HBV)
  refine bodyPost_ret (results_cell1V rfl _ _ _ w.heap.size _ rfl (load_pgV (pg_put6 HB3.out))) rfl ?_
  have hw1 := HKA.out.size
  have hw2 := HK1.out.size
  have hnb : 0 < nb := by rw [HNB.out, fx_bytes]; decide
  obtain ⟨gb, rfl, hgb, -⟩ := HG.out.cell hnb
  have hba : BytesAt W1 (some ⟨gb, 0, none⟩) (ibL fxL) := by
    obtain ⟨a, c, e, q, -⟩ := bytes_of_own HG.out.own
    simp only [Value.slice.injEq] at e
    obtain ⟨rfl, -, -⟩ := e
    exact q
  have hgw : gb ≠ w.heap.size := by simp at hgb; omega
  have hw1 := HK1.out.size
  obtain ⟨W3, hW3⟩ : ∃ W3, W3 = (W1.alloc (.cells #[.int .i64 0] 3)).alloc (.cells #[.int .i64 0, .string ⟨#[97]⟩] 63) := ⟨_, rfl⟩
  have y0 : W3.cell? ⟨W1.heap.size, 0, none⟩ = some (.int .i64 0) := by rw [hW3]; simp
  have y1 : W3.cell? ⟨W1.heap.size + 1, 0, none⟩ = some (.int .i64 0) := by rw [hW3]; simp
  have y2 : W3.cell? ⟨W1.heap.size + 1, 1, none⟩ = some (.string ⟨#[97]⟩) := by rw [hW3]; simp
  have hb3 := hba.keptI (show Kept (fun _ => False) W1 W3 by rw [hW3]; exact HL2.out)
  have K3 : Kept (fun _ => False) w W3 := by rw [hW3]; exact HK1.out.trans HL2.out (fun _ f => f.elim)
  have hlt : w.heap.size < W1.heap.size := by
    have := HKA.out.size
    have q := lt_of_block HB1.out
    exact q
  rw [← hW3]
  have K4 : Kept (fun i => i = w.heap.size) W3 ((((((W3.setCell ⟨w.heap.size, 0, none⟩ (.slice (some ⟨W1.heap.size, 0, none⟩) 1 1)).setCell ⟨w.heap.size, 1, none⟩ (.slice (some ⟨W1.heap.size + 1, 0, none⟩) 1 1)).setCell ⟨w.heap.size, 2, none⟩ (.slice none 0 0)).setCell ⟨w.heap.size, 3, none⟩ (.bool true)).setCell ⟨w.heap.size, 4, none⟩ (.slice none 0 0)).setCell ⟨w.heap.size, 5, none⟩ (.slice (some ⟨gb, 0, none⟩) nb cO)) := kept_put6
  generalize ((((((W3.setCell ⟨w.heap.size, 0, none⟩ (.slice (some ⟨W1.heap.size, 0, none⟩) 1 1)).setCell ⟨w.heap.size, 1, none⟩ (.slice (some ⟨W1.heap.size + 1, 0, none⟩) 1 1)).setCell ⟨w.heap.size, 2, none⟩ (.slice none 0 0)).setCell ⟨w.heap.size, 3, none⟩ (.bool true)).setCell ⟨w.heap.size, 4, none⟩ (.slice none 0 0)).setCell ⟨w.heap.size, 5, none⟩ (.slice (some ⟨gb, 0, none⟩) nb cO)) = W4 at *
  refine ⟨_, _, _, _, by rw [← HNB.out], ⟨?_, ?_, fun h => absurd rfl h, fun h => absurd rfl h, ?_⟩, K3.trans K4 (fun i e => .inr (by omega))⟩
  · intro _
    refine ⟨W1.heap.size, 0, rfl, fun k hk => ?_⟩
    have hk1 : k < 1 := hk
    obtain rfl : k = 0 := by omega
    exact K4.cell y0 (by simp only; omega)
  · intro _
    refine ⟨W1.heap.size + 1, 0, rfl, fun k hk => ?_⟩
    have hk1 : k < 1 := hk
    obtain rfl : k = 0 := by omega
    exact ⟨K4.cell y1 (by simp only; omega), K4.cell y2 (by simp only; omega)⟩
  · intro hne
    obtain ⟨b, off, e, hc⟩ := hb3 hne
    cases e
    exact ⟨gb, 0, rfl, fun k hk => K4.cell (hc k hk) hgw⟩
end Go.Proofs.YtohnkamobmkhkaaDoor
