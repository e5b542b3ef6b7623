import Derived.Test.YtidgofpmnlddaaaGreatDoorPba
namespace Go.Proofs.YtidgofpmnlddaaaGreatDoor
open Go.ChangeShapes Go.WideShapes Go.ChangeAt Go.RowKit

/-- A skip entry as it lies. -/
def skO (l d p s : Int) : Obj := .cells #[.int .i64 l, .int .i64 d, .int .i64 p, .int .i64 s] 80 (0, 0)
def skV (l d p s : Int) : Value := .agg #[.int .i64 l, .int .i64 d, .int .i64 p, .int .i64 s]
theorem skO_cells {w : World} {b : Nat} {l d p s : Int} (h : w.heap[b]? = some (skO l d p s)) :
    (w.cell? ⟨b, 0, none⟩ = some (.int .i64 l) ∧ w.cell? ⟨b, 1, none⟩ = some (.int .i64 d) ∧ w.cell? ⟨b, 2, none⟩ = some (.int .i64 p) ∧ w.cell? ⟨b, 3, none⟩ = some (.int .i64 s)) ∧ (∀ j, w.frozen? ⟨b, j, none⟩ = false) := by
  unfold skO at h
  refine ⟨⟨?_, ?_, ?_, ?_⟩, fun j => ?_⟩ <;> simp [World.cell?, World.frozen?, h]
theorem skO_new (w : World) (l d p s : Int) : (w.alloc (.cells #[.int .i64 l, .int .i64 d, .int .i64 p, .int .i64 s] 80)).heap[w.heap.size]? = some (skO l d p s) := heap_alloc_new w _
def putS (w : World) (b : Nat) (l d p s : Int) : World := (((w.setCell ⟨b, 0, none⟩ (.int .i64 l)).setCell ⟨b, 1, none⟩ (.int .i64 d)).setCell ⟨b, 2, none⟩ (.int .i64 p)).setCell ⟨b, 3, none⟩ (.int .i64 s)
theorem skO_set0 {w : World} {b : Nat} {l d p s : Int} (h : w.heap[b]? = some (skO l d p s)) (x : Int) : (w.setCell ⟨b, 0, none⟩ (.int .i64 x)).heap[b]? = some (skO x d p s) := heap_setCell_same w b 0 _ _ _ h
theorem skO_set1 {w : World} {b : Nat} {l d p s : Int} (h : w.heap[b]? = some (skO l d p s)) (x : Int) : (w.setCell ⟨b, 1, none⟩ (.int .i64 x)).heap[b]? = some (skO l x p s) := heap_setCell_same w b 1 _ _ _ h
theorem skO_set2 {w : World} {b : Nat} {l d p s : Int} (h : w.heap[b]? = some (skO l d p s)) (x : Int) : (w.setCell ⟨b, 2, none⟩ (.int .i64 x)).heap[b]? = some (skO l d x s) := heap_setCell_same w b 2 _ _ _ h
theorem skO_set3 {w : World} {b : Nat} {l d p s : Int} (h : w.heap[b]? = some (skO l d p s)) (x : Int) : (w.setCell ⟨b, 3, none⟩ (.int .i64 x)).heap[b]? = some (skO l d p x) := heap_setCell_same w b 3 _ _ _ h
theorem putS_heap {w : World} {b : Nat} {l d p s : Int} (h : w.heap[b]? = some (skO l d p s)) (l' d' p' s' : Int) : (putS w b l' d' p' s').heap[b]? = some (skO l' d' p' s') :=
  skO_set3 (skO_set2 (skO_set1 (skO_set0 h l') d') p') s'
theorem ksetS (w : World) (b o : Nat) (u : Value) : Kept (fun k => k = b) w (w.setCell ⟨b, o, none⟩ u) := Kept.setCell w ⟨b, o, none⟩ u
theorem putS_kept (w : World) (b : Nat) (l d p s : Int) : Kept (fun k => k = b) w (putS w b l d p s) := by
  unfold putS
  refine Kept.trans ?_ (ksetS _ b 3 _) (fun _ h => .inl h)
  refine Kept.trans ?_ (ksetS _ b 2 _) (fun _ h => .inl h)
  exact Kept.trans (ksetS _ b 0 _) (ksetS _ b 1 _) (fun _ h => .inl h)
theorem hasBlock_in (bl : Nat) (L : List Po) (k : Nat) (w : World) (h : Opd w bl L) (hk : k < nbp L.length) : Calls Tryz.prog 73 #[.pointer (some ⟨bl, 0, none⟩), .int .i64 k] w fun e w' => e = .returned (.bool true) ∧ w' = w := by
  obtain ⟨g, sa, sc, h⟩ := h.ex
  have c3 := h.c3
  rw [skl_len] at c3
  generalize nbp L.length = m at *
  have hk0 : (0 : Int) ≤ (k : Int) := by omega
  have hkm : (k : Int) < (m : Int) := by omega
  clear h
  go_enter Tryz.func73, Tryz.ntmps73
  go_wp2
  go_ret
  exact ⟨rfl, rfl⟩
theorem hasBlock_out (bl : Nat) (L : List Po) (k : Int) (w : World) (h : Opd w bl L) (hk : k < 0 ∨ (nbp L.length : Int) ≤ k) : Calls Tryz.prog 73 #[.pointer (some ⟨bl, 0, none⟩), .int .i64 k] w fun e w' => e = .returned (.bool false) ∧ w' = w := by
  obtain ⟨g, sa, sc, h⟩ := h.ex
  have c3 := h.c3
  rw [skl_len] at c3
  generalize nbp L.length = m at *
  clear h
  by_cases hk0 : (0 : Int) ≤ k
  · have hkm : ¬ k < (m : Int) := by omega
    clear hk
    go_enter Tryz.func73, Tryz.ntmps73
    go_wp2
    go_ret
    exact ⟨rfl, rfl⟩
  · clear hk
    go_enter Tryz.func73, Tryz.ntmps73
    go_wp2
    go_ret
    exact ⟨rfl, rfl⟩
set_option maxRecDepth 20000 in
set_option maxHeartbeats 2000000 in
theorem skip_in (bl : Nat) (L : List Po) (k : Nat) (w : World) (h : Opd w bl L) (hk : k < nbp L.length) : Calls Tryz.prog 56 #[.pointer (some ⟨bl, 0, none⟩), .int .i64 k] w fun e w' => e = .returned (.tuple #[skV (bbN (-1) L (k + 1)) ((blN L k).length : Nat) (atN L k : Nat) ((blk (bbN (-1) L k) (blN L k)).length : Nat), .bool true]) ∧ Kept (fun _ => False) w w' := by
  have K1 := Kept.alloc w (.cells #[.int .i64 0, .int .i64 0, .int .i64 0, .int .i64 0] 80)
  have HX := hideP (skO_new w 0 0 0 0)
  have CH := hideP (hasBlock_in bl L k _ (h.kept K1) hk)
  obtain ⟨g, sa, sc, h'⟩ := (h.kept K1).ex
  have c3 := h'.c3
  have e := skl_get k (nbp L.length) L (-1) hk
  have hkl : k < (skl (-1) (chp (nbp L.length) L)).length := by rw [skl_len]; exact hk
  rw [List.getElem?_eq_getElem hkl, Option.some.injEq] at e
  obtain ⟨sb, so, rfl, hc⟩ := h'.sk (by intro e; rw [e] at hkl; simp at hkl)
  obtain ⟨x0, x1, x2, x3⟩ := hc k hkl
  rw [e] at x0 x1 x3
  rw [skl_take k _ L (-1) (by omega), szs_skl, show hdl L + (bkb (-1) (chp k L)).length = atN L k from rfl] at x2
  rw [skl_len] at c3
  simp only at x0 x1 x3
  have hkm : (k : Int) < ((nbp L.length : Nat) : Int) := by omega
  have HK1 := hideP K1
  generalize bbN (-1) L (k + 1) = v0 at *
  generalize (blN L k).length = v1 at *
  generalize atN L k = v2 at *
  generalize (blk (bbN (-1) L k) (blN L k)).length = v3 at *
  generalize nbp L.length = m at *
  clear h h' hc e hkl K1
  go_enter Tryz.func56, Tryz.ntmps56
  generalize hW1 : w.alloc (.cells #[.int .i64 0, .int .i64 0, .int .i64 0, .int .i64 0] 80) = W1 at *
  obtain ⟨⟨z0, z1, z2, z3⟩, gz⟩ := skO_cells HX.out
  have g0 := gz 0
  have g1 := gz 1
  have g2 := gz 2
  have g3 := gz 3
  clear gz
  have HPh := hideP (putS_heap HX.out v0 (v1 : Nat) (v2 : Nat) (v3 : Nat))
  have HPk := hideP (HK1.out.trans (putS_kept W1 w.heap.size v0 (v1 : Nat) (v2 : Nat) (v3 : Nat)) (fun i hi => .inr (by omega)))
  go_wp2_with (first
    | (rw [hW1]; clear hW1)
    | (go_at_call 73; refine CH.out.mono ?_; clear CH; rintro e W1 ⟨rfl, rfl⟩))
  obtain ⟨⟨q0, q1, q2, q3⟩, -⟩ := skO_cells HPh.out
  simp only [putS] at q0 q1 q2 q3
  refine bodyPost_ret (v := .tuple #[skV v0 (v1 : Nat) (v2 : Nat) (v3 : Nat), .bool true]) (by simp [results, Tryz.results56, go_sem, q0, q1, q2, q3, skV]) rfl ⟨rfl, HPk.out⟩
set_option maxRecDepth 20000 in
set_option maxHeartbeats 2000000 in
theorem skip_out (bl : Nat) (L : List Po) (k : Int) (w : World) (h : Opd w bl L) (hk : k < 0 ∨ (nbp L.length : Int) ≤ k) : Calls Tryz.prog 56 #[.pointer (some ⟨bl, 0, none⟩), .int .i64 k] w fun e w' => e = .returned (.tuple #[skV 0 0 0 0, .bool false]) ∧ Kept (fun _ => False) w w' := by
  have K1 := Kept.alloc w (.cells #[.int .i64 0, .int .i64 0, .int .i64 0, .int .i64 0] 80)
  have HX := hideP (skO_new w 0 0 0 0)
  have CH := hideP (hasBlock_out bl L k _ (h.kept K1) hk)
  have HK1 := hideP K1
  clear h K1 hk
  go_enter Tryz.func56, Tryz.ntmps56
  generalize hW1 : w.alloc (.cells #[.int .i64 0, .int .i64 0, .int .i64 0, .int .i64 0] 80) = W1 at *
  obtain ⟨⟨z0, z1, z2, z3⟩, gz⟩ := skO_cells HX.out
  have g0 := gz 0
  have g1 := gz 1
  have g2 := gz 2
  have g3 := gz 3
  clear gz
  have HPh := hideP (putS_heap HX.out 0 0 0 0)
  have HPk := hideP (HK1.out.trans (putS_kept W1 w.heap.size 0 0 0 0) (fun i hi => .inr (by omega)))
  go_wp2_with (first
    | (rw [hW1]; clear hW1)
    | (go_at_call 73; refine CH.out.mono ?_; clear CH; rintro e W1 ⟨rfl, rfl⟩))
  obtain ⟨⟨q0, q1, q2, q3⟩, -⟩ := skO_cells HPh.out
  simp only [putS] at q0 q1 q2 q3
  refine bodyPost_ret (v := .tuple #[skV 0 0 0 0, .bool false]) (by simp [results, Tryz.results56, go_sem, q0, q1, q2, q3, skV]) rfl ⟨rfl, HPk.out⟩
theorem block_out (bl : Nat) (L : List Po) (k : Int) (w : World) (h : Opd w bl L) (hk : k < 0 ∨ (nbp L.length : Int) ≤ k) : Calls Tryz.prog 70 #[.pointer (some ⟨bl, 0, none⟩), .int .i64 k] w fun e w' => e = .returned (.slice none 0 0) ∧ w' = w := by
  have CH := hideP (hasBlock_out bl L k w h hk)
  clear h hk
  go_enter Tryz.func70, Tryz.ntmps70
  go_wp2_with (go_at_call 73; refine CH.out.mono ?_; clear CH; rintro e W1 ⟨rfl, rfl⟩)
  go_ret
  exact ⟨rfl, rfl⟩
/-- What Block leaves: postings in memory of their own. -/
def blPost (w : World) (F : List Po) (e : Ending) (w' : World) : Prop := ∃ (FL : List Pg) (a : Option Addr) (c : Nat), pol FL = F ∧ e = .returned (.slice a FL.length c) ∧ PsAt w' a FL ∧ FL.length ≤ c ∧ Far w w' a FL ∧ Kept (fun _ => False) w w'
theorem block_in (bl : Nat) (L : List Po) (k : Nat) (ad : Nat → Addr) (w : World) (h : Opd w bl L) (hg : gdl (-1) L) (hl : (img L).length ≤ 1073741824) (hk : k < nbp L.length) (hE : ErQ w ad) : Calls Tryz.prog 70 #[.pointer (some ⟨bl, 0, none⟩), .int .i64 k] w (blPost w (blN L k)) := by
  have CH := hideP (hasBlock_in bl L k w h hk)
  obtain ⟨g, sa, sc, h'⟩ := h.ex
  have hkl : k < (skl (-1) (chp (nbp L.length) L)).length := by rw [skl_len]; exact hk
  have hip := img_pos' L
  have hF := hdr_facts' hg
  have CB := readBlock_any bl _ _ (img L) L.length (tot L) sa sc _ (hdl L) k ad w h' hkl (img_bytes hg) hip (by omega) (by rw [szs_skl, ← img_hdl]; exact Nat.le_refl _) hF (by rw [skl_len]; have := hk; have := nbp_img L hg; omega) hE.p
  rw [rbk_img hg hk hkl] at CB
  have HCB := hideP CB
  clear CB h h' hk hkl hip hF hE
  go_enter Tryz.func70, Tryz.ntmps70
  go_wp2_with (first
    | (go_at_call 73; refine CH.out.mono ?_; clear CH; rintro e W1 ⟨rfl, rfl⟩)
    | (go_at_call 68; refine HCB.out.mono ?_; clear HCB; rintro e W2 ⟨FL, a, c, hFL, rfl, hPs, hlc, hfar, k2⟩; have HP := hideP hPs; have HF := hideP hFL; have HC := hideP hlc; have HR := hideP hfar; have HK := hideP k2; clear hFL hPs hlc hfar k2))
  go_ret
  exact ⟨FL, a, c, HF.out, rfl, HP.out, HC.out, HR.out, HK.out⟩
end Go.Proofs.YtidgofpmnlddaaaGreatDoor
