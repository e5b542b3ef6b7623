import Derived.Test.YtiiokafjfapnpaaDoorPou
namespace Go.Proofs.YtiiokafjfapnpaaDoor
open Go.ChangeShapes Go.WideShapes Go.ChangeAt Go.RowKit

/-- Block k of a list, and the document ahead of it. -/
def blN (L : List Po) (k : Nat) : List Po := (L.drop (16 * k)).take 16
def bbN (b : Int) (L : List Po) (k : Nat) : Int := lastd b (L.take (16 * k))
theorem bbN_zero (b : Int) (L : List Po) : bbN b L 0 = b := by simp [bbN, lastd]
theorem bbN_step (b : Int) (L : List Po) (k : Nat) : bbN b L (k + 1) = bbN (lastd b (L.take 16)) (L.drop 16) k := by
  unfold bbN
  rw [← lastd_append, show 16 * (k + 1) = 16 + 16 * k by omega, List.take_add]
theorem bbN_succ (b : Int) (L : List Po) (k : Nat) : bbN b L (k + 1) = lastd (bbN b L k) (blN L k) := by
  unfold bbN blN
  rw [← lastd_append, show 16 * (k + 1) = 16 * k + 16 by omega, List.take_add]
theorem blN_step (L : List Po) (k : Nat) : blN L (k + 1) = blN (L.drop 16) k := by
  unfold blN
  rw [List.drop_drop, show 16 * (k + 1) = 16 + 16 * k by omega]
theorem lastd_get : ∀ (F : List Po) (b : Int) (h : F.length - 1 < F.length), lastd b F = (F[F.length - 1]'h).d
  | [], _, h => by simp at h
  | [p], b, _ => rfl
  | p :: q :: F, b, _ => by
    rw [lastd, lastd_get (q :: F) p.d (by simp)]
    simp
theorem pol_get {L : List Pg} {k : Nat} (h : k < L.length) (h' : k < (pol L).length) : (pol L)[k] = (L[k]).po := by simp [pol]
theorem pol_drop (L : List Pg) (k : Nat) : pol (L.drop k) = (pol L).drop k := by simp [pol]
theorem tot_dropN' (L : List Po) (k : Nat) : tot (blN L k) ≤ tot L := by
  have h1 := tot_append (L.take (16 * k)) (L.drop (16 * k))
  have h2 := tot_append ((L.drop (16 * k)).take 16) ((L.drop (16 * k)).drop 16)
  rw [List.take_append_drop] at h1 h2
  unfold blN
  omega
theorem skl_len : ∀ (m : Nat) (L : List Po) (b : Int), (skl b (chp m L)).length = m
  | 0, _, _ => by simp [chp, skl]
  | m + 1, L, b => by rw [chp, skl, List.length_cons, skl_len m]
theorem skl_take : ∀ (k m : Nat) (L : List Po) (b : Int), k ≤ m → (skl b (chp m L)).take k = skl b (chp k L)
  | 0, m, L, b, _ => by simp [chp, skl]
  | k + 1, 0, _, _, h => by omega
  | k + 1, m + 1, L, b, h => by rw [chp, skl, List.take_succ_cons, skl_take k m _ _ (by omega), chp, skl]
theorem skl_get : ∀ (k m : Nat) (L : List Po) (b : Int), k < m → (skl b (chp m L))[k]? = some ⟨bbN b L (k + 1), (blN L k).length, (blk (bbN b L k) (blN L k)).length⟩
  | 0, 0, _, _, h => by omega
  | 0, m + 1, L, b, _ => by
    rw [chp, skl, List.getElem?_cons_zero, bbN_succ, bbN_zero]
    simp [blN]
  | k + 1, 0, _, _, h => by omega
  | k + 1, m + 1, L, b, h => by rw [chp, skl, List.getElem?_cons_succ, skl_get k m _ _ (by omega), bbN_step b L (k + 1), bbN_step b L k, blN_step]
theorem bkb_split : ∀ (k m : Nat) (L : List Po) (b : Int), k ≤ m → bkb b (chp m L) = bkb b (chp k L) ++ bkb (bbN b L k) (chp (m - k) (L.drop (16 * k)))
  | 0, m, L, b, _ => by simp [chp, bkb, bbN_zero]
  | k + 1, 0, _, _, h => by omega
  | k + 1, m + 1, L, b, h => by
    rw [chp, bkb, bkb_split k m _ _ (by omega), chp, bkb, List.append_assoc, bbN_step, List.drop_drop, show m + 1 - (k + 1) = m - k by omega, show 16 + 16 * k = 16 * (k + 1) by omega]
theorem bkb_next (k : Nat) (L : List Po) (b : Int) : bkb b (chp (k + 1) L) = bkb b (chp k L) ++ blk (bbN b L k) (blN L k) := by
  rw [bkb_split k (k + 1) L b (by omega), show k + 1 - k = 1 by omega]
  simp [chp, bkb, blN]
theorem gdl_blN {L : List Po} {b : Int} (h : gdl b L) (k : Nat) : gdl (bbN b L k) (blN L k) := by
  have h1 := (gdl_append (L.take (16 * k)) (L.drop (16 * k)) b).1 (by rw [List.take_append_drop]; exact h)
  have h2 := (gdl_append ((L.drop (16 * k)).take 16) ((L.drop (16 * k)).drop 16) (bbN b L k)).1 (by rw [List.take_append_drop]; exact h1.2)
  exact h2.1
theorem bbN_ge {L : List Po} (h : gdl (-1) L) (k : Nat) : -1 ≤ bbN (-1) L k ∧ bbN (-1) L k ≤ 2147483646 := by
  have h1 := (gdl_append (L.take (16 * k)) (L.drop (16 * k)) (-1)).1 (by rw [List.take_append_drop]; exact h)
  have h2 := gdl_last _ _ h1.1
  unfold bbN
  refine ⟨h2.1, ?_⟩
  by_cases he : L.take (16 * k) = []
  · rw [he]; simp [lastd]
  · exact (h2.2 he).2
theorem blN_len (L : List Po) (k : Nat) : (blN L k).length = min 16 (L.length - 16 * k) := by unfold blN; rw [List.length_take, List.length_drop]
theorem blk_pos {F : List Po} {b : Int} (h : gdl b F) (hne : F ≠ []) : 1 ≤ (blk b F).length := by
  have h1 := tot_blk F b
  have h2 := len_tot h
  have h3 := List.length_pos_iff.2 hne
  omega
/-- The head's length. -/
def hdl (L : List Po) : Nat := ((uvb L.length ++ uvb (tot L)) ++ skb (-1) (chp (nbp L.length) L)).length
theorem hdl_two (L : List Po) : 2 ≤ hdl L := by
  have h1 := uvb_pos L.length
  have h2 := uvb_pos (tot L)
  unfold hdl
  rw [List.length_append, List.length_append]
  omega
theorem img_hdl (L : List Po) : (img L).length = hdl L + (bkb (-1) (chp (nbp L.length) L)).length := by
  unfold img hdl
  simp only [List.length_append]
  omega
/-- Where block k's bytes begin. -/
def atN (L : List Po) (k : Nat) : Nat := hdl L + (bkb (-1) (chp k L)).length
theorem atN_zero (L : List Po) : atN L 0 = hdl L := by simp [atN, chp, bkb]
theorem atN_succ (L : List Po) (k : Nat) : atN L (k + 1) = atN L k + (blk (bbN (-1) L k) (blN L k)).length := by
  unfold atN
  rw [bkb_next, List.length_append]
  omega
theorem atN_end (L : List Po) : atN L (nbp L.length) = (img L).length := by rw [img_hdl, atN]
theorem img_at {L : List Po} {k : Nat} (hk : k < nbp L.length) : ((img L).drop (atN L k)).take (blk (bbN (-1) L k) (blN L k)).length = blk (bbN (-1) L k) (blN L k) := by
  have e : img L = (((uvb L.length ++ uvb (tot L)) ++ skb (-1) (chp (nbp L.length) L)) ++ bkb (-1) (chp k L)) ++ bkb (bbN (-1) L k) (chp (nbp L.length - k) (L.drop (16 * k))) := by
    unfold img
    rw [bkb_split k (nbp L.length) L (-1) (by omega)]
    simp only [List.append_assoc]
  have e2 : (((uvb L.length ++ uvb (tot L)) ++ skb (-1) (chp (nbp L.length) L)) ++ bkb (-1) (chp k L)).length = atN L k := by rw [List.length_append]; rfl
  rw [e, ← e2, List.drop_left]
  obtain ⟨j, hj⟩ : ∃ j, nbp L.length - k = j + 1 := ⟨nbp L.length - k - 1, by omega⟩
  rw [hj, chp, bkb]
  exact List.take_left
theorem bas_skl {L : List Po} {k : Nat} (hk : k < nbp L.length) : bas (skl (-1) (chp (nbp L.length) L)) k = bbN (-1) L k := by
  unfold bas
  by_cases h : k = 0
  · subst h
    rw [if_pos rfl, bbN_zero]
  · rw [if_neg h, skl_get (k - 1) _ L (-1) (by omega), show k - 1 + 1 = k by omega]
theorem rbk_img {L : List Po} {k : Nat} (hg : gdl (-1) L) (hk : k < nbp L.length) (h : k < (skl (-1) (chp (nbp L.length) L)).length) : rbk (((img L).drop (hdl L + szs ((skl (-1) (chp (nbp L.length) L)).take k))).take (skl (-1) (chp (nbp L.length) L))[k].z) (bas (skl (-1) (chp (nbp L.length) L)) k) (skl (-1) (chp (nbp L.length) L))[k].last (skl (-1) (chp (nbp L.length) L))[k].n = some (blN L k) := by
  have e := skl_get k (nbp L.length) L (-1) hk
  rw [List.getElem?_eq_getElem h, Option.some.injEq] at e
  rw [e, skl_take k _ L (-1) (by omega), szs_skl, bas_skl hk]
  have e2 := img_at hk
  unfold atN at e2
  simp only
  rw [e2, bbN_succ]
  exact rbk_put (gdl_blN hg k) (bbN_ge hg k).1 (by rw [blN_len]; omega)
theorem img_pos' (L : List Po) : 0 < (img L).length := by have := hdl_two L; rw [img_hdl]; omega
theorem nbp_img (L : List Po) (hg : gdl (-1) L) : nbp L.length ≤ (img L).length := by
  have h1 := tot_bkb (L := L) (b := -1) rfl
  have h2 := len_tot hg
  have h3 : nbp L.length ≤ L.length := by unfold nbp; omega
  rw [img_hdl]
  omega
theorem hdr_facts' {L : List Po} (hg : gdl (-1) L) : ∀ s ∈ skl (-1) (chp (nbp L.length) L), -1 ≤ s.last ∧ s.last ≤ 2147483646 ∧ s.n ≤ 16 := by
  intro s hs
  obtain ⟨k, hk, rfl⟩ := List.mem_iff_getElem.1 hs
  have hk' := hk
  rw [skl_len] at hk'
  have e := skl_get k (nbp L.length) L (-1) hk'
  rw [List.getElem?_eq_getElem hk, Option.some.injEq] at e
  rw [e]
  have := bbN_ge hg (k + 1)
  have := blN_len L k
  simp only
  omega
/-- An opened list of the postings L. -/
structure Opd (w : World) (bl : Nat) (L : List Po) : Prop where
  ex : ∃ (g : Nat) (sa : Option Addr) (sc : Nat), LsAt w bl (some ⟨g, 0, none⟩) (img L).length (img L) L.length (tot L) sa sc (skl (-1) (chp (nbp L.length) L)) (hdl L)
theorem Opd.kept {w w' : World} {bl : Nat} {L : List Po} (h : Opd w bl L) (k : Kept (fun _ => False) w w') : Opd w' bl L := by
  obtain ⟨g, sa, sc, h⟩ := h.ex
  exact ⟨g, sa, sc, h.kept k⟩
/-- An opened list whose image lies at g. -/
def OpdG (w : World) (bl g : Nat) (L : List Po) : Prop := ∃ (sa : Option Addr) (sc : Nat), LsAt w bl (some ⟨g, 0, none⟩) (img L).length (img L) L.length (tot L) sa sc (skl (-1) (chp (nbp L.length) L)) (hdl L)
theorem OpdG.opd {w : World} {bl g : Nat} {L : List Po} (h : OpdG w bl g L) : Opd w bl L := by
  obtain ⟨sa, sc, h⟩ := h
  exact ⟨g, sa, sc, h⟩
theorem OpdG.kept {w w' : World} {bl g : Nat} {L : List Po} (h : OpdG w bl g L) (k : Kept (fun _ => False) w w') : OpdG w' bl g L := by
  obtain ⟨sa, sc, h⟩ := h
  exact ⟨sa, sc, h.kept k⟩
theorem popen_goodG (L : List Po) (a : Option Addr) (c : Nat) (ad : Nat → Addr) (w : World) (hA : BytesAt w a (img L)) (hg : gdl (-1) L) (hl : (img L).length ≤ 1073741824) (hE : ErQ w ad) :
    Calls Tryd.prog 10 #[.slice a (img L).length c] w fun e w' => ∃ bl g, e = .returned (.tuple #[.pointer (some ⟨bl, 0, none⟩), .nilIface]) ∧ OpdG w' bl g L ∧ w.heap.size ≤ g ∧ Kept (fun _ => False) w w' := by
  have ho := opn_put hg (by omega)
  refine (popen_any (img L) a c ad w hA (img_bytes hg) hl hE.p hE.v9).mono ?_
  rw [ho]
  rintro e w' ⟨bl, g, h, sa, sc, rfl, hh, hLs, hng, k⟩
  obtain ⟨_, _, p, h1, h2⟩ := opn_back (img_bytes hg) ho
  rw [h1] at hh
  injection hh with hh
  subst hh
  have hp : p = hdl L := by rw [img_hdl] at h2; omega
  subst hp
  exact ⟨bl, g, rfl, ⟨sa, sc, hLs⟩, hng, k⟩
theorem popen_good (L : List Po) (a : Option Addr) (c : Nat) (ad : Nat → Addr) (w : World) (hA : BytesAt w a (img L)) (hg : gdl (-1) L) (hl : (img L).length ≤ 1073741824) (hE : ErQ w ad) :
    Calls Tryd.prog 10 #[.slice a (img L).length c] w fun e w' => ∃ bl, e = .returned (.tuple #[.pointer (some ⟨bl, 0, none⟩), .nilIface]) ∧ Opd w' bl L ∧ Kept (fun _ => False) w w' := by
  refine (popen_goodG L a c ad w hA hg hl hE).mono ?_
  rintro e w' ⟨bl, g, rfl, ho, _, k⟩
  exact ⟨bl, rfl, ho.opd, k⟩
theorem blocks_of (bl : Nat) (L : List Po) (w : World) (h : Opd w bl L) : Calls Tryd.prog 15 #[.pointer (some ⟨bl, 0, none⟩)] w fun e w' => e = .returned (.int .i64 ((nbp L.length : Nat) : Int)) ∧ w' = w := by
  obtain ⟨g, sa, sc, h⟩ := h.ex
  have := blocks_any _ _ _ _ _ _ _ _ _ _ w h
  rw [skl_len] at this
  exact this
theorem docs_of (bl : Nat) (L : List Po) (w : World) (h : Opd w bl L) : Calls Tryd.prog 12 #[.pointer (some ⟨bl, 0, none⟩)] w fun e w' => e = .returned (.int .i64 ((L.length : Nat) : Int)) ∧ w' = w := by
  obtain ⟨g, sa, sc, h⟩ := h.ex
  exact docs_any _ _ _ _ _ _ _ _ _ _ w h
theorem total_of (bl : Nat) (L : List Po) (w : World) (h : Opd w bl L) : Calls Tryd.prog 13 #[.pointer (some ⟨bl, 0, none⟩)] w fun e w' => e = .returned (.int .i64 ((tot L : Nat) : Int)) ∧ w' = w := by
  obtain ⟨g, sa, sc, h⟩ := h.ex
  exact total_any _ _ _ _ _ _ _ _ _ _ w h
end Go.Proofs.YtiiokafjfapnpaaDoor
namespace Go.Proofs.YtiiokafjfapnpaaDoor
open Go.ChangeShapes Go.WideShapes Go.ChangeAt Go.RowKit

/-- A skip entry as it lies. -/
def skO (l d p s : Int) : Obj := .cells #[.int .i64 l, .int .i64 d, .int .i64 p, .int .i64 s] 45 (0, 0)
def skV (l d p s : Int) : Value := .agg #[.int .i64 l, .int .i64 d, .int .i64 p, .int .i64 s]
theorem skO_cells {w : World} {b : Nat} {l d p s : Int} (h : w.heap[b]? = some (skO l d p s)) :
    (w.cell? ⟨b, 0, none⟩ = some (.int .i64 l) ∧ w.cell? ⟨b, 1, none⟩ = some (.int .i64 d) ∧ w.cell? ⟨b, 2, none⟩ = some (.int .i64 p) ∧ w.cell? ⟨b, 3, none⟩ = some (.int .i64 s)) ∧ (∀ j, w.frozen? ⟨b, j, none⟩ = false) := by
  unfold skO at h
  refine ⟨⟨?_, ?_, ?_, ?_⟩, fun j => ?_⟩ <;> simp [World.cell?, World.frozen?, h]
theorem skO_new (w : World) (l d p s : Int) : (w.alloc (.cells #[.int .i64 l, .int .i64 d, .int .i64 p, .int .i64 s] 45)).heap[w.heap.size]? = some (skO l d p s) := heap_alloc_new w _
def putS (w : World) (b : Nat) (l d p s : Int) : World := (((w.setCell ⟨b, 0, none⟩ (.int .i64 l)).setCell ⟨b, 1, none⟩ (.int .i64 d)).setCell ⟨b, 2, none⟩ (.int .i64 p)).setCell ⟨b, 3, none⟩ (.int .i64 s)
theorem skO_set0 {w : World} {b : Nat} {l d p s : Int} (h : w.heap[b]? = some (skO l d p s)) (x : Int) : (w.setCell ⟨b, 0, none⟩ (.int .i64 x)).heap[b]? = some (skO x d p s) := heap_setCell_same w b 0 _ _ _ h
theorem skO_set1 {w : World} {b : Nat} {l d p s : Int} (h : w.heap[b]? = some (skO l d p s)) (x : Int) : (w.setCell ⟨b, 1, none⟩ (.int .i64 x)).heap[b]? = some (skO l x p s) := heap_setCell_same w b 1 _ _ _ h
theorem skO_set2 {w : World} {b : Nat} {l d p s : Int} (h : w.heap[b]? = some (skO l d p s)) (x : Int) : (w.setCell ⟨b, 2, none⟩ (.int .i64 x)).heap[b]? = some (skO l d x s) := heap_setCell_same w b 2 _ _ _ h
theorem skO_set3 {w : World} {b : Nat} {l d p s : Int} (h : w.heap[b]? = some (skO l d p s)) (x : Int) : (w.setCell ⟨b, 3, none⟩ (.int .i64 x)).heap[b]? = some (skO l d p x) := heap_setCell_same w b 3 _ _ _ h
theorem putS_heap {w : World} {b : Nat} {l d p s : Int} (h : w.heap[b]? = some (skO l d p s)) (l' d' p' s' : Int) : (putS w b l' d' p' s').heap[b]? = some (skO l' d' p' s') :=
  skO_set3 (skO_set2 (skO_set1 (skO_set0 h l') d') p') s'
theorem ksetS (w : World) (b o : Nat) (u : Value) : Kept (fun k => k = b) w (w.setCell ⟨b, o, none⟩ u) := Kept.setCell w ⟨b, o, none⟩ u
theorem putS_kept (w : World) (b : Nat) (l d p s : Int) : Kept (fun k => k = b) w (putS w b l d p s) := by
  unfold putS
  refine Kept.trans ?_ (ksetS _ b 3 _) (fun _ h => .inl h)
  refine Kept.trans ?_ (ksetS _ b 2 _) (fun _ h => .inl h)
  exact Kept.trans (ksetS _ b 0 _) (ksetS _ b 1 _) (fun _ h => .inl h)
theorem hasBlock_in (bl : Nat) (L : List Po) (k : Nat) (w : World) (h : Opd w bl L) (hk : k < nbp L.length) : Calls Tryd.prog 28 #[.pointer (some ⟨bl, 0, none⟩), .int .i64 k] w fun e w' => e = .returned (.bool true) ∧ w' = w := by
  obtain ⟨g, sa, sc, h⟩ := h.ex
  have c3 := h.c3
  rw [skl_len] at c3
  generalize nbp L.length = m at *
  have hk0 : (0 : Int) ≤ (k : Int) := by omega
  have hkm : (k : Int) < (m : Int) := by omega
  clear h
  go_enter Tryd.func28, Tryd.ntmps28
  go_wp2
  go_ret
  exact ⟨rfl, rfl⟩
theorem hasBlock_out (bl : Nat) (L : List Po) (k : Int) (w : World) (h : Opd w bl L) (hk : k < 0 ∨ (nbp L.length : Int) ≤ k) : Calls Tryd.prog 28 #[.pointer (some ⟨bl, 0, none⟩), .int .i64 k] w fun e w' => e = .returned (.bool false) ∧ w' = w := by
  obtain ⟨g, sa, sc, h⟩ := h.ex
  have c3 := h.c3
  rw [skl_len] at c3
  generalize nbp L.length = m at *
  clear h
  by_cases hk0 : (0 : Int) ≤ k
  · have hkm : ¬ k < (m : Int) := by omega
    clear hk
    go_enter Tryd.func28, Tryd.ntmps28
    go_wp2
    go_ret
    exact ⟨rfl, rfl⟩
  · clear hk
    go_enter Tryd.func28, Tryd.ntmps28
    go_wp2
    go_ret
    exact ⟨rfl, rfl⟩
set_option maxRecDepth 20000 in
set_option maxHeartbeats 2000000 in
theorem skip_in (bl : Nat) (L : List Po) (k : Nat) (w : World) (h : Opd w bl L) (hk : k < nbp L.length) : Calls Tryd.prog 16 #[.pointer (some ⟨bl, 0, none⟩), .int .i64 k] w fun e w' => e = .returned (.tuple #[skV (bbN (-1) L (k + 1)) ((blN L k).length : Nat) (atN L k : Nat) ((blk (bbN (-1) L k) (blN L k)).length : Nat), .bool true]) ∧ Kept (fun _ => False) w w' := by
  have K1 := Kept.alloc w (.cells #[.int .i64 0, .int .i64 0, .int .i64 0, .int .i64 0] 45)
  have HX := hideP (skO_new w 0 0 0 0)
  have CH := hideP (hasBlock_in bl L k _ (h.kept K1) hk)
  obtain ⟨g, sa, sc, h'⟩ := (h.kept K1).ex
  have c3 := h'.c3
  have e := skl_get k (nbp L.length) L (-1) hk
  have hkl : k < (skl (-1) (chp (nbp L.length) L)).length := by rw [skl_len]; exact hk
  rw [List.getElem?_eq_getElem hkl, Option.some.injEq] at e
  obtain ⟨sb, so, rfl, hc⟩ := h'.sk (by intro e; rw [e] at hkl; simp at hkl)
  obtain ⟨x0, x1, x2, x3⟩ := hc k hkl
  rw [e] at x0 x1 x3
  rw [skl_take k _ L (-1) (by omega), szs_skl, show hdl L + (bkb (-1) (chp k L)).length = atN L k from rfl] at x2
  rw [skl_len] at c3
  simp only at x0 x1 x3
  have hkm : (k : Int) < ((nbp L.length : Nat) : Int) := by omega
  have HK1 := hideP K1
  generalize bbN (-1) L (k + 1) = v0 at *
  generalize (blN L k).length = v1 at *
  generalize atN L k = v2 at *
  generalize (blk (bbN (-1) L k) (blN L k)).length = v3 at *
  generalize nbp L.length = m at *
  clear h h' hc e hkl K1
  go_enter Tryd.func16, Tryd.ntmps16
  generalize hW1 : w.alloc (.cells #[.int .i64 0, .int .i64 0, .int .i64 0, .int .i64 0] 45) = W1 at *
  obtain ⟨⟨z0, z1, z2, z3⟩, gz⟩ := skO_cells HX.out
  have g0 := gz 0
  have g1 := gz 1
  have g2 := gz 2
  have g3 := gz 3
  clear gz
  have HPh := hideP (putS_heap HX.out v0 (v1 : Nat) (v2 : Nat) (v3 : Nat))
  have HPk := hideP (HK1.out.trans (putS_kept W1 w.heap.size v0 (v1 : Nat) (v2 : Nat) (v3 : Nat)) (fun i hi => .inr (by omega)))
  go_wp2_with (first
    | (rw [hW1]; clear hW1)
    | (go_at_call 28; refine CH.out.mono ?_; clear CH; rintro e W1 ⟨rfl, rfl⟩))
  obtain ⟨⟨q0, q1, q2, q3⟩, -⟩ := skO_cells HPh.out
  simp only [putS] at q0 q1 q2 q3
  refine bodyPost_ret (v := .tuple #[skV v0 (v1 : Nat) (v2 : Nat) (v3 : Nat), .bool true]) (by simp [results, Tryd.results16, go_sem, q0, q1, q2, q3, skV]) rfl ⟨rfl, HPk.out⟩
set_option maxRecDepth 20000 in
set_option maxHeartbeats 2000000 in
theorem skip_out (bl : Nat) (L : List Po) (k : Int) (w : World) (h : Opd w bl L) (hk : k < 0 ∨ (nbp L.length : Int) ≤ k) : Calls Tryd.prog 16 #[.pointer (some ⟨bl, 0, none⟩), .int .i64 k] w fun e w' => e = .returned (.tuple #[skV 0 0 0 0, .bool false]) ∧ Kept (fun _ => False) w w' := by
  have K1 := Kept.alloc w (.cells #[.int .i64 0, .int .i64 0, .int .i64 0, .int .i64 0] 45)
  have HX := hideP (skO_new w 0 0 0 0)
  have CH := hideP (hasBlock_out bl L k _ (h.kept K1) hk)
  have HK1 := hideP K1
  clear h K1 hk
  go_enter Tryd.func16, Tryd.ntmps16
  generalize hW1 : w.alloc (.cells #[.int .i64 0, .int .i64 0, .int .i64 0, .int .i64 0] 45) = W1 at *
  obtain ⟨⟨z0, z1, z2, z3⟩, gz⟩ := skO_cells HX.out
  have g0 := gz 0
  have g1 := gz 1
  have g2 := gz 2
  have g3 := gz 3
  clear gz
  have HPh := hideP (putS_heap HX.out 0 0 0 0)
  have HPk := hideP (HK1.out.trans (putS_kept W1 w.heap.size 0 0 0 0) (fun i hi => .inr (by omega)))
  go_wp2_with (first
    | (rw [hW1]; clear hW1)
    | (go_at_call 28; refine CH.out.mono ?_; clear CH; rintro e W1 ⟨rfl, rfl⟩))
  obtain ⟨⟨q0, q1, q2, q3⟩, -⟩ := skO_cells HPh.out
  simp only [putS] at q0 q1 q2 q3
  refine bodyPost_ret (v := .tuple #[skV 0 0 0 0, .bool false]) (by simp [results, Tryd.results16, go_sem, q0, q1, q2, q3, skV]) rfl ⟨rfl, HPk.out⟩
theorem block_out (bl : Nat) (L : List Po) (k : Int) (w : World) (h : Opd w bl L) (hk : k < 0 ∨ (nbp L.length : Int) ≤ k) : Calls Tryd.prog 18 #[.pointer (some ⟨bl, 0, none⟩), .int .i64 k] w fun e w' => e = .returned (.slice none 0 0) ∧ w' = w := by
  have CH := hideP (hasBlock_out bl L k w h hk)
  clear h hk
  go_enter Tryd.func18, Tryd.ntmps18
  go_wp2_with (go_at_call 28; refine CH.out.mono ?_; clear CH; rintro e W1 ⟨rfl, rfl⟩)
  go_ret
  exact ⟨rfl, rfl⟩
/-- What Block leaves: postings in memory of their own. -/
def blPost (w : World) (F : List Po) (e : Ending) (w' : World) : Prop := ∃ (FL : List Pg) (a : Option Addr) (c : Nat), pol FL = F ∧ e = .returned (.slice a FL.length c) ∧ PsAt w' a FL ∧ FL.length ≤ c ∧ (∀ g ∈ FL, g.ps ≠ [] → ∃ b off, g.a = some ⟨b, off, none⟩ ∧ w.heap.size ≤ b ∧ b < w'.heap.size) ∧ Kept (fun _ => False) w w'
theorem block_in (bl : Nat) (L : List Po) (k : Nat) (ad : Nat → Addr) (w : World) (h : Opd w bl L) (hg : gdl (-1) L) (hl : (img L).length ≤ 1073741824) (hk : k < nbp L.length) (hE : ErQ w ad) : Calls Tryd.prog 18 #[.pointer (some ⟨bl, 0, none⟩), .int .i64 k] w (blPost w (blN L k)) := by
  have CH := hideP (hasBlock_in bl L k w h hk)
  obtain ⟨g, sa, sc, h'⟩ := h.ex
  have hkl : k < (skl (-1) (chp (nbp L.length) L)).length := by rw [skl_len]; exact hk
  have hip := img_pos' L
  have hF := hdr_facts' hg
  have CB := readBlock_any bl _ _ (img L) L.length (tot L) sa sc _ (hdl L) k ad w h' hkl (img_bytes hg) hip (by omega) (by rw [szs_skl, ← img_hdl]; exact Nat.le_refl _) hF (by rw [skl_len]; have := hk; have := nbp_img L hg; omega) hE.p
  rw [rbk_img hg hk hkl] at CB
  have HCB := hideP CB
  clear CB h h' hk hkl hip hF hE
  go_enter Tryd.func18, Tryd.ntmps18
  go_wp2_with (first
    | (go_at_call 28; refine CH.out.mono ?_; clear CH; rintro e W1 ⟨rfl, rfl⟩)
    | (go_at_call 30; refine HCB.out.mono ?_; clear HCB; rintro e W2 ⟨FL, a, c, hFL, rfl, hPs, hlc, hfar, k2⟩; have HP := hideP hPs; have HF := hideP hFL; have HC := hideP hlc; have HR := hideP hfar; have HK := hideP k2; clear hFL hPs hlc hfar k2))
  go_ret
  exact ⟨FL, a, c, HF.out, rfl, HP.out, HC.out, HR.out, HK.out⟩
end Go.Proofs.YtiiokafjfapnpaaDoor
