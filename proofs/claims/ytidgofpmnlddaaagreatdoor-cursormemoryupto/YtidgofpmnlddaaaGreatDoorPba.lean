import Derived.Test.YtidgofpmnlddaaaGreatDoorMrg8
namespace Go.Proofs.YtidgofpmnlddaaaGreatDoor
open Go.ChangeShapes Go.WideShapes Go.ChangeAt Go.RowKit

/-- Block k of a list, and the document ahead of it. -/
def blN (L : List Po) (k : Nat) : List Po := (L.drop (16 * k)).take 16
def bbN (b : Int) (L : List Po) (k : Nat) : Int := lastd b (L.take (16 * k))
theorem bbN_zero (b : Int) (L : List Po) : bbN b L 0 = b := by simp [bbN, lastd]
theorem bbN_step (b : Int) (L : List Po) (k : Nat) : bbN b L (k + 1) = bbN (lastd b (L.take 16)) (L.drop 16) k := by
  unfold bbN
  rw [← lastd_append, show 16 * (k + 1) = 16 + 16 * k by omega, List.take_add]
theorem bbN_succ (b : Int) (L : List Po) (k : Nat) : bbN b L (k + 1) = lastd (bbN b L k) (blN L k) := by
  unfold bbN blN
  rw [← lastd_append, show 16 * (k + 1) = 16 * k + 16 by omega, List.take_add]
theorem blN_step (L : List Po) (k : Nat) : blN L (k + 1) = blN (L.drop 16) k := by
  unfold blN
  rw [List.drop_drop, show 16 * (k + 1) = 16 + 16 * k by omega]
theorem lastd_get : ∀ (F : List Po) (b : Int) (h : F.length - 1 < F.length), lastd b F = (F[F.length - 1]'h).d
  | [], _, h => by simp at h
  | [p], b, _ => rfl
  | p :: q :: F, b, _ => by
    rw [lastd, lastd_get (q :: F) p.d (by simp)]
    simp
theorem pol_get {L : List Pg} {k : Nat} (h : k < L.length) (h' : k < (pol L).length) : (pol L)[k] = (L[k]).po := by simp [pol]
theorem pol_drop (L : List Pg) (k : Nat) : pol (L.drop k) = (pol L).drop k := by simp [pol]
theorem tot_dropN' (L : List Po) (k : Nat) : tot (blN L k) ≤ tot L := by
  have h1 := tot_append (L.take (16 * k)) (L.drop (16 * k))
  have h2 := tot_append ((L.drop (16 * k)).take 16) ((L.drop (16 * k)).drop 16)
  rw [List.take_append_drop] at h1 h2
  unfold blN
  omega
theorem skl_len : ∀ (m : Nat) (L : List Po) (b : Int), (skl b (chp m L)).length = m
  | 0, _, _ => by simp [chp, skl]
  | m + 1, L, b => by rw [chp, skl, List.length_cons, skl_len m]
theorem skl_take : ∀ (k m : Nat) (L : List Po) (b : Int), k ≤ m → (skl b (chp m L)).take k = skl b (chp k L)
  | 0, m, L, b, _ => by simp [chp, skl]
  | k + 1, 0, _, _, h => by omega
  | k + 1, m + 1, L, b, h => by rw [chp, skl, List.take_succ_cons, skl_take k m _ _ (by omega), chp, skl]
theorem skl_get : ∀ (k m : Nat) (L : List Po) (b : Int), k < m → (skl b (chp m L))[k]? = some ⟨bbN b L (k + 1), (blN L k).length, (blk (bbN b L k) (blN L k)).length⟩
  | 0, 0, _, _, h => by omega
  | 0, m + 1, L, b, _ => by
    rw [chp, skl, List.getElem?_cons_zero, bbN_succ, bbN_zero]
    simp [blN]
  | k + 1, 0, _, _, h => by omega
  | k + 1, m + 1, L, b, h => by rw [chp, skl, List.getElem?_cons_succ, skl_get k m _ _ (by omega), bbN_step b L (k + 1), bbN_step b L k, blN_step]
theorem bkb_split : ∀ (k m : Nat) (L : List Po) (b : Int), k ≤ m → bkb b (chp m L) = bkb b (chp k L) ++ bkb (bbN b L k) (chp (m - k) (L.drop (16 * k)))
  | 0, m, L, b, _ => by simp [chp, bkb, bbN_zero]
  | k + 1, 0, _, _, h => by omega
  | k + 1, m + 1, L, b, h => by
    rw [chp, bkb, bkb_split k m _ _ (by omega), chp, bkb, List.append_assoc, bbN_step, List.drop_drop, show m + 1 - (k + 1) = m - k by omega, show 16 + 16 * k = 16 * (k + 1) by omega]
theorem bkb_next (k : Nat) (L : List Po) (b : Int) : bkb b (chp (k + 1) L) = bkb b (chp k L) ++ blk (bbN b L k) (blN L k) := by
  rw [bkb_split k (k + 1) L b (by omega), show k + 1 - k = 1 by omega]
  simp [chp, bkb, blN]
theorem gdl_blN {L : List Po} {b : Int} (h : gdl b L) (k : Nat) : gdl (bbN b L k) (blN L k) := by
  have h1 := (gdl_append (L.take (16 * k)) (L.drop (16 * k)) b).1 (by rw [List.take_append_drop]; exact h)
  have h2 := (gdl_append ((L.drop (16 * k)).take 16) ((L.drop (16 * k)).drop 16) (bbN b L k)).1 (by rw [List.take_append_drop]; exact h1.2)
  exact h2.1
theorem bbN_ge {L : List Po} (h : gdl (-1) L) (k : Nat) : -1 ≤ bbN (-1) L k ∧ bbN (-1) L k ≤ 2147483646 := by
  have h1 := (gdl_append (L.take (16 * k)) (L.drop (16 * k)) (-1)).1 (by rw [List.take_append_drop]; exact h)
  have h2 := gdl_last _ _ h1.1
  unfold bbN
  refine ⟨h2.1, ?_⟩
  by_cases he : L.take (16 * k) = []
  · rw [he]; simp [lastd]
  · exact (h2.2 he).2
theorem blN_len (L : List Po) (k : Nat) : (blN L k).length = min 16 (L.length - 16 * k) := by unfold blN; rw [List.length_take, List.length_drop]
theorem blk_pos {F : List Po} {b : Int} (h : gdl b F) (hne : F ≠ []) : 1 ≤ (blk b F).length := by
  have h1 := tot_blk F b
  have h2 := len_tot h
  have h3 := List.length_pos_iff.2 hne
  omega
/-- The head's length. -/
def hdl (L : List Po) : Nat := ((uvb L.length ++ uvb (tot L)) ++ skb (-1) (chp (nbp L.length) L)).length
theorem hdl_two (L : List Po) : 2 ≤ hdl L := by
  have h1 := uvb_pos L.length
  have h2 := uvb_pos (tot L)
  unfold hdl
  rw [List.length_append, List.length_append]
  omega
theorem img_hdl (L : List Po) : (img L).length = hdl L + (bkb (-1) (chp (nbp L.length) L)).length := by
  unfold img hdl
  simp only [List.length_append]
  omega
/-- Where block k's bytes begin. -/
def atN (L : List Po) (k : Nat) : Nat := hdl L + (bkb (-1) (chp k L)).length
theorem atN_zero (L : List Po) : atN L 0 = hdl L := by simp [atN, chp, bkb]
theorem atN_succ (L : List Po) (k : Nat) : atN L (k + 1) = atN L k + (blk (bbN (-1) L k) (blN L k)).length := by
  unfold atN
  rw [bkb_next, List.length_append]
  omega
theorem atN_end (L : List Po) : atN L (nbp L.length) = (img L).length := by rw [img_hdl, atN]
theorem img_at {L : List Po} {k : Nat} (hk : k < nbp L.length) : ((img L).drop (atN L k)).take (blk (bbN (-1) L k) (blN L k)).length = blk (bbN (-1) L k) (blN L k) := by
  have e : img L = (((uvb L.length ++ uvb (tot L)) ++ skb (-1) (chp (nbp L.length) L)) ++ bkb (-1) (chp k L)) ++ bkb (bbN (-1) L k) (chp (nbp L.length - k) (L.drop (16 * k))) := by
    unfold img
    rw [bkb_split k (nbp L.length) L (-1) (by omega)]
    simp only [List.append_assoc]
  have e2 : (((uvb L.length ++ uvb (tot L)) ++ skb (-1) (chp (nbp L.length) L)) ++ bkb (-1) (chp k L)).length = atN L k := by rw [List.length_append]; rfl
  rw [e, ← e2, List.drop_left]
  obtain ⟨j, hj⟩ : ∃ j, nbp L.length - k = j + 1 := ⟨nbp L.length - k - 1, by omega⟩
  rw [hj, chp, bkb]
  exact List.take_left
theorem bas_skl {L : List Po} {k : Nat} (hk : k < nbp L.length) : bas (skl (-1) (chp (nbp L.length) L)) k = bbN (-1) L k := by
  unfold bas
  by_cases h : k = 0
  · subst h
    rw [if_pos rfl, bbN_zero]
  · rw [if_neg h, skl_get (k - 1) _ L (-1) (by omega), show k - 1 + 1 = k by omega]
theorem rbk_img {L : List Po} {k : Nat} (hg : gdl (-1) L) (hk : k < nbp L.length) (h : k < (skl (-1) (chp (nbp L.length) L)).length) : rbk (((img L).drop (hdl L + szs ((skl (-1) (chp (nbp L.length) L)).take k))).take (skl (-1) (chp (nbp L.length) L))[k].z) (bas (skl (-1) (chp (nbp L.length) L)) k) (skl (-1) (chp (nbp L.length) L))[k].last (skl (-1) (chp (nbp L.length) L))[k].n = some (blN L k) := by
  have e := skl_get k (nbp L.length) L (-1) hk
  rw [List.getElem?_eq_getElem h, Option.some.injEq] at e
  rw [e, skl_take k _ L (-1) (by omega), szs_skl, bas_skl hk]
  have e2 := img_at hk
  unfold atN at e2
  simp only
  rw [e2, bbN_succ]
  exact rbk_put (gdl_blN hg k) (bbN_ge hg k).1 (by rw [blN_len]; omega)
theorem img_pos' (L : List Po) : 0 < (img L).length := by have := hdl_two L; rw [img_hdl]; omega
theorem nbp_img (L : List Po) (hg : gdl (-1) L) : nbp L.length ≤ (img L).length := by
  have h1 := tot_bkb (L := L) (b := -1) rfl
  have h2 := len_tot hg
  have h3 : nbp L.length ≤ L.length := by unfold nbp; omega
  rw [img_hdl]
  omega
theorem hdr_facts' {L : List Po} (hg : gdl (-1) L) : ∀ s ∈ skl (-1) (chp (nbp L.length) L), -1 ≤ s.last ∧ s.last ≤ 2147483646 ∧ s.n ≤ 16 := by
  intro s hs
  obtain ⟨k, hk, rfl⟩ := List.mem_iff_getElem.1 hs
  have hk' := hk
  rw [skl_len] at hk'
  have e := skl_get k (nbp L.length) L (-1) hk'
  rw [List.getElem?_eq_getElem hk, Option.some.injEq] at e
  rw [e]
  have := bbN_ge hg (k + 1)
  have := blN_len L k
  simp only
  omega
/-- An opened list of the postings L. -/
structure Opd (w : World) (bl : Nat) (L : List Po) : Prop where
  ex : ∃ (g : Nat) (sa : Option Addr) (sc : Nat), LsAt w bl (some ⟨g, 0, none⟩) (img L).length (img L) L.length (tot L) sa sc (skl (-1) (chp (nbp L.length) L)) (hdl L)
theorem Opd.kept {w w' : World} {bl : Nat} {L : List Po} (h : Opd w bl L) (k : Kept (fun _ => False) w w') : Opd w' bl L := by
  obtain ⟨g, sa, sc, h⟩ := h.ex
  exact ⟨g, sa, sc, h.kept k⟩
/-- An opened list whose image lies at g. -/
def OpdG (w : World) (bl g : Nat) (L : List Po) : Prop := ∃ (sa : Option Addr) (sc : Nat), LsAt w bl (some ⟨g, 0, none⟩) (img L).length (img L) L.length (tot L) sa sc (skl (-1) (chp (nbp L.length) L)) (hdl L)
theorem OpdG.opd {w : World} {bl g : Nat} {L : List Po} (h : OpdG w bl g L) : Opd w bl L := by
  obtain ⟨sa, sc, h⟩ := h
  exact ⟨g, sa, sc, h⟩
theorem OpdG.kept {w w' : World} {bl g : Nat} {L : List Po} (h : OpdG w bl g L) (k : Kept (fun _ => False) w w') : OpdG w' bl g L := by
  obtain ⟨sa, sc, h⟩ := h
  exact ⟨sa, sc, h.kept k⟩
theorem popen_goodG (L : List Po) (a : Option Addr) (c : Nat) (ad : Nat → Addr) (w : World) (hA : BytesAt w a (img L)) (hg : gdl (-1) L) (hl : (img L).length ≤ 1073741824) (hE : ErQ w ad) :
    Calls Tryz.prog 26 #[.slice a (img L).length c] w fun e w' => ∃ bl g, e = .returned (.tuple #[.pointer (some ⟨bl, 0, none⟩), .nilIface]) ∧ OpdG w' bl g L ∧ w.heap.size ≤ g ∧ Kept (fun _ => False) w w' := by
  have ho := opn_put hg (by omega)
  refine (popen_any (img L) a c ad w hA (img_bytes hg) hl hE.p hE.v9).mono ?_
  rw [ho]
  rintro e w' ⟨bl, g, h, sa, sc, rfl, hh, hLs, hng, k⟩
  obtain ⟨_, _, p, h1, h2⟩ := opn_back (img_bytes hg) ho
  rw [h1] at hh
  injection hh with hh
  subst hh
  have hp : p = hdl L := by rw [img_hdl] at h2; omega
  subst hp
  exact ⟨bl, g, rfl, ⟨sa, sc, hLs⟩, hng, k⟩
theorem popen_good (L : List Po) (a : Option Addr) (c : Nat) (ad : Nat → Addr) (w : World) (hA : BytesAt w a (img L)) (hg : gdl (-1) L) (hl : (img L).length ≤ 1073741824) (hE : ErQ w ad) :
    Calls Tryz.prog 26 #[.slice a (img L).length c] w fun e w' => ∃ bl, e = .returned (.tuple #[.pointer (some ⟨bl, 0, none⟩), .nilIface]) ∧ Opd w' bl L ∧ Kept (fun _ => False) w w' := by
  refine (popen_goodG L a c ad w hA hg hl hE).mono ?_
  rintro e w' ⟨bl, g, rfl, ho, _, k⟩
  exact ⟨bl, rfl, ho.opd, k⟩
theorem blocks_of (bl : Nat) (L : List Po) (w : World) (h : Opd w bl L) : Calls Tryz.prog 55 #[.pointer (some ⟨bl, 0, none⟩)] w fun e w' => e = .returned (.int .i64 ((nbp L.length : Nat) : Int)) ∧ w' = w := by
  obtain ⟨g, sa, sc, h⟩ := h.ex
  have := blocks_any _ _ _ _ _ _ _ _ _ _ w h
  rw [skl_len] at this
  exact this
theorem docs_of (bl : Nat) (L : List Po) (w : World) (h : Opd w bl L) : Calls Tryz.prog 47 #[.pointer (some ⟨bl, 0, none⟩)] w fun e w' => e = .returned (.int .i64 ((L.length : Nat) : Int)) ∧ w' = w := by
  obtain ⟨g, sa, sc, h⟩ := h.ex
  exact docs_any _ _ _ _ _ _ _ _ _ _ w h
end Go.Proofs.YtidgofpmnlddaaaGreatDoor
