import Derived.Test.YtjkbongfampgjaaGreatDoorMrg6
import Derived.Test.YtjkbongfampgjaaGreatDoorMrg5
namespace Go.Proofs.YtjkbongfampgjaaGreatDoor
open Go.ChangeShapes Go.WideShapes Go.ChangeAt Go.RowKit

/-- The number of an int brought into 0 .. m - 1. -/
def brt (m : Int) (x : Int) : Int := IntKind.u64.wrap x % m
theorem brt_lo {m : Int} (h : 0 < m) (x : Int) : 0 ≤ brt m x := Int.emod_nonneg _ (by omega)
theorem brt_hi {m : Int} (h : 0 < m) (x : Int) : brt m x < m := Int.emod_lt_of_pos _ h
def posl (g : Int) (n : Nat) : List Int := (List.range n).map (fun k : Nat => 7 * (k : Int) + g)
theorem posl_step (g : Int) (n : Nat) : posl g (n + 1) = posl g n ++ [7 * (n : Int) + g] := by unfold posl; rw [List.range_succ, List.map_append]; rfl
theorem posl_len (g : Int) (n : Nat) : (posl g n).length = n := by simp [posl]
/-- The document behind k gaps. -/
def dcl (G : List Int) : Nat → Int
  | 0 => -1
  | k + 1 => dcl G k + (1 + G[k]?.getD 0)
def nfr (F : List Int) (k : Nat) : Nat := match F[k]? with | some x => 1 + (brt 5 x).toNat | none => 1
theorem nfr_pos (F : List Int) (k : Nat) : 1 ≤ nfr F k ∧ nfr F k ≤ 5 := by
  unfold nfr
  split
  · rename_i x _
    have := brt_lo (m := 5) (by decide) x
    have := brt_hi (m := 5) (by decide) x
    omega
  · omega
def scl (G F : List Int) : Nat → List Po
  | 0 => []
  | k + 1 => scl G F k ++ [⟨dcl G (k + 1), posl (G[k]?.getD 0) (nfr F k)⟩]
theorem scl_len (G F : List Int) : ∀ k, (scl G F k).length = k
  | 0 => rfl
  | k + 1 => by rw [scl, List.length_append, scl_len G F k]; rfl
theorem scl_last (G F : List Int) : ∀ k, lastd (-1) (scl G F k) = dcl G k
  | 0 => rfl
  | k + 1 => by rw [scl, lastd_append]; rfl
def In40 (G : List Int) : Prop := ∀ x ∈ G, 0 ≤ x ∧ x ≤ 40
theorem In40.at {G : List Int} (h : In40 G) (k : Nat) : 0 ≤ G[k]?.getD 0 ∧ G[k]?.getD 0 ≤ 40 := by
  rcases Nat.lt_or_ge k G.length with q | q
  · rw [List.getElem?_eq_getElem q]; exact h _ (List.getElem_mem q)
  · rw [List.getElem?_eq_none q]; simp
theorem dcl_le {G : List Int} (h : In40 G) : ∀ k : Nat, -1 ≤ dcl G k ∧ dcl G k ≤ 41 * (k : Int) - 1
  | 0 => by simp [dcl]
  | k + 1 => by
    have h1 := dcl_le h k
    have h2 := h.at k
    rw [dcl]
    omega
theorem ris_posl (g : Int) (hg : 0 ≤ g ∧ g ≤ 40) : ∀ n, n ≤ 5 → Ris (posl g n) 0 := by
  intro n hn
  have : n = 0 ∨ n = 1 ∨ n = 2 ∨ n = 3 ∨ n = 4 ∨ n = 5 := by omega
  rcases this with rfl | rfl | rfl | rfl | rfl | rfl <;> simp [posl, List.range, List.range.loop, Ris] <;> omega
theorem scl_good {G F : List Int} (h : In40 G) : ∀ k : Nat, k ≤ 1048576 → gdl (-1) (scl G F k)
  | 0, _ => trivial
  | k + 1, hk => by
    rw [scl, gdl_append]
    refine ⟨scl_good h k (by omega), ?_, trivial⟩
    rw [scl_last]
    have h1 := dcl_le h k
    have h2 := h.at k
    have h3 := nfr_pos F k
    refine ⟨?_, ?_, ?_, ?_, ris_posl _ h2 _ h3.2⟩
    · simp only [dcl]; omega
    · simp only [dcl]; omega
    · simp only [dcl]; omega
    · intro e
      have := congrArg List.length e
      rw [posl_len] at this
      simp at this
      omega
theorem scl_tot (G F : List Int) : ∀ k, tot (scl G F k) ≤ 5 * k
  | 0 => Nat.le_refl _
  | k + 1 => by
    have h1 := scl_tot G F k
    have h3 := nfr_pos F k
    rw [scl, tot_append]
    simp only [tot, posl_len]
    omega
theorem img_leS {L : List Po} (hg : gdl (-1) L) (hl : L.length ≤ 1048576) (ht : tot L ≤ 5242880) : (img L).length ≤ 1073741824 := by
  have h1 := bkb_le (m := nbp L.length) hg (by omega) (by omega)
  have u1 := uvb_le10P L.length (by omega)
  have u2 := uvb_le10P (tot L) (by omega)
  have hn : nbp L.length ≤ 65537 := by unfold nbp; omega
  unfold img
  rw [List.length_append, List.length_append, List.length_append]
  omega
/-- The moves stay below the bound. -/
def Bnd (P : List Po) (u mv : Nat) (ask : Bool) : Prop := mv ≤ 2 * u - 1 + tot (P.take (u - 1)) + (if ask then (posU P u).length else 0)
theorem tot_pos (P : List Po) : ∀ u, tot (P.take (u - 1)) + (posU P u).length ≤ tot (P.take u)
  | 0 => by simp [posU]
  | u + 1 => by
    rw [Nat.add_sub_cancel]
    rcases Nat.lt_or_ge u P.length with q | q
    · rw [List.take_succ_eq_append_getElem q, tot_append]
      simp [posU, List.getElem?_eq_getElem q, tot]
    · simp only [posU, List.getElem?_eq_none q, List.length_nil, Nat.add_zero]
      rw [List.take_of_length_le q, List.take_of_length_le (by omega)]
      exact Nat.le_refl _
theorem tot_take_mono (P : List Po) {i j : Nat} (h : i ≤ j) : tot (P.take i) ≤ tot (P.take j) := by
  have := tot_append ((P.take j).take i) ((P.take j).drop i)
  rw [List.take_append_drop, List.take_take, Nat.min_eq_left h] at this
  omega
theorem Bnd.ask_le {P : List Po} {u mv : Nat} {ask : Bool} (h : Bnd P u mv ask) : mv ≤ 2 * u - 1 + tot (P.take u) := by
  have := tot_pos P u
  unfold Bnd at h
  cases ask <;> simp at h <;> omega
theorem mvU_two {n u q : Nat} (hu : u ≤ q) : mvU n u q + 1 ≤ 2 * (q + 1 - u) := by
  unfold mvU nbp
  split
  · omega
  split
  · omega
  split <;> omega
theorem Bnd.adv {P : List Po} {u mv q : Nat} {ask : Bool} (h : Bnd P u mv ask) (hu : u ≤ q) : Bnd P (q + 1) (mv + mvU P.length u q) false := by
  have h1 := h.ask_le
  have h2 := mvU_two (n := P.length) hu
  have h3 := tot_take_mono P hu
  unfold Bnd
  simp only [Nat.add_sub_cancel, Bool.false_eq_true, if_false]
  omega
theorem Bnd.pos {P : List Po} {u mv : Nat} (h : Bnd P u mv false) : Bnd P u (mv + (posU P u).length) true := by
  unfold Bnd at h ⊢
  simp at h ⊢
  omega
theorem Bnd.all {P : List Po} {u mv : Nat} {ask : Bool} (h : Bnd P u mv ask) (hu : u ≤ P.length + 1) : mv ≤ 2 * P.length + 1 + tot P := by
  have h1 := h.ask_le
  have h2 := tot_take_le P u
  omega
end Go.Proofs.YtjkbongfampgjaaGreatDoor
namespace Go.Proofs.YtjkbongfampgjaaGreatDoor
open Go.ChangeShapes Go.WideShapes Go.ChangeAt Go.RowKit

/-- The place behind an advance. -/
def advU (P : List Po) (u : Nat) (t : Int) : Nat := if docU P u < t ∧ u ≤ P.length then plc P t + 1 else u
theorem doc_hi {P : List Po} (hg : gdl (-1) P) {i : Nat} (hi : i < P.length) : P[i].d ≤ 2147483646 := by
  have h1 := le_lastd P (-1) hg P[i] (List.getElem_mem hi)
  have h2 := ((gdl_last P (-1) hg).2 (by intro e; rw [e] at hi; simp at hi)).2
  omega
theorem doc_lo {P : List Po} (hg : gdl (-1) P) {i : Nat} (hi : i < P.length) : 0 ≤ P[i].d := (gdl_at hi hg).lo
theorem docU_bd {P : List Po} (hg : gdl (-1) P) (u : Nat) : -1 ≤ docU P u ∧ docU P u ≤ 2147483647 ∧ (u ≤ P.length → docU P u ≤ 2147483646) := by
  cases u with
  | zero => simp [docU]
  | succ q =>
    rcases Nat.lt_or_ge q P.length with h | h
    · rw [docU_in h]
      have := doc_hi hg h
      have := doc_lo hg h
      exact ⟨by omega, by omega, fun _ => by omega⟩
    · simp only [docU, List.getElem?_eq_none h]
      exact ⟨by omega, by omega, fun _ => by omega⟩
theorem docU_last {P : List Po} {u : Nat} (h : P.length < u) : docU P u = 2147483647 := by
  cases u with
  | zero => omega
  | succ q => simp only [docU, List.getElem?_eq_none (show P.length ≤ q by omega)]
theorem plc_here {P : List Po} {t : Int} {q : Nat} (h : q = plc P t) (hq : q < P.length) : t ≤ P[q].d := by
  subst h
  have := List.findIdx_getElem (p := fun p : Po => decide (t ≤ p.d)) (w := hq)
  exact of_decide_eq_true this
theorem plc_below {P : List Po} {t : Int} {i : Nat} (h : i < plc P t) : ∃ hi : i < P.length, P[i].d < t := by
  have hl := plc_le P t
  refine ⟨by omega, ?_⟩
  have := List.not_of_lt_findIdx (p := fun p : Po => decide (t ≤ p.d)) h
  simp at this
  omega
theorem advU_le {P : List Po} {u : Nat} {t : Int} (hg : gdl (-1) P) (hu : u ≤ P.length + 1) : u ≤ advU P u t ∧ advU P u t ≤ P.length + 1 := by
  unfold advU
  split
  · rename_i h
    have h1 := plc_ge h.2 (below_doc hg h.2 h.1)
    have h2 := plc_le P t
    omega
  · exact ⟨Nat.le_refl _, hu⟩
/-- At the place behind an advance, the document is not below the target, or there is none. -/
theorem advU_end {P : List Po} {u : Nat} {t : Int} (hu : u ≤ P.length + 1) : ¬ (docU P (advU P u t) < t ∧ docU P (advU P u t) ≠ 2147483647) := by
  unfold advU
  split
  · rename_i h
    rcases Nat.lt_or_ge (plc P t) P.length with q | q
    · rw [docU_in q]
      have := plc_here rfl q
      omega
    · rw [docU_last (by omega)]
      omega
  · rename_i h
    intro hh
    have : ¬ u ≤ P.length := fun e => h ⟨hh.1, e⟩
    exact hh.2 (docU_last (by omega))
theorem advU_on {P : List Po} {u v : Nat} {t : Int} (hg : gdl (-1) P) (h : v < advU P u t) (hv : u ≤ v) : docU P v < t ∧ docU P v ≠ 2147483647 ∧ v ≤ P.length := by
  unfold advU at h
  split at h
  · rename_i hh
    have hl := plc_le P t
    have hvl : v ≤ P.length := by omega
    have hb := docU_bd hg v
    refine ⟨?_, by have := hb.2.2 hvl; omega, hvl⟩
    rcases Nat.lt_or_ge u v with q | q
    · obtain ⟨w, rfl⟩ : ∃ w, v = w + 1 := ⟨v - 1, by omega⟩
      obtain ⟨hi, hd⟩ := plc_below (P := P) (t := t) (i := w) (by omega)
      rw [docU_in hi]
      exact hd
    · obtain rfl : u = v := by omega
      exact hh.1
  · omega
theorem plc_top {P : List Po} (hg : gdl (-1) P) : plc P 2147483647 = P.length := plc_all (fun i hi => by have := doc_hi hg hi; omega)
theorem advU_top {P : List Po} {u : Nat} (hg : gdl (-1) P) (hu : u ≤ P.length + 1) : advU P u 2147483647 = P.length + 1 := by
  unfold advU
  split
  · rw [plc_top hg]
  · rename_i h
    have := (docU_bd hg u).2.2
    rcases Nat.lt_or_ge P.length u with q | q
    · omega
    · exact (h ⟨by have := this q; omega, q⟩).elim

/-- Two cursors over one list of postings, side by side. -/
structure TwoC (W4 : World) (ca la cn ln : Nat) (P : List Po) (wr : World) (ua ma : Nat) (aa : Bool) (un mn : Nat) (an : Bool) : Prop where
  ex : ∃ X Y lo, CuS ⟨X, lo⟩ wr ca la P ua ma aa ∧ CuS ⟨Y, lo⟩ wr cn ln P un mn an ∧ CuB Y ca ∧ ca < Y.heap.size ∧ Kept (fun _ => False) W4 X ∧ Kept (fun _ => False) W4 Y ∧ X.heap.size ≤ cn ∧ ca < lo ∧ cn < lo
  ne : ca ≠ cn
  kept : Kept (fun _ => False) W4 wr
  olda : W4.heap.size ≤ ca
  oldn : W4.heap.size ≤ cn
  ba : Bnd P ua ma aa
  bn : Bnd P un mn an
theorem TwoC.later {W4 : World} {ca la cn ln : Nat} {P : List Po} {wr wr' : World} {ua ma : Nat} {aa : Bool} {un mn : Nat} {an : Bool} (h : TwoC W4 ca la cn ln P wr ua ma aa un mn an) (k : Kept (fun _ => False) wr wr') : TwoC W4 ca la cn ln P wr' ua ma aa un mn an := by
  obtain ⟨X, Y, lo, h1, h2, h3, h4, h5, h6, h7, h8, h9⟩ := h.ex
  exact ⟨⟨X, Y, lo, h1.later k, h2.later k, h3, h4, h5, h6, h7, h8, h9⟩, h.ne, h.kept.trans k (fun _ f => f.elim), h.olda, h.oldn, h.ba, h.bn⟩
theorem lt_of_cub {W : World} {c : Nat} (h : CuB W c) : c < W.heap.size := by
  obtain ⟨a0, a1, a2, a4, a3, bv, a6, n6, c6, b7, h⟩ := h
  exact lt_of_block h
theorem TwoC.stepA {W4 : World} {ca la cn ln : Nat} {P : List Po} {wr : World} {ua ma : Nat} {aa : Bool} {un mn : Nat} {an : Bool} (h : TwoC W4 ca la cn ln P wr ua ma aa un mn an) :
    ∃ X : Bs, CuS X wr ca la P ua ma aa ∧ Kept (fun _ => False) W4 X.w ∧ cn < wr.heap.size ∧ ∀ w' u' m' b', CuS X w' ca la P u' m' b' → Kept (fun i => i = ca) wr w' → Bnd P u' m' b' → TwoC W4 ca la cn ln P w' u' m' b' un mn an := by
  obtain ⟨X, Y, lo, h1, h2, h3, h4, h5, h6, h7, h8, h9⟩ := h.ex
  refine ⟨⟨X, lo⟩, h1, h5, lt_of_cub h2.cub, fun w' u' m' b' hS k hB => ⟨⟨X, wset Y w' ca, lo, hS, h2.other h3 h4 h8 k h.ne, hS.cub.wset h4, by rw [wset_size]; exact h4, h5, h6.trans (wset_kept Y w' ca) (fun i hi => .inr (by rw [hi]; exact h.olda)), h7, h8, h9⟩, h.ne, h.kept.trans k (fun i hi => .inr (by rw [hi]; exact h.olda)), h.olda, h.oldn, hB, h.bn⟩⟩
theorem TwoC.stepN {W4 : World} {ca la cn ln : Nat} {P : List Po} {wr : World} {ua ma : Nat} {aa : Bool} {un mn : Nat} {an : Bool} (h : TwoC W4 ca la cn ln P wr ua ma aa un mn an) :
    ∃ Y : Bs, CuS Y wr cn ln P un mn an ∧ Kept (fun _ => False) W4 Y.w ∧ ca < wr.heap.size ∧ ∀ w' u' m' b', CuS Y w' cn ln P u' m' b' → Kept (fun i => i = cn) wr w' → Bnd P u' m' b' → TwoC W4 ca la cn ln P w' ua ma aa u' m' b' := by
  obtain ⟨X, Y, lo, h1, h2, h3, h4, h5, h6, h7, h8, h9⟩ := h.ex
  refine ⟨⟨Y, lo⟩, h2, h6, lt_of_cub h1.cub, fun w' u' m' b' hS k hB => ⟨⟨X, Y, lo, h1.beside h7 h9 k h.ne, hS, h3, h4, h5, h6, h7, h8, h9⟩, h.ne, h.kept.trans k (fun i hi => .inr (by rw [hi]; exact h.oldn)), h.olda, h.oldn, h.ba, hB⟩⟩

/-- What the postings are to keep to. -/
structure Okp (P : List Po) : Prop where
  hg : gdl (-1) P
  hl : (img P).length ≤ 1073741824
  hn : P.length ≤ 1048576
  ht : tot P ≤ 5242880
theorem Bnd.small {P : List Po} {u mv : Nat} {ask : Bool} (h : Bnd P u mv ask) (hu : u ≤ P.length + 1) (hP : Okp P) : mv ≤ 16777216 := by
  have := h.all hu
  have := hP.hn
  have := hP.ht
  omega
theorem posU_in {P : List Po} {u : Nat} (h : posU P u ≠ []) : 1 ≤ u ∧ u ≤ P.length := by
  cases u with
  | zero => exact (h rfl).elim
  | succ q =>
    rcases Nat.lt_or_ge q P.length with e | e
    · omega
    · simp only [posU, List.getElem?_eq_none e] at h
      exact (h rfl).elim
theorem posU_le (P : List Po) (u : Nat) : (posU P u).length ≤ tot P := by
  have h1 := tot_pos P u
  have h2 := tot_take_le P u
  omega

theorem two_docA {W4 : World} {ca la cn ln : Nat} {P : List Po} (wr : World) {ua ma : Nat} {aa : Bool} {un mn : Nat} {an : Bool} (h : TwoC W4 ca la cn ln P wr ua ma aa un mn an) : Calls Tryz.prog 11 #[.pointer (some ⟨ca, 0, none⟩)] wr fun e w' => e = .returned (.int .i64 (docU P ua)) ∧ w' = wr := by
  obtain ⟨X, h1, -⟩ := h.stepA
  exact cdocS wr h1
theorem two_docN {W4 : World} {ca la cn ln : Nat} {P : List Po} (wr : World) {ua ma : Nat} {aa : Bool} {un mn : Nat} {an : Bool} (h : TwoC W4 ca la cn ln P wr ua ma aa un mn an) : Calls Tryz.prog 11 #[.pointer (some ⟨cn, 0, none⟩)] wr fun e w' => e = .returned (.int .i64 (docU P un)) ∧ w' = wr := by
  obtain ⟨X, h1, -⟩ := h.stepN
  exact cdocS wr h1
theorem two_movesA {W4 : World} {ca la cn ln : Nat} {P : List Po} (wr : World) {ua ma : Nat} {aa : Bool} {un mn : Nat} {an : Bool} (h : TwoC W4 ca la cn ln P wr ua ma aa un mn an) : Calls Tryz.prog 10 #[.pointer (some ⟨ca, 0, none⟩)] wr fun e w' => e = .returned (.int .i64 (ma : Nat)) ∧ w' = wr := by
  obtain ⟨X, h1, -⟩ := h.stepA
  exact cmovesS wr h1
theorem two_movesN {W4 : World} {ca la cn ln : Nat} {P : List Po} (wr : World) {ua ma : Nat} {aa : Bool} {un mn : Nat} {an : Bool} (h : TwoC W4 ca la cn ln P wr ua ma aa un mn an) : Calls Tryz.prog 10 #[.pointer (some ⟨cn, 0, none⟩)] wr fun e w' => e = .returned (.int .i64 (mn : Nat)) ∧ w' = wr := by
  obtain ⟨X, h1, -⟩ := h.stepN
  exact cmovesS wr h1
theorem two_freqA {W4 : World} {ca la cn ln : Nat} {P : List Po} (wr : World) {ua ma : Nat} {aa : Bool} {un mn : Nat} {an : Bool} (h : TwoC W4 ca la cn ln P wr ua ma aa un mn an) : Calls Tryz.prog 16 #[.pointer (some ⟨ca, 0, none⟩)] wr fun e w' => e = .returned (.int .i64 (((posU P ua).length : Nat) : Int)) ∧ w' = wr := by
  obtain ⟨X, h1, -⟩ := h.stepA
  exact cfreqS wr h1
theorem two_freqN {W4 : World} {ca la cn ln : Nat} {P : List Po} (wr : World) {ua ma : Nat} {aa : Bool} {un mn : Nat} {an : Bool} (h : TwoC W4 ca la cn ln P wr ua ma aa un mn an) : Calls Tryz.prog 16 #[.pointer (some ⟨cn, 0, none⟩)] wr fun e w' => e = .returned (.int .i64 (((posU P un).length : Nat) : Int)) ∧ w' = wr := by
  obtain ⟨X, h1, -⟩ := h.stepN
  exact cfreqS wr h1
theorem two_advA {W4 : World} {ca la cn ln : Nat} {P : List Po} (wr : World) {ua ma : Nat} {aa : Bool} {un mn : Nat} {an : Bool} (t : Int) (ad : Nat → Addr) (h : TwoC W4 ca la cn ln P wr ua ma aa un mn an) (hu : ua ≤ P.length + 1) (hP : Okp P) (hE : ErQ W4 ad) :
    Calls Tryz.prog 15 #[.pointer (some ⟨ca, 0, none⟩), .int .i64 t] wr fun e w' => e = .returned (.int .i64 (docU P (advU P ua t))) ∧ ∃ m' b', ma ≤ m' ∧ TwoC W4 ca la cn ln P w' (advU P ua t) m' b' un mn an := by
  obtain ⟨X, h1, h2, -, h3⟩ := h.stepA
  have hm := h.ba.small hu hP
  have hn := hP.hn
  unfold advU
  split
  · rename_i hh
    refine (cadv_in wr t ad h1 hh.2 hh.1 (by omega) (by omega) hP.hg hP.hl (hE.kept h2)).mono ?_
    rintro e w' ⟨rfl, hS, k⟩
    exact ⟨rfl, _, _, by omega, h3 w' _ _ _ hS k (h.ba.adv (plc_ge hh.2 (below_doc hP.hg hh.2 hh.1)))⟩
  · rename_i hh
    refine (cadv_no wr t h1 (by omega) hu ?_).mono ?_
    · rcases Nat.lt_or_ge P.length ua with q | q
      · exact .inr (by omega)
      · exact .inl (fun e => hh ⟨e, q⟩)
    · rintro e w' ⟨rfl, hS, k⟩
      exact ⟨rfl, _, _, Nat.le_refl _, h3 w' _ _ _ hS (k.mono (fun _ f => f.elim)) h.ba⟩
theorem two_nextN {W4 : World} {ca la cn ln : Nat} {P : List Po} (wr : World) {ua ma : Nat} {aa : Bool} {un mn : Nat} {an : Bool} (ad : Nat → Addr) (h : TwoC W4 ca la cn ln P wr ua ma aa un mn an) (hu : un ≤ P.length) (hP : Okp P) (hE : ErQ W4 ad) :
    Calls Tryz.prog 14 #[.pointer (some ⟨cn, 0, none⟩)] wr fun e w' => e = .returned (.int .i64 (docU P (un + 1))) ∧ TwoC W4 ca la cn ln P w' ua ma aa (un + 1) (mn + 1) false := by
  obtain ⟨Y, h1, h2, -, h3⟩ := h.stepN
  have hm := h.bn.small (by omega) hP
  have hn := hP.hn
  refine (cnext_in wr ad h1 hu (by omega) (by omega) hP.hg hP.hl (hE.kept h2)).mono ?_
  rintro e w' ⟨rfl, hS, k⟩
  have hB := h.bn.adv (Nat.le_refl un)
  rw [mvU_next] at hB
  exact ⟨rfl, h3 w' _ _ _ hS k hB⟩
theorem two_endN {W4 : World} {ca la cn ln : Nat} {P : List Po} (wr : World) {ua ma : Nat} {aa : Bool} {un mn : Nat} {an : Bool} (h : TwoC W4 ca la cn ln P wr ua ma aa un mn an) (hu : un = P.length + 1) (hP : Okp P) :
    Calls Tryz.prog 14 #[.pointer (some ⟨cn, 0, none⟩)] wr fun e w' => e = .returned (.int .i64 2147483647) ∧ TwoC W4 ca la cn ln P w' ua ma aa un mn an := by
  obtain ⟨Y, h1, h2, -, h3⟩ := h.stepN
  have hn := hP.hn
  refine (cnext_end wr h1 hu (by omega)).mono ?_
  rintro e w' ⟨rfl, hS, k⟩
  exact ⟨rfl, h3 w' _ _ _ hS (k.mono (fun _ f => f.elim)) h.bn⟩
theorem two_posA {W4 : World} {ca la cn ln : Nat} {P : List Po} (wr : World) {ua ma : Nat} {aa : Bool} {un mn : Nat} {an : Bool} (h : TwoC W4 ca la cn ln P wr ua ma aa un mn an) (hu : ua ≤ P.length + 1) (hP : Okp P) :
    Calls Tryz.prog 28 #[.pointer (some ⟨ca, 0, none⟩)] wr fun e w' => ∃ (a : Option Addr) (c m' : Nat), e = .returned (.slice a (posU P ua).length c) ∧ IntsAt w' a (posU P ua) ∧ (posU P ua ≠ [] → ∃ g, a = some ⟨g, 0, none⟩ ∧ cn < g) ∧ TwoC W4 ca la cn ln P w' ua m' true un mn an := by
  obtain ⟨X, h1, h2, hc, h3⟩ := h.stepA
  have hm := h.ba.small hu hP
  have ht := hP.ht
  have hp := posU_le P ua
  cases aa with
  | true =>
    refine (cpos_true wr h1 (by omega)).mono ?_
    rintro e w' ⟨a, c, rfl, hI, hf, hS, k⟩
    exact ⟨a, c, _, rfl, hI, fun hne => by
      obtain ⟨g, e, hg⟩ := hf hne
      exact ⟨g, e, by omega⟩, h3 w' _ _ _ hS k h.ba⟩
  | false =>
    refine (cpos_false wr h1 (by omega) (by omega)).mono ?_
    rintro e w' ⟨a, c, rfl, hI, hf, hS, k⟩
    exact ⟨a, c, _, rfl, hI, fun hne => by
      obtain ⟨g, e, hg⟩ := hf hne
      exact ⟨g, e, by omega⟩, h3 w' _ _ _ hS k h.ba.pos⟩
theorem two_posN {W4 : World} {ca la cn ln : Nat} {P : List Po} (wr : World) {ua ma : Nat} {aa : Bool} {un mn : Nat} {an : Bool} (h : TwoC W4 ca la cn ln P wr ua ma aa un mn an) (hu : un ≤ P.length + 1) (hP : Okp P) :
    Calls Tryz.prog 28 #[.pointer (some ⟨cn, 0, none⟩)] wr fun e w' => ∃ (a : Option Addr) (c m' : Nat), e = .returned (.slice a (posU P un).length c) ∧ IntsAt w' a (posU P un) ∧ Kept (fun i => i = cn) wr w' ∧ TwoC W4 ca la cn ln P w' ua ma aa un m' true := by
  obtain ⟨X, h1, h2, hc, h3⟩ := h.stepN
  have hm := h.bn.small hu hP
  have ht := hP.ht
  have hp := posU_le P un
  cases an with
  | true =>
    refine (cpos_true wr h1 (by omega)).mono ?_
    rintro e w' ⟨a, c, rfl, hI, hf, hS, k⟩
    exact ⟨a, c, _, rfl, hI, k, h3 w' _ _ _ hS k h.bn⟩
  | false =>
    refine (cpos_false wr h1 (by omega) (by omega)).mono ?_
    rintro e w' ⟨a, c, rfl, hI, hf, hS, k⟩
    exact ⟨a, c, _, rfl, hI, k, h3 w' _ _ _ hS k h.bn.pos⟩
theorem two_start {W4 W5 W6 X Y : World} {ca la cn ln : Nat} {P : List Po} (hA : CuAt ⟨X, 0⟩ W5 ca la P 0 0 (-1) (.slice none 0 0) none 0 false) (hca : W4.heap.size ≤ ca) (kx : Kept (fun _ => False) W4 X) (k5 : Kept (fun _ => False) W4 W5) (hN : CuAt ⟨Y, 0⟩ W6 cn ln P 0 0 (-1) (.slice none 0 0) none 0 false) (hcn : W5.heap.size ≤ cn) (ky : Kept (fun _ => False) W5 Y) (k6 : Kept (fun _ => False) W5 W6) : TwoC W4 ca la cn ln P W6 0 0 false 0 0 false := by
  have hal : ca < W5.heap.size := hA.raw.lt
  have hnl : cn < W6.heap.size := hN.raw.lt
  have hs := k6.size
  have hx : X.heap.size ≤ W5.heap.size := hA.kept.size
  have hy : CuB Y ca := (hA.later ky).toS.cub
  have hB : Bnd P 0 0 false := by unfold Bnd; omega
  have h5 := k5.size
  exact ⟨⟨X, Y, W6.heap.size, ((hA.later k6).raise (Nat.le_refl _)).toS, (hN.raise (Nat.le_refl _)).toS, hy, lt_of_cub hy, kx, k5.trans ky (fun _ f => f.elim), by omega, by omega, hnl⟩, by omega, k5.trans k6 (fun _ f => f.elim), hca, by omega, hB, hB⟩
/-- The posting at a place, as it lies. -/
theorem ps_at {W : World} {a : Option Addr} {FL : List Pg} {P : List Po} (h : PsAt W a FL) (hp : pol FL = P) {i : Nat} (hi : i < P.length) :
    ∃ b off ga gc, a = some ⟨b, off, none⟩ ∧ W.cell? ⟨b, off + i * 2, none⟩ = some (.int .i64 (docU P (i + 1))) ∧ W.cell? ⟨b, off + i * 2 + 1, none⟩ = some (.slice ga (posU P (i + 1)).length gc) ∧ IntsAt W ga (posU P (i + 1)) := by
  subst hp
  have hi' : i < FL.length := by rw [pol_len] at hi; exact hi
  obtain ⟨b, off, e, hc⟩ := h (by intro e; rw [e] at hi'; simp at hi')
  obtain ⟨c0, c1, c2⟩ := hc i hi'
  have hg : (pol FL)[i]? = some (FL[i]).po := by simp [pol, hi']
  rw [docU_at _ _ _ hg, posU_at _ _ _ hg]
  exact ⟨b, off, (FL[i]).a, (FL[i]).c, e, c0, c1, c2⟩
end Go.Proofs.YtjkbongfampgjaaGreatDoor
namespace Go.Proofs.YtjkbongfampgjaaGreatDoor
open Go.ChangeShapes Go.WideShapes Go.ChangeAt Go.RowKit

theorem BkOk.belowG {W W' : World} {G : Nat → Prop} {lo cb : Nat} {P : List Po} {nb : Int} {bv : Value} (hb : BkOk W lo cb P nb bv) (k : Kept G W W') (hc : ∀ i, G i → i < lo) : BkOk W' lo cb P nb bv := by
  intro j hj
  obtain ⟨FL, a, c', e1, e2, e3, e4⟩ := hb j hj
  refine ⟨FL, a, c', e1, e2, fun hne2 => ?_, e4⟩
  obtain ⟨b, off, e, hcc⟩ := e3 hne2
  obtain ⟨b', e', q1, q2⟩ := e4.2 hne2
  rw [e] at e'
  injection e' with e'
  injection e' with e5 e6
  subst e5
  refine ⟨b, off, e, fun i hi => ?_⟩
  obtain ⟨r0, r1, r2⟩ := hcc i hi
  exact ⟨k.cell r0 (fun g => by have := hc _ g; simp only at this; omega), k.cell r1 (fun g => by have := hc _ g; simp only at this; omega), ints_step r2 k (fun hp => by
    obtain ⟨b7, off7, e7, _, h7⟩ := e4.1 _ (List.getElem_mem hi) hp
    exact ⟨b7, off7, e7, fun g => by have := hc _ g; omega⟩)⟩
/-- A cursor stays under changes of blocks that are none of its own, over a base that stays. -/
theorem CuS.under {Y Y' : Bs} {G : Nat → Prop} {W W' : World} {c l : Nat} {P : List Po} {u mv : Nat} {ask : Bool} (h : CuS Y W c l P u mv ask) (k : Kept G W W') (hG : ∀ i, G i → i < Y.lo) (hc : ¬ G c) (hlo : Y'.lo = Y.lo) (hs : Y'.w.heap.size ≤ c) (hk : Kept (fun _ => False) Y'.w W') (ho : Opd Y'.w l P) : CuS Y' W' c l P u mv ask := by
  obtain ⟨nb, bv, pa, pc, h, hb, hn⟩ := h
  refine ⟨nb, bv, pa, pc, ⟨hs, hk, ho, k.heap h.obj hc, ints_step h.pos k (fun hp => ?_), by rw [hlo]; exact h.far, by rw [hlo]; exact Nat.le_trans h.low k.size⟩, fun hu => by rw [hlo]; exact (hb hu).belowG k hG, hn⟩
  obtain ⟨b, off, e, h1, h2⟩ := h.far hp
  exact ⟨b, off, e, fun g => by have := hG _ g; omega⟩
theorem CuS.base {Y : Bs} {W : World} {c l : Nat} {P : List Po} {u mv : Nat} {ask : Bool} (h : CuS Y W c l P u mv ask) : Y.w.heap.size ≤ c ∧ Kept (fun _ => False) Y.w W ∧ Opd Y.w l P := by
  obtain ⟨nb, bv, pa, pc, h, hb, hn⟩ := h
  exact ⟨h.new, h.kept, h.opd⟩
/-- A cursor stays under changes of younger blocks. -/
theorem CuS.young {Y : Bs} {G : Nat → Prop} {W W' : World} {c l : Nat} {P : List Po} {u mv : Nat} {ask : Bool} (h : CuS Y W c l P u mv ask) (k : Kept G W W') (hG : ∀ i, G i → i < Y.lo ∧ c ≤ i ∧ i ≠ c) : CuS Y W' c l P u mv ask := by
  obtain ⟨hs, hk, ho⟩ := h.base
  exact h.under k (fun i g => (hG i g).1) (fun g => (hG c g).2.2 rfl) rfl hs (hk.trans k (fun i g => .inr (by have := hG i g; omega))) ho
theorem wset_toG {W0 W W' : World} {G : Nat → Prop} {cb : Nat} (h : Kept (fun _ => False) W0 W) (k : Kept G W W') (hG : ∀ i, G i → i = cb ∨ W0.heap.size ≤ i) (hl : cb < W0.heap.size) : Kept (fun _ => False) (wset W0 W' cb) W' := by
  have hs := Nat.le_trans h.size k.size
  refine ⟨k.os.trans h.os, k.tape.trans h.tape, k.output.trans h.output, by rw [wset_size]; exact hs, fun i hi _ => ?_⟩
  rw [wset_size] at hi
  by_cases e : i = cb
  · subst e
    have hl' : i < W'.heap.size := by omega
    unfold wset
    rw [Array.getElem?_eq_getElem hl']
    simp [hl]
  · rw [(wset_kept W0 W' cb).block i hi e, k.block i (by have := h.size; omega) (fun g => by rcases hG i g with q | q <;> omega), h.block i hi (fun f => f)]
/-- A cursor stays under changes of an elder one and of younger blocks, over another base. -/
theorem CuS.elder {Y : Bs} {G : Nat → Prop} {W W' : World} {c l ca : Nat} {P : List Po} {u mv : Nat} {ask : Bool} (h : CuS Y W c l P u mv ask) (hy : CuB Y.w ca) (k : Kept G W W') (hG : ∀ i, G i → i < Y.lo ∧ (i = ca ∨ c ≤ i ∧ i ≠ c)) (hne : ca < c) : CuS ⟨wset Y.w W' ca, Y.lo⟩ W' c l P u mv ask := by
  obtain ⟨hs, hk, ho⟩ := h.base
  refine h.under k (fun i g => (hG i g).1) (fun g => ?_) rfl (by simp only [wset_size]; exact hs) (wset_toG hk k (fun i g => ?_) (lt_of_cub hy)) (ho.other hy (wset_kept Y.w W' ca))
  · have := (hG c g).2
    omega
  · rcases (hG i g).2 with q | q
    · exact .inl q
    · exact .inr (by omega)
theorem CuB.wset_ne {Y W' : World} {ca cc : Nat} (h : CuB Y ca) (hne : ca ≠ cc) : CuB (Go.Proofs.YtjkbongfampgjaaGreatDoor.wset Y W' cc) ca := by
  obtain ⟨a0, a1, a2, a4, a3, bv, a6, n6, c6, b7, h⟩ := h
  exact ⟨a0, a1, a2, a4, a3, bv, a6, n6, c6, b7, (wset_kept Y W' cc).heap h hne⟩
/-- The document's cursor, as it lies. -/
def RfAt (W : World) (rb : Nat) (la : Option Addr) (n lc u mv : Nat) (ask : Bool) : Prop := W.heap[rb]? = some (.cells #[.slice la n lc, .int .i64 ((u : Int) - 1), .int .i64 (mv : Nat), .bool ask] 35 (0, 0))
/-- Three cursors and the document's three, side by side. -/
structure TriC (W4 : World) (ca ka cc kc cd kd rb sb tb : Nat) (P : List Po) (la : Option Addr) (lc : Nat) (wr : World) (ua ma : Nat) (aa : Bool) (uc mc : Nat) (ac : Bool) (ud md : Nat) (ax : Bool) : Prop where
  ex : ∃ (X Y Z : World) (lo : Nat), CuS ⟨X, lo⟩ wr ca ka P ua ma aa ∧ CuS ⟨Y, lo⟩ wr cc kc P uc mc ac ∧ CuS ⟨Z, lo⟩ wr cd kd [] ud md ax ∧ CuB Y ca ∧ CuB Z ca ∧ CuB Z cc ∧ Kept (fun _ => False) W4 X ∧ Kept (fun _ => False) W4 Y ∧ Kept (fun _ => False) W4 Z ∧ tb < lo
  up : W4.heap.size ≤ ca ∧ ca < cc ∧ cc < cd ∧ cd < rb ∧ rb < sb ∧ sb < tb
  kept : Kept (fun _ => False) W4 wr
  rr : RfAt wr rb la P.length lc ua ma aa
  rs : RfAt wr sb la P.length lc uc mc ac
  rt : RfAt wr tb none 0 0 ud md ax
  ba : Bnd P ua ma aa ∧ ua ≤ P.length + 1
  bc : Bnd P uc mc ac ∧ uc ≤ P.length + 1
  bd : Bnd [] ud md ax ∧ ud ≤ 1
theorem TriC.later {W4 : World} {ca ka cc kc cd kd rb sb tb : Nat} {P : List Po} {la : Option Addr} {lc : Nat} {wr wr' : World} {ua ma : Nat} {aa : Bool} {uc mc : Nat} {ac : Bool} {ud md : Nat} {ax : Bool} (h : TriC W4 ca ka cc kc cd kd rb sb tb P la lc wr ua ma aa uc mc ac ud md ax) (k : Kept (fun _ => False) wr wr') : TriC W4 ca ka cc kc cd kd rb sb tb P la lc wr' ua ma aa uc mc ac ud md ax := by
  obtain ⟨X, Y, Z, lo, h1, h2, h3, h4⟩ := h.ex
  exact ⟨⟨X, Y, Z, lo, h1.later k, h2.later k, h3.later k, h4⟩, h.up, h.kept.trans k (fun _ f => f.elim), k.heap h.rr (fun f => f), k.heap h.rs (fun f => f), k.heap h.rt (fun f => f), h.ba, h.bc, h.bd⟩
theorem TriC.stepA {W4 : World} {ca ka cc kc cd kd rb sb tb : Nat} {P : List Po} {la : Option Addr} {lc : Nat} {wr : World} {ua ma : Nat} {aa : Bool} {uc mc : Nat} {ac : Bool} {ud md : Nat} {ax : Bool} (h : TriC W4 ca ka cc kc cd kd rb sb tb P la lc wr ua ma aa uc mc ac ud md ax) :
    ∃ X : Bs, CuS X wr ca ka P ua ma aa ∧ Kept (fun _ => False) W4 X.w ∧ rb < X.lo ∧ X.w.heap.size ≤ rb ∧ ∀ w' u' m' b', CuS X w' ca ka P u' m' b' → RfAt w' rb la P.length lc u' m' b' → Kept (fun i => i = ca ∨ i = rb) wr w' → Bnd P u' m' b' → u' ≤ P.length + 1 → TriC W4 ca ka cc kc cd kd rb sb tb P la lc w' u' m' b' uc mc ac ud md ax := by
  obtain ⟨X, Y, Z, lo, h1, h2, h3, h4, h5, h6, h7, h8, h9, h10⟩ := h.ex
  obtain ⟨o1, o2, o3, o4, o5, o6⟩ := h.up
  have hx := h1.base.1
  simp only at hx
  refine ⟨⟨X, lo⟩, h1, h7, by simp only; omega, by simp only; omega, fun w' u' m' b' hS hR k hB hu => ⟨⟨X, wset Y w' ca, wset Z w' ca, lo, hS, ?_, ?_, hS.cub.wset (lt_of_cub h4), hS.cub.wset (lt_of_cub h5), h6.wset_ne (by omega), h7, ?_, ?_, h10⟩, h.up, h.kept.trans k (fun i hi => .inr (by rcases hi with e | e <;> omega)), hR, k.heap h.rs (by rintro (e | e) <;> omega), k.heap h.rt (by rintro (e | e) <;> omega), ⟨hB, hu⟩, h.bc, h.bd⟩⟩
  · exact h2.elder h4 k (fun i g => by rcases g with e | e <;> (simp only; omega)) (by omega)
  · exact h3.elder h5 k (fun i g => by rcases g with e | e <;> (simp only; omega)) (by omega)
  · exact h8.trans (wset_kept Y w' ca) (fun i hi => .inr (by omega))
  · exact h9.trans (wset_kept Z w' ca) (fun i hi => .inr (by omega))
theorem TriC.stepC {W4 : World} {ca ka cc kc cd kd rb sb tb : Nat} {P : List Po} {la : Option Addr} {lc : Nat} {wr : World} {ua ma : Nat} {aa : Bool} {uc mc : Nat} {ac : Bool} {ud md : Nat} {ax : Bool} (h : TriC W4 ca ka cc kc cd kd rb sb tb P la lc wr ua ma aa uc mc ac ud md ax) :
    ∃ X : Bs, CuS X wr cc kc P uc mc ac ∧ Kept (fun _ => False) W4 X.w ∧ sb < X.lo ∧ X.w.heap.size ≤ sb ∧ ∀ w' u' m' b', CuS X w' cc kc P u' m' b' → RfAt w' sb la P.length lc u' m' b' → Kept (fun i => i = cc ∨ i = sb) wr w' → Bnd P u' m' b' → u' ≤ P.length + 1 → TriC W4 ca ka cc kc cd kd rb sb tb P la lc w' ua ma aa u' m' b' ud md ax := by
  obtain ⟨X, Y, Z, lo, h1, h2, h3, h4, h5, h6, h7, h8, h9, h10⟩ := h.ex
  obtain ⟨o1, o2, o3, o4, o5, o6⟩ := h.up
  have hx := h2.base.1
  simp only at hx
  refine ⟨⟨Y, lo⟩, h2, h8, by simp only; omega, by simp only; omega, fun w' u' m' b' hS hR k hB hu => ⟨⟨X, Y, wset Z w' cc, lo, ?_, hS, ?_, h4, h5.wset_ne (by omega), hS.cub.wset (lt_of_cub h6), h7, h8, ?_, h10⟩, h.up, h.kept.trans k (fun i hi => .inr (by rcases hi with e | e <;> omega)), k.heap h.rr (by rintro (e | e) <;> omega), hR, k.heap h.rt (by rintro (e | e) <;> omega), h.ba, ⟨hB, hu⟩, h.bd⟩⟩
  · exact h1.young k (fun i g => by rcases g with e | e <;> (simp only; omega))
  · exact h3.elder h6 k (fun i g => by rcases g with e | e <;> (simp only; omega)) (by omega)
  · exact h9.trans (wset_kept Z w' cc) (fun i hi => .inr (by omega))
theorem TriC.stepD {W4 : World} {ca ka cc kc cd kd rb sb tb : Nat} {P : List Po} {la : Option Addr} {lc : Nat} {wr : World} {ua ma : Nat} {aa : Bool} {uc mc : Nat} {ac : Bool} {ud md : Nat} {ax : Bool} (h : TriC W4 ca ka cc kc cd kd rb sb tb P la lc wr ua ma aa uc mc ac ud md ax) :
    ∃ X : Bs, CuS X wr cd kd [] ud md ax ∧ Kept (fun _ => False) W4 X.w ∧ tb < X.lo ∧ X.w.heap.size ≤ tb ∧ ∀ w' u' m' b', CuS X w' cd kd [] u' m' b' → RfAt w' tb none 0 0 u' m' b' → Kept (fun i => i = cd ∨ i = tb) wr w' → Bnd [] u' m' b' → u' ≤ 1 → TriC W4 ca ka cc kc cd kd rb sb tb P la lc w' ua ma aa uc mc ac u' m' b' := by
  obtain ⟨X, Y, Z, lo, h1, h2, h3, h4, h5, h6, h7, h8, h9, h10⟩ := h.ex
  obtain ⟨o1, o2, o3, o4, o5, o6⟩ := h.up
  have hx := h3.base.1
  simp only at hx
  refine ⟨⟨Z, lo⟩, h3, h9, h10, by simp only; omega, fun w' u' m' b' hS hR k hB hu => ⟨⟨X, Y, Z, lo, ?_, ?_, hS, h4, h5, h6, h7, h8, h9, h10⟩, h.up, h.kept.trans k (fun i hi => .inr (by rcases hi with e | e <;> omega)), k.heap h.rr (by rintro (e | e) <;> omega), k.heap h.rs (by rintro (e | e) <;> omega), hR, h.ba, h.bc, ⟨hB, hu⟩⟩⟩
  · exact h1.young k (fun i g => by rcases g with e | e <;> (simp only; omega))
  · exact h2.young k (fun i g => by rcases g with e | e <;> (simp only; omega))
end Go.Proofs.YtjkbongfampgjaaGreatDoor
namespace Go.Proofs.YtjkbongfampgjaaGreatDoor
open Go.ChangeShapes Go.WideShapes Go.ChangeAt Go.RowKit

/-- The document's cursor as a value. -/
def rfv (la : Option Addr) (n lc u mv : Nat) (ask : Bool) : Value := .agg #[.slice la n lc, .int .i64 ((u : Int) - 1), .int .i64 ((mv : Nat) : Int), .bool ask]
set_option maxRecDepth 20000 in
set_option maxHeartbeats 2000000 in
theorem ropen_any (W : World) (la : Option Addr) (lc n : Nat) : Calls Tryz.prog 8 #[.slice la n lc] W fun e w' => e = .returned (rfv la n lc 0 0 false) ∧ Kept (fun _ => False) W w' := by
  go_enter Tryz.func8, Tryz.ntmps8
  go_wp2
  refine bodyPost_ret (v := rfv la n lc 0 0 false) (by simp [results, Tryz.results8, go_sem, rfv]) rfl ⟨rfl, Kept.alloc _ _⟩
set_option maxRecDepth 20000 in
set_option maxHeartbeats 2000000 in
theorem rdocs_any (W : World) (la : Option Addr) (lc n u mv : Nat) (ask : Bool) : Calls Tryz.prog 30 #[.agg #[.slice la n lc, .int .i64 ((u : Int) - 1), .int .i64 ((mv : Nat) : Int), .bool ask]] W fun e w' => e = .returned (.int .i64 (n : Nat)) ∧ Kept (fun _ => False) W w' := by
  go_enter Tryz.func30, Tryz.ntmps30
  go_wp2
  go_ret
  exact ⟨rfl, Kept.alloc _ _⟩
set_option maxRecDepth 20000 in
set_option maxHeartbeats 2000000 in
theorem rdoc_any (W : World) (la : Option Addr) (lc n u mv : Nat) (ask : Bool) {P : List Po} {FL : List Pg} (hP : PsAt W la FL) (hp : pol FL = P) (hn : n = P.length) : Calls Tryz.prog 12 #[.agg #[.slice la n lc, .int .i64 ((u : Int) - 1), .int .i64 ((mv : Nat) : Int), .bool ask]] W fun e w' => e = .returned (.int .i64 (docU P u)) ∧ Kept (fun _ => False) W w' := by
  have HK := hideP (Kept.alloc W (.cells #[.slice la n lc, .int .i64 ((u : Int) - 1), .int .i64 ((mv : Nat) : Int), .bool ask] 35))
  rcases Nat.eq_zero_or_pos u with hu0 | hu0
  · subst hu0
    have h1 : ((0 : Nat) : Int) - 1 = -1 := by omega
    rw [h1] at HK ⊢
    rw [show docU P 0 = -1 from rfl]
    clear hP hp hn h1
    go_enter Tryz.func12, Tryz.ntmps12
    go_wp2
    go_ret
    exact ⟨rfl, HK.out⟩
  obtain ⟨q, rfl⟩ : ∃ q, u = q + 1 := ⟨u - 1, by omega⟩
  have h1 : ((q + 1 : Nat) : Int) - 1 = (q : Int) := by omega
  rw [h1] at HK ⊢
  have h2 : ¬ (q : Int) < 0 := by omega
  have h2b : decide ((q : Int) < 0) = false := decide_eq_false h2
  rcases Nat.lt_or_ge q P.length with hq | hq
  · obtain ⟨pb, po, ga, gc, rfl, z0, z1, z2⟩ := ps_at (hP.kept HK.out) hp hq
    have h3 : ¬ (n : Int) ≤ (q : Int) := by omega
    generalize docU P (q + 1) = d at *
    clear hP hp hn hu0 h1 hq z1 z2
    go_enter Tryz.func12, Tryz.ntmps12
    go_wp2
    go_ret
    exact ⟨rfl, HK.out⟩
  · have h3 : (n : Int) ≤ (q : Int) := by omega
    rw [docU_last (show P.length < q + 1 by omega)]
    clear hP hp hn hu0 h1 hq
    go_enter Tryz.func12, Tryz.ntmps12
    go_wp2
    go_ret
    exact ⟨rfl, HK.out⟩
/-- What Here leaves. -/
def hePost (W0 W : World) (l : List Int) (e : Ending) (w' : World) : Prop := ∃ ga gc, e = .returned (.slice ga l.length gc) ∧ IntsAt W0 ga l ∧ Kept (fun _ => False) W w'
set_option maxRecDepth 20000 in
set_option maxHeartbeats 2000000 in
theorem rhere_any (W0 : World) (W : World) (la : Option Addr) (lc n u mv : Nat) (ask : Bool) {P : List Po} {FL : List Pg} (hP : PsAt W0 la FL) (hp : pol FL = P) (hn : n = P.length) (k0 : Kept (fun _ => False) W0 W) : Calls Tryz.prog 25 #[.agg #[.slice la n lc, .int .i64 ((u : Int) - 1), .int .i64 ((mv : Nat) : Int), .bool ask]] W (hePost W0 W (posU P u)) := by
  have HK := hideP (Kept.alloc W (.cells #[.slice la n lc, .int .i64 ((u : Int) - 1), .int .i64 ((mv : Nat) : Int), .bool ask] 35))
  rcases Nat.eq_zero_or_pos u with hu0 | hu0
  · subst hu0
    have h1 : ((0 : Nat) : Int) - 1 = -1 := by omega
    rw [h1] at HK ⊢
    rw [show posU P 0 = [] from rfl]
    clear hP hp hn h1 k0
    go_enter Tryz.func25, Tryz.ntmps25
    go_wp2
    go_ret
    exact ⟨none, 0, rfl, fun e => (e rfl).elim, HK.out⟩
  obtain ⟨q, rfl⟩ : ∃ q, u = q + 1 := ⟨u - 1, by omega⟩
  have h1 : ((q + 1 : Nat) : Int) - 1 = (q : Int) := by omega
  rw [h1] at HK ⊢
  have h2 : ¬ (q : Int) < 0 := by omega
  have h2b : decide ((q : Int) < 0) = false := decide_eq_false h2
  rcases Nat.lt_or_ge q P.length with hq | hq
  · obtain ⟨pb, po, ga, gc, rfl, z0, z1, z2⟩ := ps_at hP hp hq
    have z1' := (k0.trans HK.out (fun _ f => f.elim)).cell z1 (fun f => f)
    have h3 : ¬ (n : Int) ≤ (q : Int) := by omega
    have HZ := hideP z2
    obtain ⟨pl, hpl⟩ : ∃ pl, pl = (posU P (q + 1)).length := ⟨_, rfl⟩
    rw [← hpl] at z1'
    have HPL := hideP hpl
    clear hP hp hn hu0 h1 hq z1 z2 z0 hpl k0
    go_enter Tryz.func25, Tryz.ntmps25
    go_wp2
    go_ret
    exact ⟨ga, gc, by rw [← HPL.out]; rfl, HZ.out, HK.out⟩
  · have h3 : (n : Int) ≤ (q : Int) := by omega
    have hz : posU P (q + 1) = [] := by simp only [posU, List.getElem?_eq_none hq]
    rw [hz]
    clear hP hp hn hu0 h1 hq hz k0
    go_enter Tryz.func25, Tryz.ntmps25
    go_wp2
    go_ret
    exact ⟨none, 0, rfl, fun e => (e rfl).elim, HK.out⟩
set_option maxRecDepth 20000 in
set_option maxHeartbeats 2000000 in
theorem rcost_any (W : World) (n u q : Nat) (hu : u ≤ q) (hq : q ≤ n) (hn : n ≤ 1099511627776) : Calls Tryz.prog 77 #[.int .i64 ((u : Int) - 1), .int .i64 (q : Nat), .int .i64 (n : Nat)] W fun e w' => e = .returned (.int .i64 ((mvU n u q : Nat) : Int)) ∧ w' = W := by
  obtain ⟨V, hV⟩ : ∃ V, V = mvU n u q := ⟨_, rfl⟩
  rw [← hV]
  obtain ⟨u1, hu1⟩ : ∃ u1, u1 = u / 16 := ⟨_, rfl⟩
  obtain ⟨q1, hq1⟩ : ∃ q1, q1 = q / 16 := ⟨_, rfl⟩
  obtain ⟨q2, hq2⟩ : ∃ q2, q2 = q % 16 := ⟨_, rfl⟩
  obtain ⟨m, hm⟩ : ∃ m, m = nbp n := ⟨_, rfl⟩
  have hmn : m = (n + 15) / 16 := by rw [hm]; unfold nbp; omega
  have t0 : (u : Int) - 1 + 1 = (u : Int) := by omega
  have t1 : (u : Int).tdiv 16 = (u1 : Int) := by rw [Int.tdiv_eq_ediv_of_nonneg (by omega)]; omega
  have t2 : (q : Int).tdiv 16 = (q1 : Int) := by rw [Int.tdiv_eq_ediv_of_nonneg (by omega)]; omega
  have t3 : (q : Int).tmod 16 = (q2 : Int) := by rw [Int.tmod_eq_emod_of_nonneg (by omega)]; omega
  have t4 : (n : Int) + 16 - 1 = ((n + 15 : Nat) : Int) := by omega
  have t5 : ((n + 15 : Nat) : Int).tdiv 16 = (m : Int) := by rw [Int.tdiv_eq_ediv_of_nonneg (by omega)]; omega
  have s1 : (u : Int) / 16 = (u1 : Int) := by omega
  have s2 : (q : Int) / 16 = (q1 : Int) := by omega
  have s3 : (q : Int) % 16 = (q2 : Int) := by omega
  have s5 : ((n : Int) + 15) / 16 = (m : Int) := by omega
  have s6 : ((n : Int) + 15).tdiv 16 = (m : Int) := by rw [Int.tdiv_eq_ediv_of_nonneg (by omega)]; omega
  unfold mvU at hV
  rw [← hm, ← hu1, ← hq1, ← hq2] at hV
  have hmu : u1 ≤ m := by omega
  have huq : u1 ≤ q1 := by omega
  have b1 : q1 ≤ 1099511627776 := by omega
  have b2 : q2 ≤ 16 := by omega
  have b3 : m ≤ 1099511627776 := by omega
  have hus : u1 = q1 ∨ u1 ≠ q1 := by omega
  have hqu : q = u → u1 = q1 := by omega
  clear hu1 hq1 hq2 hm hmn
  by_cases h2 : q = n
  · have e2 : ((q : Int) == (n : Int)) = true := by rw [beq_iff_eq]; omega
    by_cases h1 : u = n
    · have e1 : ((u : Int) == (n : Int)) = true := by rw [beq_iff_eq]; omega
      rw [if_pos (show q = u by omega)] at hV
      subst hV
      clear hqu hus
      go_enter Tryz.func77, Tryz.ntmps77
      go_wp2
      go_ret
      exact ⟨rfl, rfl⟩
    · have e1 : ((u : Int) == (n : Int)) = false := by rw [beq_eq_false_iff_ne]; omega
      rw [if_neg (show ¬ q = u by omega), if_pos h2] at hV
      have HV : Hid ((V : Int) = (m : Int) - (u1 : Int) + 1) := hideP (by omega)
      clear hV hqu hus h1 h2
      go_enter Tryz.func77, Tryz.ntmps77
      go_wp2
      go_ret
      exact ⟨by rw [HV.out]; rfl, rfl⟩
  · have e2 : ((q : Int) == (n : Int)) = false := by rw [beq_eq_false_iff_ne]; omega
    by_cases h3 : u1 = q1
    · have e3 : ((u1 : Int) == (q1 : Int)) = true := by rw [beq_iff_eq]; omega
      have HV : Hid ((V : Int) = (q : Int) - ((u : Int) - 1)) := hideP (by
        by_cases h1 : q = u
        · rw [if_pos h1] at hV; omega
        · rw [if_neg h1, if_neg h2, if_pos h3] at hV; omega)
      clear hV hqu hus h2 h3
      go_enter Tryz.func77, Tryz.ntmps77
      go_wp2
      go_ret
      exact ⟨by rw [HV.out]; rfl, rfl⟩
    · have e3 : ((u1 : Int) == (q1 : Int)) = false := by rw [beq_eq_false_iff_ne]; omega
      rw [if_neg (show ¬ q = u from fun e => h3 (hqu e)), if_neg h2, if_neg h3] at hV
      have HV : Hid ((V : Int) = (q1 : Int) - (u1 : Int) + (q2 : Int) + 1) := hideP (by omega)
      clear hV hqu hus h2 h3
      go_enter Tryz.func77, Tryz.ntmps77
      go_wp2
      go_ret
      exact ⟨by rw [HV.out]; rfl, rfl⟩
end Go.Proofs.YtjkbongfampgjaaGreatDoor
namespace Go.Proofs.YtjkbongfampgjaaGreatDoor
open Go.ChangeShapes Go.WideShapes Go.ChangeAt Go.RowKit

theorem RfAt.cells {W : World} {b : Nat} {la : Option Addr} {n lc u mv : Nat} {ask : Bool} (h : RfAt W b la n lc u mv ask) :
    W.cell? ⟨b, 0, none⟩ = some (.slice la n lc) ∧ W.cell? ⟨b, 1, none⟩ = some (.int .i64 ((u : Int) - 1)) ∧ W.cell? ⟨b, 2, none⟩ = some (.int .i64 (mv : Nat)) ∧ W.cell? ⟨b, 3, none⟩ = some (.bool ask) := by
  have hc := fun j => cell_of_row W b j _ _ _ h
  refine ⟨?_, ?_, ?_, ?_⟩ <;> (rw [hc]; rfl)
/-- Four values laid over a block of four cells. -/
def putR (W : World) (b : Nat) (v0 v1 v2 v3 : Value) : World := (((W.setCell ⟨b, 0, none⟩ v0).setCell ⟨b, 1, none⟩ v1).setCell ⟨b, 2, none⟩ v2).setCell ⟨b, 3, none⟩ v3
theorem putR_heap {W : World} {b : Nat} {x0 x1 x2 x3 : Value} {T : TypeId} (h : W.heap[b]? = some (.cells #[x0, x1, x2, x3] T (0, 0))) (v0 v1 v2 v3 : Value) : (putR W b v0 v1 v2 v3).heap[b]? = some (.cells #[v0, v1, v2, v3] T (0, 0)) := by
  have h0 : (W.setCell ⟨b, 0, none⟩ v0).heap[b]? = some (.cells #[v0, x1, x2, x3] T (0, 0)) := heap_setCell_same W b 0 _ _ _ h
  have h1 : ((W.setCell ⟨b, 0, none⟩ v0).setCell ⟨b, 1, none⟩ v1).heap[b]? = some (.cells #[v0, v1, x2, x3] T (0, 0)) := heap_setCell_same _ b 1 _ _ _ h0
  have h2 : (((W.setCell ⟨b, 0, none⟩ v0).setCell ⟨b, 1, none⟩ v1).setCell ⟨b, 2, none⟩ v2).heap[b]? = some (.cells #[v0, v1, v2, x3] T (0, 0)) := heap_setCell_same _ b 2 _ _ _ h1
  exact heap_setCell_same _ b 3 _ _ _ h2
theorem putR_kept (W : World) (b : Nat) (v0 v1 v2 v3 : Value) : Kept (fun i => i = b) W (putR W b v0 v1 v2 v3) := by
  unfold putR
  refine Kept.trans ?_ (ksetS _ b 3 _) (fun _ h => .inl h)
  refine Kept.trans ?_ (ksetS _ b 2 _) (fun _ h => .inl h)
  exact Kept.trans (ksetS _ b 0 _) (ksetS _ b 1 _) (fun _ h => .inl h)
theorem row4 {W : World} {b : Nat} {x0 x1 x2 x3 : Value} {T : TypeId} (h : W.heap[b]? = some (.cells #[x0, x1, x2, x3] T (0, 0))) :
    (W.cell? ⟨b, 0, none⟩ = some x0 ∧ W.cell? ⟨b, 1, none⟩ = some x1 ∧ W.cell? ⟨b, 2, none⟩ = some x2 ∧ W.cell? ⟨b, 3, none⟩ = some x3) ∧ (∀ j, W.frozen? ⟨b, j, none⟩ = false) := by
  have hc := fun j => cell_of_row W b j _ _ _ h
  refine ⟨⟨?_, ?_, ?_, ?_⟩, fun j => ?_⟩
  · rw [hc]; rfl
  · rw [hc]; rfl
  · rw [hc]; rfl
  · rw [hc]; rfl
  · simp [World.frozen?, h]
/-- The two blocks that a function of the document's cursor lays: its own copy, its answer. -/
def V2 (W : World) (la : Option Addr) (n lc u mv : Nat) (ask : Bool) : World := (W.alloc (.cells #[.slice la n lc, .int .i64 ((u : Int) - 1), .int .i64 ((mv : Nat) : Int), .bool ask] 35)).alloc (.cells #[.slice none 0 0, .int .i64 0, .int .i64 0, .bool false] 35)
theorem V2_facts (W : World) (la : Option Addr) (n lc u mv : Nat) (ask : Bool) : RfAt (V2 W la n lc u mv ask) W.heap.size la n lc u mv ask ∧ (V2 W la n lc u mv ask).heap[W.heap.size + 1]? = some (.cells #[.slice none 0 0, .int .i64 0, .int .i64 0, .bool false] 35 (0, 0)) ∧ Kept (fun _ => False) W (V2 W la n lc u mv ask) := by
  have k1 := Kept.alloc W (.cells #[.slice la n lc, .int .i64 ((u : Int) - 1), .int .i64 ((mv : Nat) : Int), .bool ask] 35)
  have k2 := Kept.alloc (W.alloc (.cells #[.slice la n lc, .int .i64 ((u : Int) - 1), .int .i64 ((mv : Nat) : Int), .bool ask] 35)) (.cells #[.slice none 0 0, .int .i64 0, .int .i64 0, .bool false] 35)
  have g1 := heap_alloc_new W (.cells #[.slice la n lc, .int .i64 ((u : Int) - 1), .int .i64 ((mv : Nat) : Int), .bool ask] 35)
  have g2 := heap_alloc_new (W.alloc (.cells #[.slice la n lc, .int .i64 ((u : Int) - 1), .int .i64 ((mv : Nat) : Int), .bool ask] 35)) (.cells #[.slice none 0 0, .int .i64 0, .int .i64 0, .bool false] 35)
  rw [show (W.alloc (.cells #[.slice la n lc, .int .i64 ((u : Int) - 1), .int .i64 ((mv : Nat) : Int), .bool ask] 35)).heap.size = W.heap.size + 1 by simp] at g2
  exact ⟨k2.heap g1 (fun f => f), g2, k1.trans k2 (fun _ f => f.elim)⟩
set_option maxRecDepth 20000 in
set_option maxHeartbeats 4000000 in
theorem rto_any (W : World) (la : Option Addr) (lc n u mv : Nat) (ask : Bool) (q : Nat) (hu : u ≤ q) (hq : q ≤ n) (hn : n ≤ 1099511627776) (hmv : mv ≤ 2305843009213693952) : Calls Tryz.prog 47 #[.agg #[.slice la n lc, .int .i64 ((u : Int) - 1), .int .i64 ((mv : Nat) : Int), .bool ask], .int .i64 (q : Nat)] W fun e w' => e = .returned (rfv la n lc (q + 1) (mv + mvU n u q) false) ∧ Kept (fun _ => False) W w' := by
  have CC : Hid (∀ V : World, _) := hideP (fun V : World => rcost_any V n u q hu hq hn)
  have hb : mvU n u q ≤ 2199023255552 + 64 := by unfold mvU nbp; split <;> (try split) <;> (try split) <;> omega
  obtain ⟨m0, hm0⟩ : ∃ m0, m0 = mvU n u q := ⟨_, rfl⟩
  rw [← hm0] at CC hb ⊢
  obtain ⟨M, hM⟩ : ∃ M : Nat, M = mv + m0 := ⟨_, rfl⟩
  rw [← hM]
  have HE2 : Hid ((mv : Int) + (m0 : Int) = (M : Int)) := hideP (by omega)
  have HEW : Hid (IntKind.i64.wrap ((mv : Int) + (m0 : Int)) = (M : Int)) := hideP (by rw [IntKind.wrap_i64]; omega)
  obtain ⟨f1, f2, f3⟩ := V2_facts W la n lc u mv ask
  have kd := Kept.drew (V2 W la n lc u mv ask)
  have hS0 : RfAt (V2 W la n lc u mv ask).drew W.heap.size la n lc u mv ask := kd.heap f1 (fun f => f)
  have hX : (V2 W la n lc u mv ask).drew.heap[W.heap.size + 1]? = some (.cells #[.slice none 0 0, .int .i64 0, .int .i64 0, .bool false] 35 (0, 0)) := kd.heap f2 (fun f => f)
  have HKV := hideP (f3.trans kd (fun _ f => f.elim))
  obtain ⟨bx, hbx⟩ : ∃ bx, bx = W.heap.size := ⟨_, rfl⟩
  rw [← hbx] at hS0 hX
  have HBX := hideP hbx
  clear hbx f1 f2 f3 kd hm0 hM hu hq
  go_enter Tryz.func47, Tryz.ntmps47
  go_wp2_with fail
  change Code.wp _ _ _ _ (V2 W la n lc u mv ask)
  rw [← HBX.out]
  refine wp_region_held (S := fun V => RfAt V bx la n lc u mv ask) (by kernel_rfl) ?_
  change wpAnyH _ _ _ _ _ _ _ _ (World.drew _)
  generalize (V2 W la n lc u mv ask).drew = V at *
  obtain ⟨⟨z0, z1, z2, z3⟩, gz⟩ := row4 hX
  have g0 := gz 0
  have g1 := gz 1
  have g2 := gz 2
  have g3 := gz 3
  have hX1 := putR_heap hX (.slice la n lc) (.int .i64 (q : Nat)) (.int .i64 (M : Nat)) (.bool false)
  have HX1 := hideP hX1
  have kR := putR_kept V (bx + 1) (.slice la n lc) (.int .i64 (q : Nat)) (.int .i64 (M : Nat)) (.bool false)
  have hS1 : RfAt (putR V (bx + 1) (.slice la n lc) (.int .i64 (q : Nat)) (.int .i64 (M : Nat)) (.bool false)) bx la n lc u mv ask := kR.heap hS0 (by omega)
  have HKE := hideP (HKV.out.trans kR (fun i hi => .inr (by have := HBX.out; omega)))
  clear gz hX hX1 kR
  unfold putR at hS1
  refine takeZ (i := 0) (d := 5) (v := .pointer (some ⟨bx, 0, none⟩)) rfl rfl (by kernel_rfl) (by kernel_rfl) (by kernel_rfl) (fun _ _ _ h => h) (Or.inl ⟨by rfl, fun W hW => ?_⟩) hS0 ?_
  · (go_simp)
  simp only [Act.put, List.setIfInBounds_toArray, List.set_cons_zero, List.set_cons_succ]
  refine takeZ (i := 1) (d := 6) (v := .slice la n lc) rfl rfl (by kernel_rfl) (by kernel_rfl) (by kernel_rfl) (fun _ _ _ h => h) (Or.inl ⟨by rfl, fun W hW => ?_⟩) hS0 ?_
  · (obtain ⟨d0, d1, d2, d3⟩ := RfAt.cells hW; go_simp)
  simp only [Act.put, List.setIfInBounds_toArray, List.set_cons_zero, List.set_cons_succ]
  refine takeZ (i := 2) (d := 7) (v := .int .i64 (q : Nat)) rfl rfl (by kernel_rfl) (by kernel_rfl) (by kernel_rfl) (fun _ _ _ h => h) (Or.inl ⟨by rfl, fun W hW => ?_⟩) hS0 ?_
  · (go_simp)
  simp only [Act.put, List.setIfInBounds_toArray, List.set_cons_zero, List.set_cons_succ]
  refine takeZ (i := 3) (d := 8) (v := .pointer (some ⟨bx, 2, none⟩)) rfl rfl (by kernel_rfl) (by kernel_rfl) (by kernel_rfl) (fun _ _ _ h => h) (Or.inl ⟨by rfl, fun W hW => ?_⟩) hS0 ?_
  · (go_simp)
  simp only [Act.put, List.setIfInBounds_toArray, List.set_cons_zero, List.set_cons_succ]
  refine takeZ (i := 4) (d := 9) (v := .int .i64 (mv : Nat)) rfl rfl (by kernel_rfl) (by kernel_rfl) (by kernel_rfl) (fun _ _ _ h => h) (Or.inl ⟨by rfl, fun W hW => ?_⟩) hS0 ?_
  · (obtain ⟨d0, d1, d2, d3⟩ := RfAt.cells hW; go_simp)
  simp only [Act.put, List.setIfInBounds_toArray, List.set_cons_zero, List.set_cons_succ]
  refine takeZ (i := 5) (d := 10) (v := .pointer (some ⟨bx, 1, none⟩)) rfl rfl (by kernel_rfl) (by kernel_rfl) (by kernel_rfl) (fun _ _ _ h => h) (Or.inl ⟨by rfl, fun W hW => ?_⟩) hS0 ?_
  · (go_simp)
  simp only [Act.put, List.setIfInBounds_toArray, List.set_cons_zero, List.set_cons_succ]
  refine takeZ (i := 6) (d := 11) (v := .int .i64 ((u : Int) - 1)) rfl rfl (by kernel_rfl) (by kernel_rfl) (by kernel_rfl) (fun _ _ _ h => h) (Or.inl ⟨by rfl, fun W hW => ?_⟩) hS0 ?_
  · (obtain ⟨d0, d1, d2, d3⟩ := RfAt.cells hW; go_simp)
  simp only [Act.put, List.setIfInBounds_toArray, List.set_cons_zero, List.set_cons_succ]
  refine takeZ (i := 7) (d := 12) (v := .int .i64 (q : Nat)) rfl rfl (by kernel_rfl) (by kernel_rfl) (by kernel_rfl) (fun _ _ _ h => h) (Or.inl ⟨by rfl, fun W hW => ?_⟩) hS0 ?_
  · (go_simp)
  simp only [Act.put, List.setIfInBounds_toArray, List.set_cons_zero, List.set_cons_succ]
  refine takeZ (i := 8) (d := 13) (v := .pointer (some ⟨bx, 0, none⟩)) rfl rfl (by kernel_rfl) (by kernel_rfl) (by kernel_rfl) (fun _ _ _ h => h) (Or.inl ⟨by rfl, fun W hW => ?_⟩) hS0 ?_
  · (go_simp)
  simp only [Act.put, List.setIfInBounds_toArray, List.set_cons_zero, List.set_cons_succ]
  refine takeZ (i := 9) (d := 14) (v := .slice la n lc) rfl rfl (by kernel_rfl) (by kernel_rfl) (by kernel_rfl) (fun _ _ _ h => h) (Or.inl ⟨by rfl, fun W hW => ?_⟩) hS0 ?_
  · (obtain ⟨d0, d1, d2, d3⟩ := RfAt.cells hW; go_simp)
  simp only [Act.put, List.setIfInBounds_toArray, List.set_cons_zero, List.set_cons_succ]
  refine takeZ (i := 10) (d := 15) (v := .int .i64 (n : Nat)) rfl rfl (by kernel_rfl) (by kernel_rfl) (by kernel_rfl) (fun _ _ _ h => h) (Or.inl ⟨by rfl, fun W hW => ?_⟩) hS0 ?_
  · (go_simp)
  simp only [Act.put, List.setIfInBounds_toArray, List.set_cons_zero, List.set_cons_succ]
  refine wpAnyH_all (rs := [11]) (by kernel_rfl) (by simp) ?_
  intro i hi
  obtain rfl : i = 11 := by simpa using hi
  unfold wpOp
  go_simp
  refine Or.inl ((CC.out V).mono ?_)
  rintro e V ⟨rfl, rfl⟩
  refine ⟨hS0, ?_⟩
  refine takeZ (i := 12) (d := 17) (v := .int .i64 (M : Nat)) rfl rfl (by kernel_rfl) (by kernel_rfl) (by kernel_rfl) (fun _ _ _ h => h) (Or.inl ⟨by rfl, fun W hW => ?_⟩) hS0 ?_
  · (go_simp; first | exact HEW.out | (rw [HE2.out]) | (rw [HE2.out, IntKind.wrap_i64]; omega))
  simp only [Act.put, List.setIfInBounds_toArray, List.set_cons_zero, List.set_cons_succ]
  refine takeZ (i := 13) (d := 18) (v := .agg #[.slice la n lc, .int .i64 (q : Nat), .int .i64 (M : Nat), .bool false]) rfl rfl (by kernel_rfl) (by kernel_rfl) (by kernel_rfl) (fun _ _ _ h => h) (Or.inl ⟨by rfl, fun W hW => ?_⟩) hS0 ?_
  · (go_simp)
  simp only [Act.put, List.setIfInBounds_toArray, List.set_cons_zero, List.set_cons_succ]
  refine wpAnyH_all (rs := [14]) (by kernel_rfl) (by simp) ?_
  intro i hi
  obtain rfl : i = 14 := by simpa using hi
  unfold wpOp
  go_simp
  first | refine Or.inl ⟨hS1, ?_⟩ | refine ⟨hS1, ?_⟩ | (change wpAnyH _ _ _ _ _ _ _ _ _) | refine Or.inl ?_
  refine wpAnyH_done (by kernel_rfl) ?_ _
  go_wp2
  obtain ⟨⟨y0, y1, y2, y3⟩, -⟩ := row4 HX1.out
  simp only [putR] at y0 y1 y2 y3
  refine bodyPost_ret (v := rfv la n lc (q + 1) M false) (by simp [results, Tryz.results47, go_sem, y0, y1, y2, y3, rfv]) rfl ⟨rfl, HKE.out⟩
end Go.Proofs.YtjkbongfampgjaaGreatDoor
namespace Go.Proofs.YtjkbongfampgjaaGreatDoor
open Go.ChangeShapes Go.WideShapes Go.ChangeAt Go.RowKit

set_option maxRecDepth 20000 in
set_option maxHeartbeats 4000000 in
theorem rnext_in (W : World) (la : Option Addr) (lc n u mv : Nat) (ask : Bool) (hu : u ≤ n) (hn : n ≤ 1099511627776) (hmv : mv ≤ 2305843009213693952) : Calls Tryz.prog 23 #[.agg #[.slice la n lc, .int .i64 ((u : Int) - 1), .int .i64 ((mv : Nat) : Int), .bool ask]] W fun e w' => e = .returned (rfv la n lc (u + 1) (mv + 1) false) ∧ Kept (fun _ => False) W w' := by
  obtain ⟨f1, f2, f3⟩ := V2_facts W la n lc u mv ask
  obtain ⟨bx, hbx⟩ : ∃ bx, bx = W.heap.size := ⟨_, rfl⟩
  rw [← hbx] at f1 f2
  have HBX := hideP hbx
  clear hbx
  have CT := hideP (rto_any (V2 W la n lc u mv ask) la lc n u mv ask u (Nat.le_refl _) hu hn hmv)
  rw [mvU_next] at CT
  obtain ⟨M, hM⟩ : ∃ M : Nat, M = mv + 1 := ⟨_, rfl⟩
  rw [← hM] at CT ⊢
  simp only [rfv] at CT
  rw [show ((u + 1 : Nat) : Int) - 1 = (u : Int) by omega] at CT
  have t0 : (u : Int) - 1 + 1 = (u : Int) := by omega
  have h3 : ¬ (n : Int) ≤ (u : Int) - 1 := by omega
  have h3b : decide ((n : Int) ≤ (u : Int) - 1) = false := decide_eq_false h3
  have HF2 := hideP f2
  have HF3 := hideP f3
  clear f1 f2 f3 hmv hM
  go_enter Tryz.func23, Tryz.ntmps23
  go_wp2_with (go_at_call 47; refine StpQ.go ?_)
  refine ⟨?_⟩
  refine CT.out.mono ?_
  clear CT
  rintro e W3 ⟨rfl, k3⟩
  have HZ := hideP (k3.heap HF2.out (fun f => f))
  have HKV := hideP (HF3.out.trans k3 (fun _ f => f.elim))
  rw [← HBX.out]
  clear k3 HF2 HF3
  obtain ⟨⟨z0, z1, z2, z3⟩, gz⟩ := row4 HZ.out
  have g0 := gz 0
  have g1 := gz 1
  have g2 := gz 2
  have g3 := gz 3
  have HX1 := hideP (putR_heap HZ.out (.slice la n lc) (.int .i64 (u : Int)) (.int .i64 ((M : Nat) : Int)) (.bool false))
  have HKE := hideP (HKV.out.trans (putR_kept W3 (bx + 1) (.slice la n lc) (.int .i64 (u : Int)) (.int .i64 ((M : Nat) : Int)) (.bool false)) (fun i hi => .inr (by have := HBX.out; omega)))
  clear gz
  go_wp2
  obtain ⟨⟨y0, y1, y2, y3⟩, -⟩ := row4 HX1.out
  simp only [putR] at y0 y1 y2 y3
  refine bodyPost_ret (v := rfv la n lc (u + 1) M false) (by simp [results, Tryz.results23, go_sem, y0, y1, y2, y3, rfv]) rfl ⟨rfl, HKE.out⟩
set_option maxRecDepth 20000 in
set_option maxHeartbeats 4000000 in
theorem rnext_end (W : World) (la : Option Addr) (lc n u mv : Nat) (ask : Bool) (hu : n < u) : Calls Tryz.prog 23 #[.agg #[.slice la n lc, .int .i64 ((u : Int) - 1), .int .i64 ((mv : Nat) : Int), .bool ask]] W fun e w' => e = .returned (rfv la n lc u mv ask) ∧ Kept (fun _ => False) W w' := by
  have h3 : (n : Int) ≤ (u : Int) - 1 := by omega
  go_enter Tryz.func23, Tryz.ntmps23
  go_wp2
  refine bodyPost_ret (v := rfv la n lc u mv ask) (by simp [results, Tryz.results23, go_sem, rfv]) rfl ⟨rfl, (Kept.alloc _ _).trans (Kept.alloc _ _) (fun _ f => f.elim)⟩
set_option maxRecDepth 20000 in
set_option maxHeartbeats 4000000 in
theorem rtotal_any (W : World) (la : Option Addr) (lc n u mv : Nat) (ask : Bool) {P : List Po} {FL : List Pg} (hP : PsAt W la FL) (hp : pol FL = P) (hn : n = P.length) (hl : n ≤ 1099511627776) (ht : tot P ≤ 1099511627776) : Calls Tryz.prog 32 #[.agg #[.slice la n lc, .int .i64 ((u : Int) - 1), .int .i64 ((mv : Nat) : Int), .bool ask]] W fun e w' => e = .returned (.int .i64 ((tot P : Nat) : Int)) ∧ Kept (fun _ => False) W w' := by
  have kA := Kept.alloc W (.cells #[.slice la n lc, .int .i64 ((u : Int) - 1), .int .i64 ((mv : Nat) : Int), .bool ask] 35)
  have HPs := hideP (hP.kept kA)
  have HP := hideP hp
  have HN := hideP hn
  have HT := hideP ht
  have g1 := heap_alloc_new W (.cells #[.slice la n lc, .int .i64 ((u : Int) - 1), .int .i64 ((mv : Nat) : Int), .bool ask] 35)
  have c0 := cell_of_row _ _ 0 _ _ _ g1
  simp only [List.getElem?_toArray, List.getElem?_cons_zero] at c0
  have HK := hideP kA
  clear hP hp hn ht kA g1
  go_enter Tryz.func32, Tryz.ntmps32
  go_wp2
  generalize W.heap.size = bx at *
  generalize W.alloc (.cells #[.slice la n lc, .int .i64 ((u : Int) - 1), .int .i64 ((mv : Nat) : Int), .bool ask] 35) = W1 at *
  go_loopw [3, 4] (fun s3 s4 wr => ∃ i : Nat, i ≤ n ∧ s4 = .int .i64 i ∧ s3 = .int .i64 (tot (P.take i) : Nat) ∧ wr = W1) (fun _ s4 _ => n - (intOf s4).toNat)
  case atStart => exact ⟨0, Nat.zero_le _, rfl, rfl, rfl⟩
  case round =>
    obtain ⟨i, hi, rfl, rfl, rfl⟩ := hrel
    by_cases hin : i < n
    · have hii : (i : Int) < (n : Int) := by omega
      have hiP : i < P.length := by rw [← HN.out]; exact hin
      obtain ⟨pb, po, ga, gc, rfl, z0, z1, z2⟩ := ps_at HPs.out HP.out hiP
      have HTS : Hid (tot (P.take i) + (posU P (i + 1)).length = tot (P.take (i + 1))) := hideP (by
        rw [List.take_succ_eq_append_getElem hiP, tot_append]
        simp [posU, List.getElem?_eq_getElem hiP, tot])
      have hb := tot_take_le P (i + 1)
      rw [← HTS.out] at hb
      have hb2 := HT.out
      obtain ⟨a1, ha1⟩ : ∃ a1, a1 = tot (P.take i) := ⟨_, rfl⟩
      obtain ⟨a2, ha2⟩ : ∃ a2, a2 = (posU P (i + 1)).length := ⟨_, rfl⟩
      rw [← ha1, ← ha2] at HTS hb
      rw [← ha1]
      rw [← ha2] at z1
      have hb3 : a1 + a2 ≤ 1099511627776 := by omega
      clear ha1 ha2 hb hb2 z2
      go_wp2
      go_roundw
      case rel => exact ⟨i + 1, by omega, by go_num, (by rw [← HTS.out]; go_num), by first | rfl | trivial⟩
      case measure => simp [intOf]; omega
    · obtain rfl : i = n := by omega
      have hii : ¬ (i : Int) < (i : Int) := by omega
      have HTS : Hid (tot (P.take i) = tot P) := hideP (by rw [HN.out, List.take_length])
      rw [HTS.out]
      go_wp2
      go_ret
      exact ⟨rfl, HK.out⟩
set_option maxRecDepth 20000 in
set_option maxHeartbeats 4000000 in
theorem radv_no (W : World) (la : Option Addr) (lc n u mv : Nat) (ask : Bool) {P : List Po} {FL : List Pg} (hP : PsAt W la FL) (hp : pol FL = P) (hn : n = P.length) (t : Int) (hno : ¬ docU P u < t ∨ n < u) : Calls Tryz.prog 24 #[.agg #[.slice la n lc, .int .i64 ((u : Int) - 1), .int .i64 ((mv : Nat) : Int), .bool ask], .int .i64 t] W fun e w' => e = .returned (rfv la n lc u mv ask) ∧ Kept (fun _ => False) W w' := by
  obtain ⟨f1, f2, f3⟩ := V2_facts W la n lc u mv ask
  obtain ⟨bx, hbx⟩ : ∃ bx, bx = W.heap.size := ⟨_, rfl⟩
  rw [← hbx] at f1 f2
  have HBX := hideP hbx
  clear hbx
  have CD := hideP (rdoc_any (V2 W la n lc u mv ask) la lc n u mv ask (hP.kept f3) hp hn)
  obtain ⟨dA, hdA⟩ : ∃ dA, dA = docU P u := ⟨_, rfl⟩
  rw [← hdA] at CD
  have HF1 := hideP f1
  have HF2 := hideP f2
  have HF3 := hideP f3
  clear f1 f2 f3
  rw [← hdA] at hno
  clear hdA hP hp hn
  by_cases h1 : dA < t
  · have h2 : (n : Int) ≤ (u : Int) - 1 := by
      rcases hno with q | q
      · exact absurd h1 q
      · omega
    have h1b : decide (t ≤ dA) = false := decide_eq_false (by omega)
    clear hno
    go_enter Tryz.func24, Tryz.ntmps24
    go_wp2_with (go_at_call 12; refine StpQ.go ?_)
    refine ⟨?_⟩
    refine CD.out.mono ?_
    clear CD
    rintro e W3 ⟨rfl, k3⟩
    have HZ := hideP (k3.heap HF2.out (fun f => f))
    have HKV := hideP (HF3.out.trans k3 (fun _ f => f.elim))
    have HR3 : Hid (RfAt W3 bx la n lc u mv ask) := hideP (k3.heap HF1.out (fun f => f))
    obtain ⟨d0, d1, d2, d3⟩ := RfAt.cells HR3.out
    rw [← HBX.out]
    clear k3 HF2 HF3 HF1
    obtain ⟨⟨z0, z1, z2, z3⟩, gz⟩ := row4 HZ.out
    have g0 := gz 0
    have g1 := gz 1
    have g2 := gz 2
    have g3 := gz 3
    have HX1 := hideP (putR_heap HZ.out (.slice la n lc) (.int .i64 ((u : Int) - 1)) (.int .i64 ((mv : Nat) : Int)) (.bool ask))
    have HKE := hideP (HKV.out.trans (putR_kept W3 (bx + 1) (.slice la n lc) (.int .i64 ((u : Int) - 1)) (.int .i64 ((mv : Nat) : Int)) (.bool ask)) (fun i hi => .inr (by have := HBX.out; omega)))
    clear gz
    go_wp2
    obtain ⟨⟨y0, y1, y2, y3⟩, -⟩ := row4 HX1.out
    simp only [putR] at y0 y1 y2 y3
    refine bodyPost_ret (v := rfv la n lc u mv ask) (by simp [results, Tryz.results24, go_sem, y0, y1, y2, y3, rfv]) rfl ⟨rfl, HKE.out⟩
  · have h1b : t ≤ dA := by omega
    clear hno
    go_enter Tryz.func24, Tryz.ntmps24
    go_wp2_with (go_at_call 12; refine StpQ.go ?_)
    refine ⟨?_⟩
    refine CD.out.mono ?_
    clear CD
    rintro e W3 ⟨rfl, k3⟩
    have HZ := hideP (k3.heap HF2.out (fun f => f))
    have HKV := hideP (HF3.out.trans k3 (fun _ f => f.elim))
    have HR3 : Hid (RfAt W3 bx la n lc u mv ask) := hideP (k3.heap HF1.out (fun f => f))
    obtain ⟨d0, d1, d2, d3⟩ := RfAt.cells HR3.out
    rw [← HBX.out]
    clear k3 HF2 HF3 HF1
    obtain ⟨⟨z0, z1, z2, z3⟩, gz⟩ := row4 HZ.out
    have g0 := gz 0
    have g1 := gz 1
    have g2 := gz 2
    have g3 := gz 3
    have HX1 := hideP (putR_heap HZ.out (.slice la n lc) (.int .i64 ((u : Int) - 1)) (.int .i64 ((mv : Nat) : Int)) (.bool ask))
    have HKE := hideP (HKV.out.trans (putR_kept W3 (bx + 1) (.slice la n lc) (.int .i64 ((u : Int) - 1)) (.int .i64 ((mv : Nat) : Int)) (.bool ask)) (fun i hi => .inr (by have := HBX.out; omega)))
    clear gz
    go_wp2
    obtain ⟨⟨y0, y1, y2, y3⟩, -⟩ := row4 HX1.out
    simp only [putR] at y0 y1 y2 y3
    refine bodyPost_ret (v := rfv la n lc u mv ask) (by simp [results, Tryz.results24, go_sem, y0, y1, y2, y3, rfv]) rfl ⟨rfl, HKE.out⟩
set_option maxRecDepth 20000 in
set_option maxHeartbeats 4000000 in
theorem radv_in (W : World) (la : Option Addr) (lc n u mv : Nat) (ask : Bool) {P : List Po} {FL : List Pg} (hP : PsAt W la FL) (hp : pol FL = P) (hn : n = P.length) (t : Int) (hg : gdl (-1) P) (hu : u ≤ n) (hd : docU P u < t) (hl : n ≤ 1099511627776) (hmv : mv ≤ 2305843009213693952) : Calls Tryz.prog 24 #[.agg #[.slice la n lc, .int .i64 ((u : Int) - 1), .int .i64 ((mv : Nat) : Int), .bool ask], .int .i64 t] W fun e w' => e = .returned (rfv la n lc (plc P t + 1) (mv + mvU n u (plc P t)) false) ∧ Kept (fun _ => False) W w' := by
  obtain ⟨f1, f2, f3⟩ := V2_facts W la n lc u mv ask
  obtain ⟨bx, hbx⟩ : ∃ bx, bx = W.heap.size := ⟨_, rfl⟩
  rw [← hbx] at f1 f2
  have HBX := hideP hbx
  clear hbx
  have CD := hideP (rdoc_any (V2 W la n lc u mv ask) la lc n u mv ask (hP.kept f3) hp hn)
  obtain ⟨dA, hdA⟩ : ∃ dA, dA = docU P u := ⟨_, rfl⟩
  rw [← hdA] at CD
  have HF1 := hideP f1
  have HF2 := hideP f2
  have HF3 := hideP f3
  clear f1 f2 f3
  have HLO : Hid (∀ i (hi : i < P.length), i < u → P[i].d < t) := hideP (below_doc hg (by rw [← hn]; exact hu) hd)
  have HPs := hideP hP
  have HP := hideP hp
  have HN := hideP hn
  rw [← hdA] at hd
  have h1b : decide (t ≤ dA) = false := decide_eq_false (by omega)
  have h2 : ¬ (n : Int) ≤ (u : Int) - 1 := by omega
  have h2b : decide ((n : Int) ≤ (u : Int) - 1) = false := decide_eq_false h2
  have t0 : (u : Int) - 1 + 1 = (u : Int) := by omega
  have HG := hideP hg
  clear hdA hP hp hn hg
  go_enter Tryz.func24, Tryz.ntmps24
  go_wp2_with (go_at_call 12; refine StpQ.go ?_)
  refine ⟨?_⟩
  refine CD.out.mono ?_
  clear CD
  rintro e W3 ⟨rfl, k3⟩
  have HZ := hideP (k3.heap HF2.out (fun f => f))
  have HKV := hideP (HF3.out.trans k3 (fun _ f => f.elim))
  have HR3 : Hid (RfAt W3 bx la n lc u mv ask) := hideP (k3.heap HF1.out (fun f => f))
  obtain ⟨d0, d1, d2, d3⟩ := RfAt.cells HR3.out
  rw [← HBX.out]
  clear k3 HF2 HF3 HF1
  go_wp2
  go_loopw [5] (fun s5 wr => ∃ q : Nat, u ≤ q ∧ q ≤ n ∧ s5 = .int .i64 q ∧ wr = W3 ∧ Hid (∀ i (hi : i < P.length), i < q → P[i].d < t)) (fun s5 _ => n - (intOf s5).toNat)
  case atStart => exact ⟨u, Nat.le_refl _, hu, rfl, rfl, HLO⟩
  case round =>
    obtain ⟨q, hq1, hq2, rfl, rfl, HLq⟩ := hrel
    by_cases hqn : q < n
    · have hqq : (q : Int) < (n : Int) := by omega
      have hqP : q < P.length := by rw [← HN.out]; exact hqn
      obtain ⟨pb, po, ga, gc, rfl, z0, z1, z2⟩ := ps_at (HPs.out.kept HKV.out) HP.out hqP
      rw [docU_in hqP] at z0
      obtain ⟨dq, hdq⟩ : ∃ dq, dq = P[q].d := ⟨_, rfl⟩
      rw [← hdq] at z0
      clear z1 z2
      by_cases hlt : dq < t
      · have HLn : Hid (∀ i (hi : i < P.length), i < q + 1 → P[i].d < t) := hideP (fun i hi h => by
          rcases Nat.lt_or_ge i q with e | e
          · exact HLq.out i hi e
          · obtain rfl : i = q := by omega
            omega)
        clear hdq
        go_wp2
        go_roundw
        case rel => exact ⟨q + 1, by omega, by omega, by go_num, by first | rfl | trivial, HLn⟩
        case measure => simp [intOf]; omega
      · have HPL : Hid (plc P t = q) := hideP (plc_at hqP (by omega) HLq.out)
        clear hdq
        have CT := hideP (rto_any wr (some ⟨pb, po, none⟩) lc n u mv ask q hq1 hq2 hl hmv)
        obtain ⟨M, hM⟩ : ∃ M : Nat, M = mv + mvU n u q := ⟨_, rfl⟩
        rw [← hM] at CT
        have HM := hideP hM
        simp only [rfv] at CT
        rw [show ((q + 1 : Nat) : Int) - 1 = (q : Int) by omega] at CT
        clear hM
        go_wp2_with (go_at_call 47; refine StpQ.go ?_)
        refine ⟨?_⟩
        refine CT.out.mono ?_
        clear CT d0 d1 d2 d3
        rintro e W4 ⟨rfl, k4⟩
        have HZ := hideP (k4.heap HZ.out (fun f => f))
        have HKV := hideP (HKV.out.trans k4 (fun _ f => f.elim))
        clear k4
        obtain ⟨⟨z0, z1, z2, z3⟩, gz⟩ := row4 HZ.out
        have g0 := gz 0
        have g1 := gz 1
        have g2 := gz 2
        have g3 := gz 3
        have HX1 := hideP (putR_heap HZ.out (.slice (some ⟨pb, po, none⟩) n lc) (.int .i64 (q : Int)) (.int .i64 ((M : Nat) : Int)) (.bool false))
        have HKE := hideP (HKV.out.trans (putR_kept W4 (bx + 1) (.slice (some ⟨pb, po, none⟩) n lc) (.int .i64 (q : Int)) (.int .i64 ((M : Nat) : Int)) (.bool false)) (fun i hi => .inr (by have := HBX.out; omega)))
        clear gz
        go_wp2
        obtain ⟨⟨y0, y1, y2, y3⟩, -⟩ := row4 HX1.out
        simp only [putR] at y0 y1 y2 y3
        refine bodyPost_ret (v := rfv (some ⟨pb, po, none⟩) n lc (q + 1) M false) (by simp [results, Tryz.results24, go_sem, y0, y1, y2, y3, rfv]) rfl ⟨by rw [HPL.out, ← HM.out], HKE.out⟩
    · obtain rfl : q = n := by omega
      have hqq : ¬ (q : Int) < (q : Int) := by omega
      have HPL : Hid (plc P t = q) := hideP (by rw [plc_all (fun i hi => HLq.out i hi (by rw [HN.out]; exact hi)), ← HN.out])
      have CT := hideP (rto_any wr la lc q u mv ask q hq1 hq2 hl hmv)
      obtain ⟨M, hM⟩ : ∃ M : Nat, M = mv + mvU q u q := ⟨_, rfl⟩
      rw [← hM] at CT
      have HM := hideP hM
      simp only [rfv] at CT
      rw [show ((q + 1 : Nat) : Int) - 1 = (q : Int) by omega] at CT
      clear hM
      go_wp2_with (go_at_call 47; refine StpQ.go ?_)
      refine ⟨?_⟩
      refine CT.out.mono ?_
      clear CT d0 d1 d2 d3
      rintro e W4 ⟨rfl, k4⟩
      have HZ := hideP (k4.heap HZ.out (fun f => f))
      have HKV := hideP (HKV.out.trans k4 (fun _ f => f.elim))
      clear k4
      obtain ⟨⟨z0, z1, z2, z3⟩, gz⟩ := row4 HZ.out
      have g0 := gz 0
      have g1 := gz 1
      have g2 := gz 2
      have g3 := gz 3
      have HX1 := hideP (putR_heap HZ.out (.slice la q lc) (.int .i64 (q : Int)) (.int .i64 ((M : Nat) : Int)) (.bool false))
      have HKE := hideP (HKV.out.trans (putR_kept W4 (bx + 1) (.slice la q lc) (.int .i64 (q : Int)) (.int .i64 ((M : Nat) : Int)) (.bool false)) (fun i hi => .inr (by have := HBX.out; omega)))
      clear gz
      go_wp2
      obtain ⟨⟨y0, y1, y2, y3⟩, -⟩ := row4 HX1.out
      simp only [putR] at y0 y1 y2 y3
      refine bodyPost_ret (v := rfv la q lc (q + 1) M false) (by simp [results, Tryz.results24, go_sem, y0, y1, y2, y3, rfv]) rfl ⟨by rw [HPL.out, ← HM.out], HKE.out⟩
end Go.Proofs.YtjkbongfampgjaaGreatDoor
namespace Go.Proofs.YtjkbongfampgjaaGreatDoor
open Go.ChangeShapes Go.WideShapes Go.ChangeAt Go.RowKit

set_option maxRecDepth 20000 in
set_option maxHeartbeats 4000000 in
theorem rpos_true (W : World) (la : Option Addr) (lc n u mv : Nat) : Calls Tryz.prog 26 #[.agg #[.slice la n lc, .int .i64 ((u : Int) - 1), .int .i64 ((mv : Nat) : Int), .bool true]] W fun e w' => e = .returned (rfv la n lc u mv true) ∧ Kept (fun _ => False) W w' := by
  go_enter Tryz.func26, Tryz.ntmps26
  go_wp2
  refine bodyPost_ret (v := rfv la n lc u mv true) (by simp [results, Tryz.results26, go_sem, rfv]) rfl ⟨rfl, (Kept.alloc _ _).trans (Kept.alloc _ _) (fun _ f => f.elim)⟩
set_option maxRecDepth 20000 in
set_option maxHeartbeats 4000000 in
theorem rpos_false (W : World) (la : Option Addr) (lc n u mv : Nat) {P : List Po} {FL : List Pg} (hP : PsAt W la FL) (hp : pol FL = P) (hn : n = P.length) (hmv : mv ≤ 2305843009213693952) (hl : (posU P u).length ≤ 1099511627776) : Calls Tryz.prog 26 #[.agg #[.slice la n lc, .int .i64 ((u : Int) - 1), .int .i64 ((mv : Nat) : Int), .bool false]] W fun e w' => e = .returned (rfv la n lc u (mv + (posU P u).length) true) ∧ Kept (fun _ => False) W w' := by
  obtain ⟨f1, f2, f3⟩ := V2_facts W la n lc u mv false
  obtain ⟨bx, hbx⟩ : ∃ bx, bx = W.heap.size := ⟨_, rfl⟩
  rw [← hbx] at f1 f2
  have HBX := hideP hbx
  clear hbx
  have kd := Kept.drew (V2 W la n lc u mv false)
  have CH := hideP (rhere_any (V2 W la n lc u mv false).drew (V2 W la n lc u mv false).drew la lc n u mv false (hP.kept (f3.trans kd (fun _ f => f.elim))) hp hn (Kept.refl _ _))
  unfold hePost at CH
  obtain ⟨pn, hpn⟩ : ∃ pn, pn = (posU P u).length := ⟨_, rfl⟩
  obtain ⟨M, hM⟩ : ∃ M : Nat, M = mv + (posU P u).length := ⟨_, rfl⟩
  rw [← hM]
  rw [← hpn] at CH hl hM
  have hE2 : (mv : Int) + (pn : Int) = (M : Int) := by omega
  have hM2 : (M : Int) ≤ 4611686018427387904 := by omega
  have hR : RfAt (V2 W la n lc u mv false).drew bx la n lc u mv false := kd.heap f1 (fun f => f)
  have hZ : (V2 W la n lc u mv false).drew.heap[bx + 1]? = _ := kd.heap f2 (fun f => f)
  have HKV := hideP (f3.trans kd (fun _ f => f.elim))
  obtain ⟨d0, d1, d2, d3⟩ := RfAt.cells hR
  have HR := hideP hR
  have HZ := hideP hZ
  clear f1 f2 f3 kd hP hp hn hM hpn hmv hl hR hZ
  go_enter Tryz.func26, Tryz.ntmps26
  go_wp2_with fail
  change Code.wp _ _ _ _ (V2 W la n lc u mv false)
  rw [← HBX.out]
  refine wp_region_held (S := AnyZ) (by kernel_rfl) ?_
  change wpAnyH _ _ _ _ _ _ _ _ (World.drew _)
  generalize (V2 W la n lc u mv false).drew = V at *
  refine takeZ (i := 0) (d := 6) (v := .pointer (some ⟨bx, 2, none⟩)) rfl rfl (by kernel_rfl) (by kernel_rfl) (by kernel_rfl) (fun _ _ _ h => h) (Or.inl ⟨by rfl, fun W hW => ?_⟩) (anyZ _) ?_
  · (go_simp)
  simp only [Act.put, List.setIfInBounds_toArray, List.set_cons_zero, List.set_cons_succ]
  refine wpAnyH_all (rs := [1, 2]) (by kernel_rfl) (by simp) ?_
  intro i hi
  obtain rfl | rfl : i = 1 ∨ i = 2 := by simpa using hi
  · unfold wpOp
    go_simp
    first | refine Or.inl ⟨(anyZ _), ?_⟩ | refine ⟨(anyZ _), ?_⟩ | (change wpAnyH _ _ _ _ _ _ _ _ _) | refine Or.inl ?_
    refine wpAnyH_all (rs := [2]) (by kernel_rfl) (by simp) ?_
    intro i hi
    obtain rfl : i = 2 := by simpa using hi
    unfold wpOp
    go_simp
    first | refine Or.inl ⟨(anyZ _), ?_⟩ | refine ⟨(anyZ _), ?_⟩ | (change wpAnyH _ _ _ _ _ _ _ _ _) | refine Or.inl ?_
    refine wpAnyH_all (rs := [3]) (by kernel_rfl) (by simp) ?_
    intro i hi
    obtain rfl : i = 3 := by simpa using hi
    unfold wpOp
    go_simp
    refine Or.inl (CH.out.mono ?_)
    rintro e V1 ⟨ga, gc, rfl, hI, k1⟩
    refine ⟨anyZ _, ?_⟩
    have hR1 : RfAt V1 bx la n lc u mv false := k1.heap HR.out (fun f => f)
    obtain ⟨⟨c0, c1, c2, c3⟩, gz⟩ := row4 hR1
    have gz2 := gz 2
    have hr1 : (V1.setCell ⟨bx, 2, none⟩ (.int .i64 (M : Nat))).heap[bx]? = some (.cells #[.slice la n lc, .int .i64 ((u : Int) - 1), .int .i64 (M : Nat), .bool false] 35 (0, 0)) := heap_setCell_same V1 bx 2 _ _ _ hR1
    have kU := (Kept.setCell V1 ⟨bx, 2, none⟩ (.int .i64 ((M : Nat) : Int)))
    have HZ1 := hideP ((kU.heap (k1.heap HZ.out (fun f => f)) (by simp only; omega)))
    have HK1 := hideP ((HKV.out.trans k1 (fun _ f => f.elim)).trans kU (fun i hi => .inr (by have := HBX.out; simp only at hi; omega)))
    have HR1 := hideP hr1
    clear hI hR1 gz kU k1 hr1
    refine takeZ (i := 4) (d := 10) (v := .int .i64 (pn : Nat)) rfl rfl (by kernel_rfl) (by kernel_rfl) (by kernel_rfl) (fun _ _ _ h => h) (Or.inl ⟨by rfl, fun W hW => ?_⟩) (anyZ _) ?_
    · (go_simp)
    simp only [Act.put, List.setIfInBounds_toArray, List.set_cons_zero, List.set_cons_succ]
    refine takeZ (i := 5) (d := 11) (v := .int .i64 (M : Nat)) rfl rfl (by kernel_rfl) (by kernel_rfl) (by kernel_rfl) (fun _ _ _ h => h) (Or.inl ⟨by rfl, fun W hW => ?_⟩) (anyZ _) ?_
    · (go_simp; first | exact hE2 | (rw [hE2]) | (rw [hE2, IntKind.wrap_i64]; omega) | (rw [IntKind.wrap_i64]; omega))
    simp only [Act.put, List.setIfInBounds_toArray, List.set_cons_zero, List.set_cons_succ]
    refine takeZ (i := 6) (d := 12) (v := .pointer (some ⟨bx, 2, none⟩)) rfl rfl (by kernel_rfl) (by kernel_rfl) (by kernel_rfl) (fun _ _ _ h => h) (Or.inl ⟨by rfl, fun W hW => ?_⟩) (anyZ _) ?_
    · (go_simp)
    simp only [Act.put, List.setIfInBounds_toArray, List.set_cons_zero, List.set_cons_succ]
    refine wpAnyH_all (rs := [7]) (by kernel_rfl) (by simp) ?_
    intro i hi
    obtain rfl : i = 7 := by simpa using hi
    unfold wpOp
    go_simp
    first | refine Or.inl ⟨(anyZ _), ?_⟩ | refine ⟨(anyZ _), ?_⟩ | (change wpAnyH _ _ _ _ _ _ _ _ _) | refine Or.inl ?_
    refine wpAnyH_done (by kernel_rfl) ?_ _
    generalize V1.setCell ⟨bx, 2, none⟩ (.int .i64 ((M : Nat) : Int)) = U1 at *
    obtain ⟨⟨i0, i1, i2, i3⟩, gi⟩ := row4 HR1.out
    have gi3 := gi 3
    have hr2 : (U1.setCell ⟨bx, 3, none⟩ (.bool true)).heap[bx]? = some (.cells #[.slice la n lc, .int .i64 ((u : Int) - 1), .int .i64 (M : Nat), .bool true] 35 (0, 0)) := heap_setCell_same U1 bx 3 _ _ _ HR1.out
    obtain ⟨⟨j0, j1, j2, j3⟩, gj⟩ := row4 hr2
    have kU := (Kept.setCell U1 ⟨bx, 3, none⟩ (.bool true))
    have HZ := hideP (kU.heap HZ1.out (by simp only; omega))
    have HKV := hideP (HK1.out.trans kU (fun i hi => .inr (by have := HBX.out; simp only at hi; omega)))
    clear gi gj kU hr2 HR1 HZ1 HK1 c0 c1 c2 c3 gz2
    obtain ⟨⟨z0, z1, z2, z3⟩, gz⟩ := row4 HZ.out
    have g0 := gz 0
    have g1 := gz 1
    have g2 := gz 2
    have g3 := gz 3
    have HX1 := hideP (putR_heap HZ.out (.slice la n lc) (.int .i64 ((u : Int) - 1)) (.int .i64 ((M : Nat) : Int)) (.bool true))
    have HKE := hideP (HKV.out.trans (putR_kept (U1.setCell ⟨bx, 3, none⟩ (.bool true)) (bx + 1) (.slice la n lc) (.int .i64 ((u : Int) - 1)) (.int .i64 ((M : Nat) : Int)) (.bool true)) (fun i hi => .inr (by have := HBX.out; omega)))
    clear gz
    go_wp2
    obtain ⟨⟨y0, y1, y2, y3⟩, -⟩ := row4 HX1.out
    simp only [putR] at y0 y1 y2 y3
    refine bodyPost_ret (v := rfv la n lc u M true) (by simp [results, Tryz.results26, go_sem, y0, y1, y2, y3, rfv]) rfl ⟨rfl, HKE.out⟩
  · unfold wpOp
    go_simp
    first | refine Or.inl ⟨(anyZ _), ?_⟩ | refine ⟨(anyZ _), ?_⟩ | (change wpAnyH _ _ _ _ _ _ _ _ _) | refine Or.inl ?_
    refine wpAnyH_all (rs := [1, 3]) (by kernel_rfl) (by simp) ?_
    intro i hi
    obtain rfl | rfl : i = 1 ∨ i = 3 := by simpa using hi
    · unfold wpOp
      go_simp
      first | refine Or.inl ⟨(anyZ _), ?_⟩ | refine ⟨(anyZ _), ?_⟩ | (change wpAnyH _ _ _ _ _ _ _ _ _) | refine Or.inl ?_
      refine wpAnyH_all (rs := [3]) (by kernel_rfl) (by simp) ?_
      intro i hi
      obtain rfl : i = 3 := by simpa using hi
      unfold wpOp
      go_simp
      refine Or.inl (CH.out.mono ?_)
      rintro e V1 ⟨ga, gc, rfl, hI, k1⟩
      refine ⟨anyZ _, ?_⟩
      have hR1 : RfAt V1 bx la n lc u mv false := k1.heap HR.out (fun f => f)
      obtain ⟨⟨c0, c1, c2, c3⟩, gz⟩ := row4 hR1
      have gz2 := gz 2
      have hr1 : (V1.setCell ⟨bx, 2, none⟩ (.int .i64 (M : Nat))).heap[bx]? = some (.cells #[.slice la n lc, .int .i64 ((u : Int) - 1), .int .i64 (M : Nat), .bool false] 35 (0, 0)) := heap_setCell_same V1 bx 2 _ _ _ hR1
      have kU := (Kept.setCell V1 ⟨bx, 2, none⟩ (.int .i64 ((M : Nat) : Int)))
      have HZ1 := hideP ((kU.heap (k1.heap HZ.out (fun f => f)) (by simp only; omega)))
      have HK1 := hideP ((HKV.out.trans k1 (fun _ f => f.elim)).trans kU (fun i hi => .inr (by have := HBX.out; simp only at hi; omega)))
      have HR1 := hideP hr1
      clear hI hR1 gz kU k1 hr1
      refine takeZ (i := 4) (d := 10) (v := .int .i64 (pn : Nat)) rfl rfl (by kernel_rfl) (by kernel_rfl) (by kernel_rfl) (fun _ _ _ h => h) (Or.inl ⟨by rfl, fun W hW => ?_⟩) (anyZ _) ?_
      · (go_simp)
      simp only [Act.put, List.setIfInBounds_toArray, List.set_cons_zero, List.set_cons_succ]
      refine takeZ (i := 5) (d := 11) (v := .int .i64 (M : Nat)) rfl rfl (by kernel_rfl) (by kernel_rfl) (by kernel_rfl) (fun _ _ _ h => h) (Or.inl ⟨by rfl, fun W hW => ?_⟩) (anyZ _) ?_
      · (go_simp; first | exact hE2 | (rw [hE2]) | (rw [hE2, IntKind.wrap_i64]; omega) | (rw [IntKind.wrap_i64]; omega))
      simp only [Act.put, List.setIfInBounds_toArray, List.set_cons_zero, List.set_cons_succ]
      refine takeZ (i := 6) (d := 12) (v := .pointer (some ⟨bx, 2, none⟩)) rfl rfl (by kernel_rfl) (by kernel_rfl) (by kernel_rfl) (fun _ _ _ h => h) (Or.inl ⟨by rfl, fun W hW => ?_⟩) (anyZ _) ?_
      · (go_simp)
      simp only [Act.put, List.setIfInBounds_toArray, List.set_cons_zero, List.set_cons_succ]
      refine wpAnyH_all (rs := [7]) (by kernel_rfl) (by simp) ?_
      intro i hi
      obtain rfl : i = 7 := by simpa using hi
      unfold wpOp
      go_simp
      first | refine Or.inl ⟨(anyZ _), ?_⟩ | refine ⟨(anyZ _), ?_⟩ | (change wpAnyH _ _ _ _ _ _ _ _ _) | refine Or.inl ?_
      refine wpAnyH_done (by kernel_rfl) ?_ _
      generalize V1.setCell ⟨bx, 2, none⟩ (.int .i64 ((M : Nat) : Int)) = U1 at *
      obtain ⟨⟨i0, i1, i2, i3⟩, gi⟩ := row4 HR1.out
      have gi3 := gi 3
      have hr2 : (U1.setCell ⟨bx, 3, none⟩ (.bool true)).heap[bx]? = some (.cells #[.slice la n lc, .int .i64 ((u : Int) - 1), .int .i64 (M : Nat), .bool true] 35 (0, 0)) := heap_setCell_same U1 bx 3 _ _ _ HR1.out
      obtain ⟨⟨j0, j1, j2, j3⟩, gj⟩ := row4 hr2
      have kU := (Kept.setCell U1 ⟨bx, 3, none⟩ (.bool true))
      have HZ := hideP (kU.heap HZ1.out (by simp only; omega))
      have HKV := hideP (HK1.out.trans kU (fun i hi => .inr (by have := HBX.out; simp only at hi; omega)))
      clear gi gj kU hr2 HR1 HZ1 HK1 c0 c1 c2 c3 gz2
      obtain ⟨⟨z0, z1, z2, z3⟩, gz⟩ := row4 HZ.out
      have g0 := gz 0
      have g1 := gz 1
      have g2 := gz 2
      have g3 := gz 3
      have HX1 := hideP (putR_heap HZ.out (.slice la n lc) (.int .i64 ((u : Int) - 1)) (.int .i64 ((M : Nat) : Int)) (.bool true))
      have HKE := hideP (HKV.out.trans (putR_kept (U1.setCell ⟨bx, 3, none⟩ (.bool true)) (bx + 1) (.slice la n lc) (.int .i64 ((u : Int) - 1)) (.int .i64 ((M : Nat) : Int)) (.bool true)) (fun i hi => .inr (by have := HBX.out; omega)))
      clear gz
      go_wp2
      obtain ⟨⟨y0, y1, y2, y3⟩, -⟩ := row4 HX1.out
      simp only [putR] at y0 y1 y2 y3
      refine bodyPost_ret (v := rfv la n lc u M true) (by simp [results, Tryz.results26, go_sem, y0, y1, y2, y3, rfv]) rfl ⟨rfl, HKE.out⟩
    · unfold wpOp
      go_simp
      refine Or.inl (CH.out.mono ?_)
      rintro e V1 ⟨ga, gc, rfl, hI, k1⟩
      refine ⟨anyZ _, ?_⟩
      have hR1 : RfAt V1 bx la n lc u mv false := k1.heap HR.out (fun f => f)
      obtain ⟨⟨c0, c1, c2, c3⟩, gz⟩ := row4 hR1
      have gz2 := gz 2
      have hr1 : (V1.setCell ⟨bx, 2, none⟩ (.int .i64 (M : Nat))).heap[bx]? = some (.cells #[.slice la n lc, .int .i64 ((u : Int) - 1), .int .i64 (M : Nat), .bool false] 35 (0, 0)) := heap_setCell_same V1 bx 2 _ _ _ hR1
      have kU := (Kept.setCell V1 ⟨bx, 2, none⟩ (.int .i64 ((M : Nat) : Int)))
      have HZ1 := hideP ((kU.heap (k1.heap HZ.out (fun f => f)) (by simp only; omega)))
      have HK1 := hideP ((HKV.out.trans k1 (fun _ f => f.elim)).trans kU (fun i hi => .inr (by have := HBX.out; simp only at hi; omega)))
      have HR1 := hideP hr1
      clear hI hR1 gz kU k1 hr1
      refine takeZ (i := 4) (d := 10) (v := .int .i64 (pn : Nat)) rfl rfl (by kernel_rfl) (by kernel_rfl) (by kernel_rfl) (fun _ _ _ h => h) (Or.inl ⟨by rfl, fun W hW => ?_⟩) (anyZ _) ?_
      · (go_simp)
      simp only [Act.put, List.setIfInBounds_toArray, List.set_cons_zero, List.set_cons_succ]
      refine wpAnyH_all (rs := [1]) (by kernel_rfl) (by simp) ?_
      intro i hi
      obtain rfl : i = 1 := by simpa using hi
      unfold wpOp
      go_simp
      first | refine Or.inl ⟨(anyZ _), ?_⟩ | refine ⟨(anyZ _), ?_⟩ | (change wpAnyH _ _ _ _ _ _ _ _ _) | refine Or.inl ?_
      refine takeZ (i := 5) (d := 11) (v := .int .i64 (M : Nat)) rfl rfl (by kernel_rfl) (by kernel_rfl) (by kernel_rfl) (fun _ _ _ h => h) (Or.inl ⟨by rfl, fun W hW => ?_⟩) (anyZ _) ?_
      · (go_simp; first | exact hE2 | (rw [hE2]) | (rw [hE2, IntKind.wrap_i64]; omega) | (rw [IntKind.wrap_i64]; omega))
      simp only [Act.put, List.setIfInBounds_toArray, List.set_cons_zero, List.set_cons_succ]
      refine takeZ (i := 6) (d := 12) (v := .pointer (some ⟨bx, 2, none⟩)) rfl rfl (by kernel_rfl) (by kernel_rfl) (by kernel_rfl) (fun _ _ _ h => h) (Or.inl ⟨by rfl, fun W hW => ?_⟩) (anyZ _) ?_
      · (go_simp)
      simp only [Act.put, List.setIfInBounds_toArray, List.set_cons_zero, List.set_cons_succ]
      refine wpAnyH_all (rs := [7]) (by kernel_rfl) (by simp) ?_
      intro i hi
      obtain rfl : i = 7 := by simpa using hi
      unfold wpOp
      go_simp
      first | refine Or.inl ⟨(anyZ _), ?_⟩ | refine ⟨(anyZ _), ?_⟩ | (change wpAnyH _ _ _ _ _ _ _ _ _) | refine Or.inl ?_
      refine wpAnyH_done (by kernel_rfl) ?_ _
      generalize V1.setCell ⟨bx, 2, none⟩ (.int .i64 ((M : Nat) : Int)) = U1 at *
      obtain ⟨⟨i0, i1, i2, i3⟩, gi⟩ := row4 HR1.out
      have gi3 := gi 3
      have hr2 : (U1.setCell ⟨bx, 3, none⟩ (.bool true)).heap[bx]? = some (.cells #[.slice la n lc, .int .i64 ((u : Int) - 1), .int .i64 (M : Nat), .bool true] 35 (0, 0)) := heap_setCell_same U1 bx 3 _ _ _ HR1.out
      obtain ⟨⟨j0, j1, j2, j3⟩, gj⟩ := row4 hr2
      have kU := (Kept.setCell U1 ⟨bx, 3, none⟩ (.bool true))
      have HZ := hideP (kU.heap HZ1.out (by simp only; omega))
      have HKV := hideP (HK1.out.trans kU (fun i hi => .inr (by have := HBX.out; simp only at hi; omega)))
      clear gi gj kU hr2 HR1 HZ1 HK1 c0 c1 c2 c3 gz2
      obtain ⟨⟨z0, z1, z2, z3⟩, gz⟩ := row4 HZ.out
      have g0 := gz 0
      have g1 := gz 1
      have g2 := gz 2
      have g3 := gz 3
      have HX1 := hideP (putR_heap HZ.out (.slice la n lc) (.int .i64 ((u : Int) - 1)) (.int .i64 ((M : Nat) : Int)) (.bool true))
      have HKE := hideP (HKV.out.trans (putR_kept (U1.setCell ⟨bx, 3, none⟩ (.bool true)) (bx + 1) (.slice la n lc) (.int .i64 ((u : Int) - 1)) (.int .i64 ((M : Nat) : Int)) (.bool true)) (fun i hi => .inr (by have := HBX.out; omega)))
      clear gz
      go_wp2
      obtain ⟨⟨y0, y1, y2, y3⟩, -⟩ := row4 HX1.out
      simp only [putR] at y0 y1 y2 y3
      refine bodyPost_ret (v := rfv la n lc u M true) (by simp [results, Tryz.results26, go_sem, y0, y1, y2, y3, rfv]) rfl ⟨rfl, HKE.out⟩
end Go.Proofs.YtjkbongfampgjaaGreatDoor
