import Derived.Test.YtfdbdkcifjpdaaaGreatDoorMrg6
import Derived.Test.YtfdbdkcifjpdaaaGreatDoorMrg5
namespace Go.Proofs.YtfdbdkcifjpdaaaGreatDoor
open Go.ChangeShapes Go.WideShapes Go.ChangeAt Go.RowKit

/-- The number of an int brought into 0 .. m - 1. -/
def brt (m : Int) (x : Int) : Int := IntKind.u64.wrap x % m
theorem brt_lo {m : Int} (h : 0 < m) (x : Int) : 0 ≤ brt m x := Int.emod_nonneg _ (by omega)
theorem brt_hi {m : Int} (h : 0 < m) (x : Int) : brt m x < m := Int.emod_lt_of_pos _ h
def posl (g : Int) (n : Nat) : List Int := (List.range n).map (fun k : Nat => 7 * (k : Int) + g)
theorem posl_step (g : Int) (n : Nat) : posl g (n + 1) = posl g n ++ [7 * (n : Int) + g] := by unfold posl; rw [List.range_succ, List.map_append]; rfl
theorem posl_len (g : Int) (n : Nat) : (posl g n).length = n := by simp [posl]
/-- The document behind k gaps. -/
def dcl (G : List Int) : Nat → Int
  | 0 => -1
  | k + 1 => dcl G k + (1 + G[k]?.getD 0)
def nfr (F : List Int) (k : Nat) : Nat := match F[k]? with | some x => 1 + (brt 5 x).toNat | none => 1
theorem nfr_pos (F : List Int) (k : Nat) : 1 ≤ nfr F k ∧ nfr F k ≤ 5 := by
  unfold nfr
  split
  · rename_i x _
    have := brt_lo (m := 5) (by decide) x
    have := brt_hi (m := 5) (by decide) x
    omega
  · omega
def scl (G F : List Int) : Nat → List Po
  | 0 => []
  | k + 1 => scl G F k ++ [⟨dcl G (k + 1), posl (G[k]?.getD 0) (nfr F k)⟩]
theorem scl_len (G F : List Int) : ∀ k, (scl G F k).length = k
  | 0 => rfl
  | k + 1 => by rw [scl, List.length_append, scl_len G F k]; rfl
theorem scl_last (G F : List Int) : ∀ k, lastd (-1) (scl G F k) = dcl G k
  | 0 => rfl
  | k + 1 => by rw [scl, lastd_append]; rfl
def In40 (G : List Int) : Prop := ∀ x ∈ G, 0 ≤ x ∧ x ≤ 40
theorem In40.at {G : List Int} (h : In40 G) (k : Nat) : 0 ≤ G[k]?.getD 0 ∧ G[k]?.getD 0 ≤ 40 := by
  rcases Nat.lt_or_ge k G.length with q | q
  · rw [List.getElem?_eq_getElem q]; exact h _ (List.getElem_mem q)
  · rw [List.getElem?_eq_none q]; simp
theorem dcl_le {G : List Int} (h : In40 G) : ∀ k : Nat, -1 ≤ dcl G k ∧ dcl G k ≤ 41 * (k : Int) - 1
  | 0 => by simp [dcl]
  | k + 1 => by
    have h1 := dcl_le h k
    have h2 := h.at k
    rw [dcl]
    omega
theorem ris_posl (g : Int) (hg : 0 ≤ g ∧ g ≤ 40) : ∀ n, n ≤ 5 → Ris (posl g n) 0 := by
  intro n hn
  have : n = 0 ∨ n = 1 ∨ n = 2 ∨ n = 3 ∨ n = 4 ∨ n = 5 := by omega
  rcases this with rfl | rfl | rfl | rfl | rfl | rfl <;> simp [posl, List.range, List.range.loop, Ris] <;> omega
theorem scl_good {G F : List Int} (h : In40 G) : ∀ k : Nat, k ≤ 1048576 → gdl (-1) (scl G F k)
  | 0, _ => trivial
  | k + 1, hk => by
    rw [scl, gdl_append]
    refine ⟨scl_good h k (by omega), ?_, trivial⟩
    rw [scl_last]
    have h1 := dcl_le h k
    have h2 := h.at k
    have h3 := nfr_pos F k
    refine ⟨?_, ?_, ?_, ?_, ris_posl _ h2 _ h3.2⟩
    · simp only [dcl]; omega
    · simp only [dcl]; omega
    · simp only [dcl]; omega
    · intro e
      have := congrArg List.length e
      rw [posl_len] at this
      simp at this
      omega
theorem scl_tot (G F : List Int) : ∀ k, tot (scl G F k) ≤ 5 * k
  | 0 => Nat.le_refl _
  | k + 1 => by
    have h1 := scl_tot G F k
    have h3 := nfr_pos F k
    rw [scl, tot_append]
    simp only [tot, posl_len]
    omega
theorem img_leS {L : List Po} (hg : gdl (-1) L) (hl : L.length ≤ 1048576) (ht : tot L ≤ 5242880) : (img L).length ≤ 1073741824 := by
  have h1 := bkb_le (m := nbp L.length) hg (by omega) (by omega)
  have u1 := uvb_le10P L.length (by omega)
  have u2 := uvb_le10P (tot L) (by omega)
  have hn : nbp L.length ≤ 65537 := by unfold nbp; omega
  unfold img
  rw [List.length_append, List.length_append, List.length_append]
  omega
/-- The moves stay below the bound. -/
def Bnd (P : List Po) (u mv : Nat) (ask : Bool) : Prop := mv ≤ 2 * u - 1 + tot (P.take (u - 1)) + (if ask then (posU P u).length else 0)
theorem tot_pos (P : List Po) : ∀ u, tot (P.take (u - 1)) + (posU P u).length ≤ tot (P.take u)
  | 0 => by simp [posU]
  | u + 1 => by
    rw [Nat.add_sub_cancel]
    rcases Nat.lt_or_ge u P.length with q | q
    · rw [List.take_succ_eq_append_getElem q, tot_append]
      simp [posU, List.getElem?_eq_getElem q, tot]
    · simp only [posU, List.getElem?_eq_none q, List.length_nil, Nat.add_zero]
      rw [List.take_of_length_le q, List.take_of_length_le (by omega)]
      exact Nat.le_refl _
theorem tot_take_mono (P : List Po) {i j : Nat} (h : i ≤ j) : tot (P.take i) ≤ tot (P.take j) := by
  have := tot_append ((P.take j).take i) ((P.take j).drop i)
  rw [List.take_append_drop, List.take_take, Nat.min_eq_left h] at this
  omega
theorem Bnd.ask_le {P : List Po} {u mv : Nat} {ask : Bool} (h : Bnd P u mv ask) : mv ≤ 2 * u - 1 + tot (P.take u) := by
  have := tot_pos P u
  unfold Bnd at h
  cases ask <;> simp at h <;> omega
theorem mvU_two {n u q : Nat} (hu : u ≤ q) : mvU n u q + 1 ≤ 2 * (q + 1 - u) := by
  unfold mvU nbp
  split
  · omega
  split
  · omega
  split <;> omega
theorem Bnd.adv {P : List Po} {u mv q : Nat} {ask : Bool} (h : Bnd P u mv ask) (hu : u ≤ q) : Bnd P (q + 1) (mv + mvU P.length u q) false := by
  have h1 := h.ask_le
  have h2 := mvU_two (n := P.length) hu
  have h3 := tot_take_mono P hu
  unfold Bnd
  simp only [Nat.add_sub_cancel, Bool.false_eq_true, if_false]
  omega
theorem Bnd.pos {P : List Po} {u mv : Nat} (h : Bnd P u mv false) : Bnd P u (mv + (posU P u).length) true := by
  unfold Bnd at h ⊢
  simp at h ⊢
  omega
theorem Bnd.all {P : List Po} {u mv : Nat} {ask : Bool} (h : Bnd P u mv ask) (hu : u ≤ P.length + 1) : mv ≤ 2 * P.length + 1 + tot P := by
  have h1 := h.ask_le
  have h2 := tot_take_le P u
  omega
end Go.Proofs.YtfdbdkcifjpdaaaGreatDoor
namespace Go.Proofs.YtfdbdkcifjpdaaaGreatDoor
open Go.ChangeShapes Go.WideShapes Go.ChangeAt Go.RowKit

theorem brt_eq (m x : Int) : x % 18446744073709551616 % m = brt m x := by unfold brt; rw [IntKind.wrap_u64]
set_option maxRecDepth 20000 in
set_option maxHeartbeats 4000000 in
theorem ints40_any (l : List Int) (a : Option Addr) (c : Nat) (W : World) (h : IntsAt W a l) (hl : l.length ≤ 1048576) :
    Calls Tryz.prog 5 #[.slice a l.length c, .int .i64 40] W fun e w' => ∃ a' c', e = .returned (.slice a' l.length c') ∧ IntsAt w' a' (l.map (brt 41)) ∧ Kept (fun _ => False) W w' := by
  have HA := hideP h
  obtain ⟨n, hn⟩ : ∃ n, n = l.length := ⟨_, rfl⟩
  have HN := hideP hn
  rw [← hn] at hl ⊢
  clear h hn
  go_enter Tryz.func5, Tryz.ntmps5
  go_wp2
  go_loopw [5, 10] (fun s5 s10 wr => ∃ (k : Nat) (sa : Option Addr) (sc : Nat), k ≤ n ∧ s10 = .int .i64 k ∧ s5 = .slice sa k sc ∧ Hid (Gro W wr 3 1 (.slice sa k sc) k (is ((l.take k).map (brt 41))))) (fun _ s10 _ => n - (intOf s10).toNat)
  case atStart => exact ⟨0, none, 0, by omega, rfl, rfl, hideP (gro_nil W _ _)⟩
  case round =>
    obtain ⟨k, sa, sc, hk, rfl, rfl, HG⟩ := hrel
    by_cases hlt : k < n
    · have hkl : k < l.length := by rw [← HN.out]; exact hlt
      obtain ⟨b, off, rfl, hc⟩ := HA.out (by intro e; rw [e] at hkl; simp at hkl)
      have y0 := HG.out.kept.cell (hc k hkl) (fun f => f)
      have HST : Hid ((l.take (k + 1)).map (brt 41) = (l.take k).map (brt 41) ++ [brt 41 (l[k]?.getD 0)]) := hideP (by rw [List.take_succ_eq_append_getElem hkl, List.map_append, List.getElem?_eq_getElem hkl]; rfl)
      obtain ⟨x, hx⟩ : ∃ x, x = l[k]?.getD 0 := ⟨_, rfl⟩
      rw [← hx] at y0 HST
      obtain ⟨B, hB⟩ : ∃ B, B = brt 41 x := ⟨_, rfl⟩
      have b1 := brt_lo (m := 41) (by decide) x
      have b2 := brt_hi (m := 41) (by decide) x
      have e1 : x % 18446744073709551616 % 41 = B := by rw [hB]; exact brt_eq 41 x
      have e2 : (x % 18446744073709551616).tmod 41 = B := by rw [Int.tmod_eq_emod_of_nonneg (by omega)]; exact e1
      have e3 : (IntKind.u64.wrap x).tmod 41 = B := by rw [IntKind.wrap_u64]; exact e2
      rw [← hB] at b1 b2 HST
      have hkk : (k : Int) < (n : Int) := by omega
      clear hc hx hB
      go_wp2_with (at_builtin; refine StpQ.go ?_)
      refine ⟨?_⟩
      refine wpList_pushN rfl (.tmp 14) (.tmp 22) rfl (.slice sa k sc) k ((l.take k).map (brt 41)) B (by rfl) HG wr.heap.size rfl (by rfl) (by omega) ?_
      intro g c' W5 HG5 _
      rw [← HST.out] at HG5
      go_wp2
      go_roundw
      case rel => exact ⟨k + 1, _, c', by omega, by go_num, rfl, HG5⟩
      case measure => simp [intOf]; omega
    · obtain rfl : k = n := by omega
      have hI : Hid (IntsAt wr sa (l.map (brt 41))) := hideP (fun hne => by
        have hl0 : 0 < k := by rw [HN.out]; exact List.length_pos_iff.2 (fun e => hne (by rw [e]; rfl))
        obtain ⟨g, rfl, -, -⟩ := HG.out.cell hl0
        have h2 := HG.out
        rw [List.take_of_length_le (by rw [HN.out]; exact Nat.le_refl _)] at h2
        exact gro_intsC h2 (by rw [List.length_map, HN.out]) hne)
      go_wp2
      go_ret
      exact ⟨sa, sc, rfl, hI.out, HG.out.kept⟩
end Go.Proofs.YtfdbdkcifjpdaaaGreatDoor
namespace Go.Proofs.YtfdbdkcifjpdaaaGreatDoor
open Go.ChangeShapes Go.WideShapes Go.ChangeAt Go.RowKit

/-- The place behind an advance. -/
def advU (P : List Po) (u : Nat) (t : Int) : Nat := if docU P u < t ∧ u ≤ P.length then plc P t + 1 else u
theorem doc_hi {P : List Po} (hg : gdl (-1) P) {i : Nat} (hi : i < P.length) : P[i].d ≤ 2147483646 := by
  have h1 := le_lastd P (-1) hg P[i] (List.getElem_mem hi)
  have h2 := ((gdl_last P (-1) hg).2 (by intro e; rw [e] at hi; simp at hi)).2
  omega
theorem doc_lo {P : List Po} (hg : gdl (-1) P) {i : Nat} (hi : i < P.length) : 0 ≤ P[i].d := (gdl_at hi hg).lo
theorem docU_bd {P : List Po} (hg : gdl (-1) P) (u : Nat) : -1 ≤ docU P u ∧ docU P u ≤ 2147483647 ∧ (u ≤ P.length → docU P u ≤ 2147483646) := by
  cases u with
  | zero => simp [docU]
  | succ q =>
    rcases Nat.lt_or_ge q P.length with h | h
    · rw [docU_in h]
      have := doc_hi hg h
      have := doc_lo hg h
      exact ⟨by omega, by omega, fun _ => by omega⟩
    · simp only [docU, List.getElem?_eq_none h]
      exact ⟨by omega, by omega, fun _ => by omega⟩
theorem docU_last {P : List Po} {u : Nat} (h : P.length < u) : docU P u = 2147483647 := by
  cases u with
  | zero => omega
  | succ q => simp only [docU, List.getElem?_eq_none (show P.length ≤ q by omega)]
theorem plc_here {P : List Po} {t : Int} {q : Nat} (h : q = plc P t) (hq : q < P.length) : t ≤ P[q].d := by
  subst h
  have := List.findIdx_getElem (p := fun p : Po => decide (t ≤ p.d)) (w := hq)
  exact of_decide_eq_true this
theorem plc_below {P : List Po} {t : Int} {i : Nat} (h : i < plc P t) : ∃ hi : i < P.length, P[i].d < t := by
  have hl := plc_le P t
  refine ⟨by omega, ?_⟩
  have := List.not_of_lt_findIdx (p := fun p : Po => decide (t ≤ p.d)) h
  simp at this
  omega
theorem advU_le {P : List Po} {u : Nat} {t : Int} (hg : gdl (-1) P) (hu : u ≤ P.length + 1) : u ≤ advU P u t ∧ advU P u t ≤ P.length + 1 := by
  unfold advU
  split
  · rename_i h
    have h1 := plc_ge h.2 (below_doc hg h.2 h.1)
    have h2 := plc_le P t
    omega
  · exact ⟨Nat.le_refl _, hu⟩
/-- At the place behind an advance, the document is not below the target, or there is none. -/
theorem advU_end {P : List Po} {u : Nat} {t : Int} (hu : u ≤ P.length + 1) : ¬ (docU P (advU P u t) < t ∧ docU P (advU P u t) ≠ 2147483647) := by
  unfold advU
  split
  · rename_i h
    rcases Nat.lt_or_ge (plc P t) P.length with q | q
    · rw [docU_in q]
      have := plc_here rfl q
      omega
    · rw [docU_last (by omega)]
      omega
  · rename_i h
    intro hh
    have : ¬ u ≤ P.length := fun e => h ⟨hh.1, e⟩
    exact hh.2 (docU_last (by omega))
theorem advU_on {P : List Po} {u v : Nat} {t : Int} (hg : gdl (-1) P) (h : v < advU P u t) (hv : u ≤ v) : docU P v < t ∧ docU P v ≠ 2147483647 ∧ v ≤ P.length := by
  unfold advU at h
  split at h
  · rename_i hh
    have hl := plc_le P t
    have hvl : v ≤ P.length := by omega
    have hb := docU_bd hg v
    refine ⟨?_, by have := hb.2.2 hvl; omega, hvl⟩
    rcases Nat.lt_or_ge u v with q | q
    · obtain ⟨w, rfl⟩ : ∃ w, v = w + 1 := ⟨v - 1, by omega⟩
      obtain ⟨hi, hd⟩ := plc_below (P := P) (t := t) (i := w) (by omega)
      rw [docU_in hi]
      exact hd
    · obtain rfl : u = v := by omega
      exact hh.1
  · omega
theorem plc_top {P : List Po} (hg : gdl (-1) P) : plc P 2147483647 = P.length := plc_all (fun i hi => by have := doc_hi hg hi; omega)
theorem advU_top {P : List Po} {u : Nat} (hg : gdl (-1) P) (hu : u ≤ P.length + 1) : advU P u 2147483647 = P.length + 1 := by
  unfold advU
  split
  · rw [plc_top hg]
  · rename_i h
    have := (docU_bd hg u).2.2
    rcases Nat.lt_or_ge P.length u with q | q
    · omega
    · exact (h ⟨by have := this q; omega, q⟩).elim

/-- Two cursors over one list of postings, side by side. -/
structure TwoC (W4 : World) (ca la cn ln : Nat) (P : List Po) (wr : World) (ua ma : Nat) (aa : Bool) (un mn : Nat) (an : Bool) : Prop where
  ex : ∃ X Y lo, CuS ⟨X, lo⟩ wr ca la P ua ma aa ∧ CuS ⟨Y, lo⟩ wr cn ln P un mn an ∧ CuB Y ca ∧ ca < Y.heap.size ∧ Kept (fun _ => False) W4 X ∧ Kept (fun _ => False) W4 Y ∧ X.heap.size ≤ cn ∧ ca < lo ∧ cn < lo
  ne : ca ≠ cn
  kept : Kept (fun _ => False) W4 wr
  olda : W4.heap.size ≤ ca
  oldn : W4.heap.size ≤ cn
  ba : Bnd P ua ma aa
  bn : Bnd P un mn an
theorem TwoC.later {W4 : World} {ca la cn ln : Nat} {P : List Po} {wr wr' : World} {ua ma : Nat} {aa : Bool} {un mn : Nat} {an : Bool} (h : TwoC W4 ca la cn ln P wr ua ma aa un mn an) (k : Kept (fun _ => False) wr wr') : TwoC W4 ca la cn ln P wr' ua ma aa un mn an := by
  obtain ⟨X, Y, lo, h1, h2, h3, h4, h5, h6, h7, h8, h9⟩ := h.ex
  exact ⟨⟨X, Y, lo, h1.later k, h2.later k, h3, h4, h5, h6, h7, h8, h9⟩, h.ne, h.kept.trans k (fun _ f => f.elim), h.olda, h.oldn, h.ba, h.bn⟩
theorem lt_of_cub {W : World} {c : Nat} (h : CuB W c) : c < W.heap.size := by
  obtain ⟨a0, a1, a2, a4, a3, bv, a6, n6, c6, b7, h⟩ := h
  exact lt_of_block h
theorem TwoC.stepA {W4 : World} {ca la cn ln : Nat} {P : List Po} {wr : World} {ua ma : Nat} {aa : Bool} {un mn : Nat} {an : Bool} (h : TwoC W4 ca la cn ln P wr ua ma aa un mn an) :
    ∃ X : Bs, CuS X wr ca la P ua ma aa ∧ Kept (fun _ => False) W4 X.w ∧ cn < wr.heap.size ∧ ∀ w' u' m' b', CuS X w' ca la P u' m' b' → Kept (fun i => i = ca) wr w' → Bnd P u' m' b' → TwoC W4 ca la cn ln P w' u' m' b' un mn an := by
  obtain ⟨X, Y, lo, h1, h2, h3, h4, h5, h6, h7, h8, h9⟩ := h.ex
  refine ⟨⟨X, lo⟩, h1, h5, lt_of_cub h2.cub, fun w' u' m' b' hS k hB => ⟨⟨X, wset Y w' ca, lo, hS, h2.other h3 h4 h8 k h.ne, hS.cub.wset h4, by rw [wset_size]; exact h4, h5, h6.trans (wset_kept Y w' ca) (fun i hi => .inr (by rw [hi]; exact h.olda)), h7, h8, h9⟩, h.ne, h.kept.trans k (fun i hi => .inr (by rw [hi]; exact h.olda)), h.olda, h.oldn, hB, h.bn⟩⟩
theorem TwoC.stepN {W4 : World} {ca la cn ln : Nat} {P : List Po} {wr : World} {ua ma : Nat} {aa : Bool} {un mn : Nat} {an : Bool} (h : TwoC W4 ca la cn ln P wr ua ma aa un mn an) :
    ∃ Y : Bs, CuS Y wr cn ln P un mn an ∧ Kept (fun _ => False) W4 Y.w ∧ ca < wr.heap.size ∧ ∀ w' u' m' b', CuS Y w' cn ln P u' m' b' → Kept (fun i => i = cn) wr w' → Bnd P u' m' b' → TwoC W4 ca la cn ln P w' ua ma aa u' m' b' := by
  obtain ⟨X, Y, lo, h1, h2, h3, h4, h5, h6, h7, h8, h9⟩ := h.ex
  refine ⟨⟨Y, lo⟩, h2, h6, lt_of_cub h1.cub, fun w' u' m' b' hS k hB => ⟨⟨X, Y, lo, h1.beside h7 h9 k h.ne, hS, h3, h4, h5, h6, h7, h8, h9⟩, h.ne, h.kept.trans k (fun i hi => .inr (by rw [hi]; exact h.oldn)), h.olda, h.oldn, h.ba, hB⟩⟩

/-- What the postings are to keep to. -/
structure Okp (P : List Po) : Prop where
  hg : gdl (-1) P
  hl : (img P).length ≤ 1073741824
  hn : P.length ≤ 1048576
  ht : tot P ≤ 5242880
theorem Bnd.small {P : List Po} {u mv : Nat} {ask : Bool} (h : Bnd P u mv ask) (hu : u ≤ P.length + 1) (hP : Okp P) : mv ≤ 16777216 := by
  have := h.all hu
  have := hP.hn
  have := hP.ht
  omega
theorem posU_in {P : List Po} {u : Nat} (h : posU P u ≠ []) : 1 ≤ u ∧ u ≤ P.length := by
  cases u with
  | zero => exact (h rfl).elim
  | succ q =>
    rcases Nat.lt_or_ge q P.length with e | e
    · omega
    · simp only [posU, List.getElem?_eq_none e] at h
      exact (h rfl).elim
theorem posU_le (P : List Po) (u : Nat) : (posU P u).length ≤ tot P := by
  have h1 := tot_pos P u
  have h2 := tot_take_le P u
  omega

theorem two_docA {W4 : World} {ca la cn ln : Nat} {P : List Po} (wr : World) {ua ma : Nat} {aa : Bool} {un mn : Nat} {an : Bool} (h : TwoC W4 ca la cn ln P wr ua ma aa un mn an) : Calls Tryz.prog 10 #[.pointer (some ⟨ca, 0, none⟩)] wr fun e w' => e = .returned (.int .i64 (docU P ua)) ∧ w' = wr := by
  obtain ⟨X, h1, -⟩ := h.stepA
  exact cdocS wr h1
theorem two_docN {W4 : World} {ca la cn ln : Nat} {P : List Po} (wr : World) {ua ma : Nat} {aa : Bool} {un mn : Nat} {an : Bool} (h : TwoC W4 ca la cn ln P wr ua ma aa un mn an) : Calls Tryz.prog 10 #[.pointer (some ⟨cn, 0, none⟩)] wr fun e w' => e = .returned (.int .i64 (docU P un)) ∧ w' = wr := by
  obtain ⟨X, h1, -⟩ := h.stepN
  exact cdocS wr h1
theorem two_movesA {W4 : World} {ca la cn ln : Nat} {P : List Po} (wr : World) {ua ma : Nat} {aa : Bool} {un mn : Nat} {an : Bool} (h : TwoC W4 ca la cn ln P wr ua ma aa un mn an) : Calls Tryz.prog 11 #[.pointer (some ⟨ca, 0, none⟩)] wr fun e w' => e = .returned (.int .i64 (ma : Nat)) ∧ w' = wr := by
  obtain ⟨X, h1, -⟩ := h.stepA
  exact cmovesS wr h1
theorem two_movesN {W4 : World} {ca la cn ln : Nat} {P : List Po} (wr : World) {ua ma : Nat} {aa : Bool} {un mn : Nat} {an : Bool} (h : TwoC W4 ca la cn ln P wr ua ma aa un mn an) : Calls Tryz.prog 11 #[.pointer (some ⟨cn, 0, none⟩)] wr fun e w' => e = .returned (.int .i64 (mn : Nat)) ∧ w' = wr := by
  obtain ⟨X, h1, -⟩ := h.stepN
  exact cmovesS wr h1
theorem two_freqA {W4 : World} {ca la cn ln : Nat} {P : List Po} (wr : World) {ua ma : Nat} {aa : Bool} {un mn : Nat} {an : Bool} (h : TwoC W4 ca la cn ln P wr ua ma aa un mn an) : Calls Tryz.prog 14 #[.pointer (some ⟨ca, 0, none⟩)] wr fun e w' => e = .returned (.int .i64 (((posU P ua).length : Nat) : Int)) ∧ w' = wr := by
  obtain ⟨X, h1, -⟩ := h.stepA
  exact cfreqS wr h1
theorem two_freqN {W4 : World} {ca la cn ln : Nat} {P : List Po} (wr : World) {ua ma : Nat} {aa : Bool} {un mn : Nat} {an : Bool} (h : TwoC W4 ca la cn ln P wr ua ma aa un mn an) : Calls Tryz.prog 14 #[.pointer (some ⟨cn, 0, none⟩)] wr fun e w' => e = .returned (.int .i64 (((posU P un).length : Nat) : Int)) ∧ w' = wr := by
  obtain ⟨X, h1, -⟩ := h.stepN
  exact cfreqS wr h1
theorem two_advA {W4 : World} {ca la cn ln : Nat} {P : List Po} (wr : World) {ua ma : Nat} {aa : Bool} {un mn : Nat} {an : Bool} (t : Int) (ad : Nat → Addr) (h : TwoC W4 ca la cn ln P wr ua ma aa un mn an) (hu : ua ≤ P.length + 1) (hP : Okp P) (hE : ErQ W4 ad) :
    Calls Tryz.prog 12 #[.pointer (some ⟨ca, 0, none⟩), .int .i64 t] wr fun e w' => e = .returned (.int .i64 (docU P (advU P ua t))) ∧ ∃ m' b', ma ≤ m' ∧ TwoC W4 ca la cn ln P w' (advU P ua t) m' b' un mn an := by
  obtain ⟨X, h1, h2, -, h3⟩ := h.stepA
  have hm := h.ba.small hu hP
  have hn := hP.hn
  unfold advU
  split
  · rename_i hh
    refine (cadv_in wr t ad h1 hh.2 hh.1 (by omega) (by omega) hP.hg hP.hl (hE.kept h2)).mono ?_
    rintro e w' ⟨rfl, hS, k⟩
    exact ⟨rfl, _, _, by omega, h3 w' _ _ _ hS k (h.ba.adv (plc_ge hh.2 (below_doc hP.hg hh.2 hh.1)))⟩
  · rename_i hh
    refine (cadv_no wr t h1 (by omega) hu ?_).mono ?_
    · rcases Nat.lt_or_ge P.length ua with q | q
      · exact .inr (by omega)
      · exact .inl (fun e => hh ⟨e, q⟩)
    · rintro e w' ⟨rfl, hS, k⟩
      exact ⟨rfl, _, _, Nat.le_refl _, h3 w' _ _ _ hS (k.mono (fun _ f => f.elim)) h.ba⟩
theorem two_nextN {W4 : World} {ca la cn ln : Nat} {P : List Po} (wr : World) {ua ma : Nat} {aa : Bool} {un mn : Nat} {an : Bool} (ad : Nat → Addr) (h : TwoC W4 ca la cn ln P wr ua ma aa un mn an) (hu : un ≤ P.length) (hP : Okp P) (hE : ErQ W4 ad) :
    Calls Tryz.prog 13 #[.pointer (some ⟨cn, 0, none⟩)] wr fun e w' => e = .returned (.int .i64 (docU P (un + 1))) ∧ TwoC W4 ca la cn ln P w' ua ma aa (un + 1) (mn + 1) false := by
  obtain ⟨Y, h1, h2, -, h3⟩ := h.stepN
  have hm := h.bn.small (by omega) hP
  have hn := hP.hn
  refine (cnext_in wr ad h1 hu (by omega) (by omega) hP.hg hP.hl (hE.kept h2)).mono ?_
  rintro e w' ⟨rfl, hS, k⟩
  have hB := h.bn.adv (Nat.le_refl un)
  rw [mvU_next] at hB
  exact ⟨rfl, h3 w' _ _ _ hS k hB⟩
theorem two_endN {W4 : World} {ca la cn ln : Nat} {P : List Po} (wr : World) {ua ma : Nat} {aa : Bool} {un mn : Nat} {an : Bool} (h : TwoC W4 ca la cn ln P wr ua ma aa un mn an) (hu : un = P.length + 1) (hP : Okp P) :
    Calls Tryz.prog 13 #[.pointer (some ⟨cn, 0, none⟩)] wr fun e w' => e = .returned (.int .i64 2147483647) ∧ TwoC W4 ca la cn ln P w' ua ma aa un mn an := by
  obtain ⟨Y, h1, h2, -, h3⟩ := h.stepN
  have hn := hP.hn
  refine (cnext_end wr h1 hu (by omega)).mono ?_
  rintro e w' ⟨rfl, hS, k⟩
  exact ⟨rfl, h3 w' _ _ _ hS (k.mono (fun _ f => f.elim)) h.bn⟩
theorem two_posA {W4 : World} {ca la cn ln : Nat} {P : List Po} (wr : World) {ua ma : Nat} {aa : Bool} {un mn : Nat} {an : Bool} (h : TwoC W4 ca la cn ln P wr ua ma aa un mn an) (hu : ua ≤ P.length + 1) (hP : Okp P) :
    Calls Tryz.prog 15 #[.pointer (some ⟨ca, 0, none⟩)] wr fun e w' => ∃ (a : Option Addr) (c m' : Nat), e = .returned (.slice a (posU P ua).length c) ∧ IntsAt w' a (posU P ua) ∧ (posU P ua ≠ [] → ∃ g, a = some ⟨g, 0, none⟩ ∧ cn < g) ∧ TwoC W4 ca la cn ln P w' ua m' true un mn an := by
  obtain ⟨X, h1, h2, hc, h3⟩ := h.stepA
  have hm := h.ba.small hu hP
  have ht := hP.ht
  have hp := posU_le P ua
  cases aa with
  | true =>
    refine (cpos_true wr h1 (by omega)).mono ?_
    rintro e w' ⟨a, c, rfl, hI, hf, hS, k⟩
    exact ⟨a, c, _, rfl, hI, fun hne => by
      obtain ⟨g, e, hg⟩ := hf hne
      exact ⟨g, e, by omega⟩, h3 w' _ _ _ hS k h.ba⟩
  | false =>
    refine (cpos_false wr h1 (by omega) (by omega)).mono ?_
    rintro e w' ⟨a, c, rfl, hI, hf, hS, k⟩
    exact ⟨a, c, _, rfl, hI, fun hne => by
      obtain ⟨g, e, hg⟩ := hf hne
      exact ⟨g, e, by omega⟩, h3 w' _ _ _ hS k h.ba.pos⟩
theorem two_posN {W4 : World} {ca la cn ln : Nat} {P : List Po} (wr : World) {ua ma : Nat} {aa : Bool} {un mn : Nat} {an : Bool} (h : TwoC W4 ca la cn ln P wr ua ma aa un mn an) (hu : un ≤ P.length + 1) (hP : Okp P) :
    Calls Tryz.prog 15 #[.pointer (some ⟨cn, 0, none⟩)] wr fun e w' => ∃ (a : Option Addr) (c m' : Nat), e = .returned (.slice a (posU P un).length c) ∧ IntsAt w' a (posU P un) ∧ Kept (fun i => i = cn) wr w' ∧ TwoC W4 ca la cn ln P w' ua ma aa un m' true := by
  obtain ⟨X, h1, h2, hc, h3⟩ := h.stepN
  have hm := h.bn.small hu hP
  have ht := hP.ht
  have hp := posU_le P un
  cases an with
  | true =>
    refine (cpos_true wr h1 (by omega)).mono ?_
    rintro e w' ⟨a, c, rfl, hI, hf, hS, k⟩
    exact ⟨a, c, _, rfl, hI, k, h3 w' _ _ _ hS k h.bn⟩
  | false =>
    refine (cpos_false wr h1 (by omega) (by omega)).mono ?_
    rintro e w' ⟨a, c, rfl, hI, hf, hS, k⟩
    exact ⟨a, c, _, rfl, hI, k, h3 w' _ _ _ hS k h.bn.pos⟩
theorem two_start {W4 W5 W6 X Y : World} {ca la cn ln : Nat} {P : List Po} (hA : CuAt ⟨X, 0⟩ W5 ca la P 0 0 (-1) (.slice none 0 0) none 0 false) (hca : W4.heap.size ≤ ca) (kx : Kept (fun _ => False) W4 X) (k5 : Kept (fun _ => False) W4 W5) (hN : CuAt ⟨Y, 0⟩ W6 cn ln P 0 0 (-1) (.slice none 0 0) none 0 false) (hcn : W5.heap.size ≤ cn) (ky : Kept (fun _ => False) W5 Y) (k6 : Kept (fun _ => False) W5 W6) : TwoC W4 ca la cn ln P W6 0 0 false 0 0 false := by
  have hal : ca < W5.heap.size := hA.raw.lt
  have hnl : cn < W6.heap.size := hN.raw.lt
  have hs := k6.size
  have hx : X.heap.size ≤ W5.heap.size := hA.kept.size
  have hy : CuB Y ca := (hA.later ky).toS.cub
  have hB : Bnd P 0 0 false := by unfold Bnd; omega
  have h5 := k5.size
  exact ⟨⟨X, Y, W6.heap.size, ((hA.later k6).raise (Nat.le_refl _)).toS, (hN.raise (Nat.le_refl _)).toS, hy, lt_of_cub hy, kx, k5.trans ky (fun _ f => f.elim), by omega, by omega, hnl⟩, by omega, k5.trans k6 (fun _ f => f.elim), hca, by omega, hB, hB⟩
/-- The posting at a place, as it lies. -/
theorem ps_at {W : World} {a : Option Addr} {FL : List Pg} {P : List Po} (h : PsAt W a FL) (hp : pol FL = P) {i : Nat} (hi : i < P.length) :
    ∃ b off ga gc, a = some ⟨b, off, none⟩ ∧ W.cell? ⟨b, off + i * 2, none⟩ = some (.int .i64 (docU P (i + 1))) ∧ W.cell? ⟨b, off + i * 2 + 1, none⟩ = some (.slice ga (posU P (i + 1)).length gc) ∧ IntsAt W ga (posU P (i + 1)) := by
  subst hp
  have hi' : i < FL.length := by rw [pol_len] at hi; exact hi
  obtain ⟨b, off, e, hc⟩ := h (by intro e; rw [e] at hi'; simp at hi')
  obtain ⟨c0, c1, c2⟩ := hc i hi'
  have hg : (pol FL)[i]? = some (FL[i]).po := by simp [pol, hi']
  rw [docU_at _ _ _ hg, posU_at _ _ _ hg]
  exact ⟨b, off, (FL[i]).a, (FL[i]).c, e, c0, c1, c2⟩
end Go.Proofs.YtfdbdkcifjpdaaaGreatDoor
