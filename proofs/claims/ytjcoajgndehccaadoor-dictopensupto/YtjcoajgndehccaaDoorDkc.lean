import Derived.Test.YtjcoajgndehccaaDoorDkb
namespace Go.Proofs.YtjcoajgndehccaaDoor
open Go.ChangeShapes Go.WideShapes Go.ChangeAt Go.RowKit

theorem upn_put {m : Nat} {l R : List Int} {p x : Nat} (h : l.drop p = uvb x ++ R) (hm : x ≤ m) (hx : x < 18446744073709551616) : upn m l p = some (x, p + (uvb x).length) := by
  unfold upn
  rw [h, rdu_uvb _ _ hx]
  simp only [if_pos hm]
theorem txn_put {m : Nat} {l t R : List Int} {p : Nat} (h : l.drop p = (uvb t.length ++ t) ++ R) (hm : t.length ≤ m) (hx : t.length < 18446744073709551616) : txn m l p = some (t, p + (uvb t.length ++ t).length) := by
  rw [List.append_assoc] at h
  have h2 := drop_next h
  have hl := congrArg List.length h
  have hu := uvb_pos t.length
  rw [List.length_append, List.length_append, List.length_drop] at hl
  unfold txn
  rw [upn_put h hm hx]
  simp only
  rw [if_pos (by omega), h2, List.take_left, List.length_append, Nat.add_assoc]
theorem rn4_put {l R : List Int} {q : Nat} {e : En} (hg : Gen e) (h : l.drop q = (uvb e.d.toNat ++ (uvb e.t.toNat ++ (uvb e.p.toNat ++ uvb e.s.toNat))) ++ R) :
    rn4 l e.k q = some (e, q + (uvb e.d.toNat ++ (uvb e.t.toNat ++ (uvb e.p.toNat ++ uvb e.s.toNat))).length) := by
  have g1 := hg.d
  have g2 := hg.t
  have g3 := hg.p
  have g4 := hg.s
  rw [List.append_assoc, List.append_assoc, List.append_assoc] at h
  have h2 := drop_next h
  have h3 := drop_next h2
  have h4 := drop_next h3
  unfold rn4
  rw [upn_put h (by omega) (by omega)]
  simp only
  rw [upn_put h2 (by omega) (by omega)]
  simp only
  rw [upn_put h3 (by omega) (by omega)]
  simp only
  rw [upn_put h4 (by omega) (by omega)]
  simp only [List.length_append]
  obtain ⟨k, d, t, p, s⟩ := e
  simp only at g1 g2 g3 g4 ⊢
  rw [Int.toNat_of_nonneg g1.1, Int.toNat_of_nonneg g2.1, Int.toNat_of_nonneg g3.1, Int.toNat_of_nonneg g4.1]
  simp only [Nat.add_assoc]
theorem key_shared {b k : ByteArray} (h : klt b k = true) : shr b.data.toList k.data.toList < k.size ∧ shr b.data.toList k.data.toList ≤ b.size ∧ rok b (shr b.data.toList k.data.toList) ((sb k).drop (shr b.data.toList k.data.toList)) ∧ keyOf b (shr b.data.toList k.data.toList) ((sb k).drop (shr b.data.toList k.data.toList)) = k := by
  unfold klt at h
  rw [ByteArray.toList_eq, ByteArray.toList_eq] at h
  obtain ⟨h1, h2⟩ := shr_less _ _ h
  have h3 := shr_take b.data.toList k.data.toList
  have hb := bsz b
  have hk := bsz k
  generalize shr b.data.toList k.data.toList = s at *
  have hsl : (sb k).length = k.size := sb_length k
  have hd : (sb k).drop s = sb ⟨(k.data.toList.drop s).toArray⟩ := by
    rw [sb, ← List.map_drop]; rfl
  have hst : (strOfNums ((sb k).drop s)).data.toList = k.data.toList.drop s := by
    rw [hd, str_of_sbE]
  refine ⟨by omega, ?_, ⟨?_, ?_⟩, ?_⟩
  · rcases h2 with e | e <;> omega
  · intro e
    have := congrArg List.length e
    rw [List.length_drop, hsl] at this
    simp at this
    omega
  · refine h2.imp (fun e => by omega) (fun e => ?_)
    have hz : UInt8.ofNat (((sb k).drop s)[0]?.getD 0).toNat = k.data.toList[s]?.getD 0 := by
      rw [List.getElem?_drop, Nat.add_zero, sb, List.getElem?_map]
      cases k.data.toList[s]? with
      | none => rfl
      | some c => simp
    rw [hz]
    exact e.2
  · apply ByteArray.ext
    apply Array.toList_inj.1
    rw [keyOf_list, hst, h3, List.take_append_drop]
theorem rde_put {l R : List Int} {b : ByteArray} {p : Nat} {e : En} (hg : Gen e) (hk : klt b e.k = true) (h : l.drop p = een b e ++ R) : rde l b p = some (e, p + (een b e).length) := by
  obtain ⟨k1, k2, k3, k4⟩ := key_shared hk
  have g2 := hg.k2
  unfold een at h ⊢
  generalize shr b.data.toList e.k.data.toList = s at *
  have hsl : ((sb e.k).drop s).length = e.k.size - s := by rw [List.length_drop, sb_length]
  rw [← hsl] at h ⊢
  rw [List.append_assoc, List.append_assoc] at h
  have h2 := drop_next h
  have h3 := drop_next h2
  unfold rde
  rw [upn_put h k2 (by omega)]
  simp only
  rw [txn_put h2 (by rw [hsl]; omega) (by rw [hsl]; omega)]
  simp only
  rw [if_pos k3, k4, rn4_put hg h3]
  simp only [List.length_append, Nat.add_assoc]
theorem een_len {b : ByteArray} {e : En} (hk : klt b e.k = true) : 7 ≤ (een b e).length := by
  obtain ⟨k1, k2, k3, k4⟩ := key_shared hk
  unfold een
  simp only [List.length_append, List.length_drop, sb_length]
  have a1 := uvb_pos (shr b.data.toList e.k.data.toList)
  have a2 := uvb_pos (e.k.size - shr b.data.toList e.k.data.toList)
  have a3 := uvb_pos e.d.toNat
  have a4 := uvb_pos e.t.toNat
  have a5 := uvb_pos e.p.toNat
  have a6 := uvb_pos e.s.toNat
  omega
theorem ebl_len : ∀ {F : List En} {b : ByteArray}, chn b F → 7 * F.length ≤ (ebl b F).length
  | [], _, _ => by simp
  | e :: r, b, hc => by
    have h1 := een_len hc.1
    have h2 := ebl_len hc.2
    rw [ebl, List.length_append, List.length_cons]
    omega
theorem rbk_put {l : List Int} : ∀ {F : List En} {b : ByteArray} {p : Nat} {R : List Int}, (∀ e ∈ F, Gen e) → chn b F → l.drop p = ebl b F ++ R → rbk l F.length b p = some (F, p + (ebl b F).length)
  | [], b, p, R, _, _, _ => by rw [List.length_nil, rbk]; rfl
  | e :: r, b, p, R, hg, hc, h => by
    rw [ebl, List.append_assoc] at h
    have he := hg e List.mem_cons_self
    have h2 := drop_next h
    have ih := rbk_put (fun x hx => hg x (List.mem_cons_of_mem _ hx)) hc.2 h2
    rw [List.length_cons, rbk, rde_put he hc.1 h]
    simp only
    rw [ih]
    simp only [ebl, List.length_append, Nat.add_assoc]
theorem rls_put {l : List Int} : ∀ {L : List Nat} {p : Nat} {R : List Int}, (∀ x ∈ L, x ≤ R.length) → l.length < 18446744073709551616 → l.drop p = (L.map uvb).flatten ++ R → rls l L.length p = some (L, p + ((L.map uvb).flatten).length)
  | [], p, R, _, _, _ => by rw [List.length_nil, rls]; rfl
  | x :: L, p, R, hx, hl, h => by
    rw [List.map_cons, List.flatten_cons, List.append_assoc] at h
    have h2 := drop_next h
    have h0 := hx x List.mem_cons_self
    have hlen := congrArg List.length h
    rw [List.length_drop, List.length_append, List.length_append] at hlen
    have ih := rls_put (fun y hy => hx y (List.mem_cons_of_mem _ hy)) hl h2
    rw [List.length_cons, rls, upn_put h (by omega) (by omega)]
    simp only
    rw [ih]
    simp only [List.map_cons, List.flatten_cons, List.length_append, Nat.add_assoc]
theorem chn_head {b : ByteArray} {F : List En} (h : chn b F) (hF : F ≠ []) : klt b (headk F) = true := by
  match F, hF, h with
  | e :: r, _, h => exact h.1
theorem chn_from {b : ByteArray} {F : List En} (h : chn b F) (hg : ∀ e ∈ F, Gen e) : chn ByteArray.empty F := by
  match F, h with
  | [], _ => trivial
  | e :: r, h => exact ⟨klt_empty (hg e List.mem_cons_self).k1, h.2⟩
theorem nbk_step {m n : Nat} (h : m + 1 = nbk n) : m = nbk (n - 16) := by
  unfold nbk at h ⊢
  omega
theorem rbs_put {l : List Int} : ∀ {m : Nat} {E : List En} {b : ByteArray} {p : Nat} {R : List Int}, m = nbk E.length → (∀ e ∈ E, Gen e) → chn b E → l.drop p = bdL (chs m E) ++ R →
    rbs l ((chs m E).map (fun F => (ebl ByteArray.empty F).length)) E.length b p = some (E, p + (bdL (chs m E)).length)
  | 0, E, b, p, R, hm, _, _, _ => by
    have : E = [] := List.eq_nil_of_length_eq_zero (by unfold nbk at hm; omega)
    subst this
    rfl
  | m + 1, E, b, p, R, hm, hg, hc, h => by
    have hn : 1 ≤ E.length := by unfold nbk at hm; omega
    have he : E.take 16 ++ E.drop 16 = E := List.take_append_drop 16 E
    have hne : E.take 16 ≠ [] := by intro e; have h9 := congrArg List.length e; rw [List.length_take, List.length_nil] at h9; omega
    have hb : bdL (chs (m + 1) E) = ebl ByteArray.empty (E.take 16) ++ bdL (chs m (E.drop 16)) := by simp [bdL, chs]
    rw [hb, List.append_assoc] at h
    have hg1 : ∀ e ∈ E.take 16, Gen e := fun e he => hg e (List.mem_of_mem_take he)
    have hg2 : ∀ e ∈ E.drop 16, Gen e := fun e he => hg e (List.mem_of_mem_drop he)
    rw [← he, chn_append] at hc
    have h2 := drop_next h
    have k1 := rbk_put hg1 (chn_from hc.1 hg1) h
    have ih := rbs_put (m := m) (E := E.drop 16) (b := lastk b (E.take 16)) (by rw [List.length_drop]; exact nbk_step hm) hg2 hc.2 h2
    have hmin : min 16 E.length = (E.take 16).length := by rw [List.length_take]
    have hsub : E.length - (E.take 16).length = (E.drop 16).length := by rw [List.length_take, List.length_drop]; omega
    rw [chs, List.map_cons, rbs, hmin, k1]
    simp only
    rw [if_pos ⟨chn_head hc.1 hne, by first | rfl | trivial⟩, hsub, ih]
    simp only
    rw [he]
    have e3 : bdL (E.take 16 :: chs m (E.drop 16)) = bdL (chs (m + 1) E) := rfl
    rw [e3, hb, List.length_append, Nat.add_assoc]
theorem bdL_len : ∀ {m : Nat} {E : List En} {b : ByteArray}, m = nbk E.length → (∀ e ∈ E, Gen e) → chn b E → 7 * E.length ≤ (bdL (chs m E)).length
  | 0, E, b, hm, _, _ => by unfold nbk at hm; omega
  | m + 1, E, b, hm, hg, hc => by
    have he : E.take 16 ++ E.drop 16 = E := List.take_append_drop 16 E
    have hb : bdL (chs (m + 1) E) = ebl ByteArray.empty (E.take 16) ++ bdL (chs m (E.drop 16)) := by simp [bdL, chs]
    have hg1 : ∀ e ∈ E.take 16, Gen e := fun e he => hg e (List.mem_of_mem_take he)
    have hg2 : ∀ e ∈ E.drop 16, Gen e := fun e he => hg e (List.mem_of_mem_drop he)
    rw [← he, chn_append] at hc
    have ih := bdL_len (m := m) (E := E.drop 16) (b := lastk b (E.take 16)) (by rw [List.length_drop]; exact nbk_step hm) hg2 hc.2
    have h1 := ebl_len (chn_from hc.1 hg1)
    rw [List.length_drop] at ih
    rw [List.length_take] at h1
    rw [hb, List.length_append]
    omega
theorem mem_bdL {B : List (List En)} : ∀ x ∈ B.map (fun F => (ebl ByteArray.empty F).length), x ≤ (bdL B).length := by
  induction B with
  | nil => intro x hx; cases hx
  | cons F B ih =>
    intro x hx
    have e : bdL (F :: B) = ebl ByteArray.empty F ++ bdL B := by simp [bdL]
    rw [e, List.length_append]
    rcases List.mem_cons.1 hx with rfl | hx
    · exact Nat.le_add_right _ _
    · have := ih x hx
      omega
theorem chs_len : ∀ (m : Nat) (l : List En), (chs m l).length = m
  | 0, _ => rfl
  | m + 1, l => by rw [chs, List.length_cons, chs_len m]
/-- Build's image is read, whatever stands behind it. -/
theorem par_put {E : List En} {R : List Int} (hg : Good E) (hl : (img E ++ R).length < 18446744073709551616) : par (img E ++ R) = some (E, (img E).length) := by
  obtain ⟨l, hle⟩ : ∃ l, l = img E ++ R := ⟨_, rfl⟩
  rw [← hle] at hl ⊢
  have h : l.drop 0 = uvb E.length ++ (((((chs (nbk E.length) E).map (fun F => (ebl ByteArray.empty F).length)).map uvb).flatten) ++ (bdL (chs (nbk E.length) E) ++ R)) := by
    rw [List.drop_zero, hle, img, hdL_map]
    simp only [List.append_assoc]
  have h7 := bdL_len rfl hg.gen hg.chn
  have h2 := drop_next h
  have h3 := drop_next h2
  have hlen := congrArg List.length h
  rw [List.length_drop, List.length_append, List.length_append, List.length_append] at hlen
  unfold par
  rw [upn_put h (by omega) (by omega)]
  simp only
  have hr := rls_put (L := (chs (nbk E.length) E).map (fun F => (ebl ByteArray.empty F).length)) (fun x hx => by have := mem_bdL x hx; rw [List.length_append]; omega) hl h2
  rw [List.length_map, chs_len] at hr
  rw [hr]
  simp only
  rw [rbs_put rfl hg.gen hg.chn h3, img, hdL_map]
  simp only [List.length_append, Nat.add_assoc, Nat.zero_add]
theorem opn_put {E : List En} (hg : Good E) (hl : (img E).length < 18446744073709551616) : opn (img E) = some E := by
  have h := par_put (R := []) hg (by rw [List.append_nil]; exact hl)
  rw [List.append_nil] at h
  unfold opn
  rw [h]
  simp only [if_neg (Nat.lt_irrefl _)]
theorem opn_more {E : List En} {R : List Int} (hg : Good E) (hR : R ≠ []) (hl : (img E ++ R).length < 18446744073709551616) : opn (img E ++ R) = none := by
  unfold opn
  rw [par_put hg hl]
  have : 1 ≤ R.length := by
    match R, hR with
    | c :: r, _ => simp
  simp only
  rw [if_pos (by rw [List.length_append]; omega)]
theorem opn_less {E : List En} {c : Nat} (hI : IsBytes (img E)) (hg : Good E) (hc : c < (img E).length) (hl : (img E).length < 18446744073709551616) : opn ((img E).take c) = none := by
  cases h : opn ((img E).take c) with
  | none => rfl
  | some E' =>
    exfalso
    obtain ⟨h1, h2, -⟩ := opn_back (fun x hx => hI x (List.mem_of_mem_take hx)) h
    have h3 : img E = img E' ++ (img E).drop c := by rw [← h1, List.take_append_drop]
    have h4 := par_put (R := (img E).drop c) h2 (by rw [← h3]; exact hl)
    rw [← h3] at h4
    have h5 := par_put (R := []) hg (by rw [List.append_nil]; exact hl)
    rw [List.append_nil, h4] at h5
    injection h5 with h5
    injection h5 with _ h6
    have h7 := congrArg List.length h1
    rw [List.length_take] at h7
    omega
end Go.Proofs.YtjcoajgndehccaaDoor
