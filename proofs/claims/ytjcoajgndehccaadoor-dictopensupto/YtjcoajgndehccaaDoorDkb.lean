import Derived.Test.YtjcoajgndehccaaDoorDka
namespace Go.Proofs.YtjcoajgndehccaaDoor
open Go.ChangeShapes Go.WideShapes Go.ChangeAt Go.RowKit

theorem isb_drop {l : List Int} (h : IsBytes l) (p : Nat) : IsBytes (l.drop p) := fun x hx => h x (List.mem_of_mem_drop hx)
theorem drop_next {l X R : List Int} {p : Nat} (h : l.drop p = X ++ R) : l.drop (p + X.length) = R := by
  rw [← List.drop_drop, h, List.drop_left]
theorem uvb_pos (n : Nat) : 1 ≤ (uvb n).length := by
  by_cases h : n < 128
  · rw [uvb_small h]; simp
  · rw [uvb_big h]; simp
theorem upn_back {m : Nat} {l : List Int} {p x q : Nat} (hI : IsBytes l) (h : upn m l p = some (x, q)) : p < q ∧ q ≤ l.length ∧ x ≤ m ∧ l.drop p = uvb x ++ l.drop q := by
  unfold upn at h
  split at h
  · cases h
  · rename_i x' k hr
    split at h
    · rename_i hx
      injection h with h
      injection h with h1 h2
      subst h1 h2
      have h3 := rdu_le _ _ _ _ _ hr
      rw [List.length_drop] at h3
      have h4 := rdu_form (isb_drop hI p) hr
      refine ⟨by omega, by omega, hx, ?_⟩
      rw [← h4, ← List.drop_drop, List.take_append_drop]
    · cases h
theorem txn_back {m : Nat} {l t : List Int} {p q : Nat} (hI : IsBytes l) (h : txn m l p = some (t, q)) : p < q ∧ q ≤ l.length ∧ t.length ≤ m ∧ IsBytes t ∧ l.drop p = uvb t.length ++ (t ++ l.drop q) := by
  unfold txn at h
  split at h
  · cases h
  · rename_i n q' hu
    obtain ⟨h1, h2, h3, h4⟩ := upn_back hI hu
    split at h
    · rename_i hn
      injection h with h
      injection h with e1 e2
      subst e1 e2
      have hl : ((l.drop q').take n).length = n := by rw [List.length_take, List.length_drop]; omega
      rw [hl]
      refine ⟨by omega, hn, h3, fun x hx => hI x (List.mem_of_mem_drop (List.mem_of_mem_take hx)), ?_⟩
      rw [h4, ← List.drop_drop, List.take_append_drop]
    · cases h
theorem rn4_back {l : List Int} {k : ByteArray} {q r : Nat} {e : En} (hI : IsBytes l) (h : rn4 l k q = some (e, r)) :
    q < r ∧ r ≤ l.length ∧ e.k = k ∧ (0 ≤ e.d ∧ e.d ≤ 2147483647) ∧ (0 ≤ e.t ∧ e.t ≤ 2147483647) ∧ (0 ≤ e.p ∧ e.p ≤ 2147483647) ∧ (0 ≤ e.s ∧ e.s ≤ 2147483647) ∧ l.drop q = (uvb e.d.toNat ++ (uvb e.t.toNat ++ (uvb e.p.toNat ++ uvb e.s.toNat))) ++ l.drop r := by
  unfold rn4 at h
  split at h
  · cases h
  · rename_i d q1 hd
    split at h
    · cases h
    · rename_i t q2 ht
      split at h
      · cases h
      · rename_i p q3 hp
        split at h
        · cases h
        · rename_i s q4 hs
          injection h with h
          injection h with e1 e2
          subst e1 e2
          obtain ⟨a1, a2, a3, a4⟩ := upn_back hI hd
          obtain ⟨b1, b2, b3, b4⟩ := upn_back hI ht
          obtain ⟨c1, c2, c3, c4⟩ := upn_back hI hp
          obtain ⟨d1, d2, d3, d4⟩ := upn_back hI hs
          refine ⟨by omega, d2, rfl, ⟨by simp, by simp only; omega⟩, ⟨by simp, by simp only; omega⟩, ⟨by simp, by simp only; omega⟩, ⟨by simp, by simp only; omega⟩, ?_⟩
          simp only [Int.toNat_natCast]
          rw [a4, b4, c4, d4]
          simp [List.append_assoc]
theorem strOf_list (t : List Int) : (strOfNums t).data.toList = t.map (fun n => UInt8.ofNat n.toNat) := by simp [strOfNums]
theorem strOf_size (t : List Int) : (strOfNums t).size = t.length := by
  show (List.toArray _).size = _
  rw [List.size_toArray, List.length_map]
theorem keyOf_list {b : ByteArray} {s : Nat} {t : List Int} : (keyOf b s t).data.toList = b.data.toList.take s ++ (strOfNums t).data.toList := by
  unfold keyOf
  simp [ByteArray.data_append, ByteArray.data_extract]
theorem sb_of_strE {t : List Int} (h : IsBytes t) : sb (strOfNums t) = t := by
  show ((t.map fun n => UInt8.ofNat n.toNat).toArray.toList.map fun b => ((b.toNat : Nat) : Int)) = t
  simp only [List.map_map]
  conv => rhs; rw [← List.map_id t]
  apply List.map_congr_left
  intro x hx
  have := h x hx
  simp only [Function.comp, id]
  have e : (UInt8.ofNat x.toNat).toNat = x.toNat := by
    rw [UInt8.toNat_ofNat']
    exact Nat.mod_eq_of_lt (by omega)
  rw [e]
  omega
theorem str_of_sbE (s : ByteArray) : strOfNums (sb s) = s := by
  apply ByteArray.ext
  apply Array.toList_inj.1
  show ((sb s).map fun n => UInt8.ofNat n.toNat).toArray.toList = s.data.toList
  simp only [sb, List.map_map]
  conv => rhs; rw [← List.map_id s.data.toList]
  apply List.map_congr_left
  intro x _
  simp [Function.comp]
theorem bsz (b : ByteArray) : b.data.toList.length = b.size := by rw [Array.length_toList]; rfl
theorem key_facts {b : ByteArray} {s : Nat} {t : List Int} (hI : IsBytes t) (hs : s ≤ b.size) (h : rok b s t) :
    (keyOf b s t).size = s + t.length ∧ shr b.data.toList (keyOf b s t).data.toList = s ∧ klt b (keyOf b s t) = true ∧ (sb (keyOf b s t)).drop s = t := by
  obtain ⟨h1, h2⟩ := h
  have hbs := bsz b
  have hne : (strOfNums t).data.toList ≠ [] := by rw [strOf_list]; intro e; exact h1 (List.map_eq_nil_iff.1 e)
  have h0 : (strOfNums t).data.toList[0]?.getD 0 = UInt8.ofNat (t[0]?.getD 0).toNat := by
    rw [strOf_list]
    match t, h1 with
    | c :: r, _ => simp
  have hm := shr_made b.data.toList s (strOfNums t).data.toList (by omega) hne (h2.imp (fun e => by omega) (fun e => by rw [h0]; exact e))
  have htl : (b.data.toList.take s).length = s := by rw [List.length_take]; omega
  refine ⟨?_, ?_, ?_, ?_⟩
  · rw [← bsz, keyOf_list, List.length_append, htl, bsz, strOf_size]
  · rw [keyOf_list]; exact hm.1
  · unfold klt
    rw [ByteArray.toList_eq, ByteArray.toList_eq, keyOf_list]
    exact hm.2
  · rw [sb, keyOf_list, List.map_append, List.drop_left' (by rw [List.length_map, htl])]
    exact sb_of_strE hI
theorem rde_back {l : List Int} {b : ByteArray} {p q : Nat} {e : En} (hI : IsBytes l) (h : rde l b p = some (e, q)) : p < q ∧ q ≤ l.length ∧ l.drop p = een b e ++ l.drop q ∧ Gen e ∧ klt b e.k = true := by
  unfold rde at h
  split at h
  · cases h
  · rename_i s q0 hu
    obtain ⟨u1, u2, u3, u4⟩ := upn_back hI hu
    split at h
    · cases h
    · rename_i t q1 ht
      obtain ⟨t1, t2, t3, t4, t5⟩ := txn_back hI ht
      split at h
      · rename_i hr
        obtain ⟨n1, n2, n3, n4, n5, n6, n7, n8⟩ := rn4_back hI h
        obtain ⟨k1, k2, k3, k4⟩ := key_facts t4 u3 hr
        have ht0 : 1 ≤ t.length := by
          have := hr.1
          match t, this with
          | c :: r, _ => simp
        rw [← n3] at k1 k2 k3 k4
        refine ⟨by omega, n2, ?_, ⟨by omega, by omega, n4, n5, n6, n7⟩, k3⟩
        rw [een, k2, k4, k1, show s + t.length - s = t.length by omega, u4, t5, n8]
        simp [List.append_assoc]
      · cases h
theorem rbk_back {l : List Int} (hI : IsBytes l) : ∀ {c : Nat} {b : ByteArray} {p q : Nat} {F : List En}, rbk l c b p = some (F, q) → p ≤ l.length → p ≤ q ∧ q ≤ l.length ∧ l.drop p = ebl b F ++ l.drop q ∧ (∀ e ∈ F, Gen e) ∧ F.length = c ∧ chn b F
  | 0, b, p, q, F, h, hp => by
    rw [rbk] at h
    injection h with h
    injection h with e1 e2
    subst e1 e2
    exact ⟨Nat.le_refl _, hp, rfl, fun e he => (by cases he), rfl, trivial⟩
  | c + 1, b, p, q, F, h, hp => by
    rw [rbk] at h
    split at h
    · cases h
    · rename_i e q1 he
      obtain ⟨a1, a2, a3, a4, a5⟩ := rde_back hI he
      split at h
      · cases h
      · rename_i E r hE
        injection h with h
        injection h with e1 e2
        subst e1 e2
        obtain ⟨i1, i2, i3, i4, i5, i6⟩ := rbk_back hI hE a2
        refine ⟨by omega, i2, ?_, ?_, by rw [List.length_cons, i5], a5, i6⟩
        · rw [a3, i3, ebl, List.append_assoc]
        · intro x hx
          rcases List.mem_cons.1 hx with rfl | hx
          · exact a4
          · exact i4 x hx
theorem rls_back {l : List Int} (hI : IsBytes l) : ∀ {m p q : Nat} {L : List Nat}, rls l m p = some (L, q) → p ≤ l.length → p ≤ q ∧ q ≤ l.length ∧ L.length = m ∧ l.drop p = (L.map uvb).flatten ++ l.drop q
  | 0, p, q, L, h, hp => by
    rw [rls] at h
    injection h with h
    injection h with e1 e2
    subst e1 e2
    exact ⟨Nat.le_refl _, hp, rfl, rfl⟩
  | m + 1, p, q, L, h, hp => by
    rw [rls] at h
    split at h
    · cases h
    · rename_i x q1 hx
      obtain ⟨a1, a2, a3, a4⟩ := upn_back hI hx
      split at h
      · cases h
      · rename_i L' r hL
        injection h with h
        injection h with e1 e2
        subst e1 e2
        obtain ⟨i1, i2, i3, i4⟩ := rls_back hI hL a2
        refine ⟨by omega, i2, by rw [List.length_cons, i3], ?_⟩
        rw [a4, i4]
        simp [List.append_assoc]
theorem rbs_back {l : List Int} (hI : IsBytes l) : ∀ {L : List Nat} {n : Nat} {b : ByteArray} {p r : Nat} {E : List En}, rbs l L n b p = some (E, r) → p ≤ l.length → L.length = nbk n → r ≤ l.length ∧ E.length = n ∧ l.drop p = bdL (chs L.length E) ++ l.drop r ∧ L = (chs L.length E).map (fun F => (ebl ByteArray.empty F).length) ∧ (∀ e ∈ E, Gen e) ∧ chn b E
  | [], n, b, p, r, E, h, hp, hL => by
    rw [rbs] at h
    injection h with h
    injection h with e1 e2
    subst e1 e2
    have : n = 0 := by unfold nbk at hL; simp at hL; omega
    exact ⟨hp, this.symm, rfl, rfl, fun e he => (by cases he), trivial⟩
  | x :: L, n, b, p, r, E, h, hp, hL => by
    rw [rbs] at h
    split at h
    · cases h
    · rename_i F q hF
      obtain ⟨a1, a2, a3, a4, a5, a6⟩ := rbk_back hI hF hp
      split at h
      · rename_i hc
        split at h
        · cases h
        · rename_i E' r' hE
          injection h with h
          injection h with e1 e2
          subst e1 e2
          have hn : 1 ≤ n := by unfold nbk at hL; simp at hL; omega
          have hL2 : L.length = nbk (n - F.length) := by unfold nbk at hL ⊢; simp at hL; omega
          obtain ⟨i1, i2, i3, i4, i5, i6⟩ := rbs_back hI hE a2 hL2
          have hx : x = (ebl ByteArray.empty F).length := by
            have := congrArg List.length a3
            rw [List.length_append, List.length_drop, List.length_drop] at this
            have := hc.2
            omega
          have hE16 : F.length = 16 ∨ E' = [] := by
            by_cases h16 : 16 ≤ n
            · exact .inl (by omega)
            · exact .inr (List.eq_nil_of_length_eq_zero (by omega))
          have ht : (F ++ E').take 16 = F ∧ (F ++ E').drop 16 = E' := by
            rcases hE16 with e | e
            · exact ⟨List.take_left' e, List.drop_left' e⟩
            · subst e
              rw [List.append_nil]
              exact ⟨List.take_of_length_le (by omega), List.drop_eq_nil_of_le (by omega)⟩
          have hch : chs (L.length + 1) (F ++ E') = F :: chs L.length E' := by rw [chs, ht.1, ht.2]
          refine ⟨i1, by rw [List.length_append, i2]; omega, ?_, ?_, ?_, ?_⟩
          · rw [List.length_cons, hch, a3, i3]
            simp [bdL, List.append_assoc]
          · rw [List.length_cons, hch, List.map_cons, ← i4, hx]
          · intro e he
            rcases List.mem_append.1 he with he | he
            · exact a4 e he
            · exact i5 e he
          · rw [chn_append]
            refine ⟨?_, i6⟩
            match F, hc.1, a6 with
            | [], _, _ => trivial
            | e :: F', h1, h2 => exact ⟨h1, h2.2⟩
      · cases h
theorem hdL_map (B : List (List En)) : hdL B = ((B.map (fun F => (ebl ByteArray.empty F).length)).map uvb).flatten := by
  simp [hdL, List.map_map, Function.comp_def]
/-- What Open takes is what Build makes of its entries. -/
theorem par_back {l : List Int} {E : List En} {r : Nat} (hI : IsBytes l) (h : par l = some (E, r)) : r ≤ l.length ∧ l = img E ++ l.drop r ∧ Good E ∧ E.length * 7 ≤ l.length := by
  unfold par at h
  split at h
  · cases h
  · rename_i n q hn
    obtain ⟨a1, a2, a3, a4⟩ := upn_back hI hn
    split at h
    · cases h
    · rename_i L q1 hL
      obtain ⟨b1, b2, b3, b4⟩ := rls_back hI hL a2
      obtain ⟨c1, c2, c3, c4, c5, c6⟩ := rbs_back hI h b2 b3
      refine ⟨c1, ?_, ⟨c5, c6⟩, by omega⟩
      rw [b3] at c3 c4
      rw [List.drop_zero] at a4
      rw [img, c2, hdL_map, ← c4, List.append_assoc, List.append_assoc, ← c3, ← b4, ← a4]
theorem opn_back {l : List Int} {E : List En} (hI : IsBytes l) (h : opn l = some E) : l = img E ∧ Good E ∧ E.length * 7 ≤ l.length := by
  unfold opn at h
  split at h
  · cases h
  · rename_i E' r hp
    split at h
    · cases h
    · injection h with h
      subst h
      obtain ⟨a1, a2, a3, a4⟩ := par_back hI hp
      refine ⟨?_, a3, a4⟩
      rw [List.drop_eq_nil_of_le (by omega), List.append_nil] at a2
      exact a2
end Go.Proofs.YtjcoajgndehccaaDoor
