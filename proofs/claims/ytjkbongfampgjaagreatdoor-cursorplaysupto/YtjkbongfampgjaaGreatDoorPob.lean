import Derived.Test.YtjkbongfampgjaaGreatDoorPoa
namespace Go.Proofs.YtjkbongfampgjaaGreatDoor
open Go.ChangeShapes Go.WideShapes Go.ChangeAt Go.RowKit

/-- The skip entries of the blocks, their places left out. -/
def skl : Int → List (List Po) → List Sk
  | _, [] => []
  | b, F :: R => ⟨lastd b F, F.length, (blk b F).length⟩ :: skl (lastd b F) R
theorem szs_skl : ∀ (B : List (List Po)) (b : Int), szs (skl b B) = (bkb b B).length
  | [], _ => rfl
  | F :: B, b => by rw [skl, szs, szs_skl B, bkb, List.length_append]
theorem split16 {F R : List Po} {left : Nat} (hF : F.length = min left 16) (hR : R.length = left - 16) : (F ++ R).take 16 = F ∧ (F ++ R).drop 16 = R := by
  by_cases h : 16 ≤ left
  · have e : F.length = 16 := by omega
    exact ⟨by rw [← e, List.take_left], by rw [← e, List.drop_left]⟩
  · have e : R = [] := List.eq_nil_of_length_eq_zero (by omega)
    subst e
    rw [List.append_nil]
    exact ⟨List.take_of_length_le (by omega), List.drop_of_length_le (by omega)⟩
theorem both_back {l : List Int} (hI : IsBytes l) : ∀ {m left : Nat} {b : Int} {p q r : Nat} {S : List Sk} {L : List Po}, rsk l m left b p = some (S, q) → ral l S b r = some L → m = nbp left → -1 ≤ b → p ≤ l.length → r + szs S ≤ l.length →
    q ≤ l.length ∧ L.length = left ∧ gdl b L ∧ l.drop p = skb b (chp m L) ++ l.drop q ∧ (l.drop r).take (szs S) = bkb b (chp m L) ∧ S = skl b (chp m L)
  | 0, left, b, p, q, r, S, L, h, h2, hm, hb, hp, hr => by
    rw [rsk] at h
    injection h with h
    injection h with e1 e2
    subst e1 e2
    rw [ral] at h2
    injection h2 with h2
    subst h2
    unfold nbp at hm
    exact ⟨hp, by simp; omega, trivial, by simp [chp, skb], by simp [szs, chp, bkb], by simp [chp, skl]⟩
  | m + 1, left, b, p, q, r, S, L, h, h2, hm, hb, hp, hr => by
    rw [rsk] at h
    split at h
    · cases h
    · rename_i g q1 hu
      split at h
      · cases h
      · rename_i z q2 hz
        split at h
        · cases h
        · rename_i S' t hS
          injection h with h
          injection h with e1 e2
          subst e1 e2
          rw [ral] at h2
          simp only at h2
          split at h2
          · cases h2
          · rename_i F hF
            split at h2
            · cases h2
            · rename_i R hR
              injection h2 with h2
              subst h2
              obtain ⟨a1, a2, a3, a4⟩ := upn_back hI hu
              obtain ⟨b1, b2, b3, b4⟩ := upn_back hI hz
              rw [szs] at hr
              simp only at hr
              obtain ⟨c1, c2, c3, c4⟩ := rbk_back (isb_take (isb_drop hI r) z) hF hb (by omega)
              obtain ⟨i1, i2, i3, i4, i5, i6⟩ := both_back hI hS hR (by unfold nbp at hm ⊢; omega) (by omega) b2 (by omega)
              obtain ⟨s1, s2⟩ := split16 c3 i2
              have hz' : (blk b F).length = z := by rw [← c1, List.length_take, List.length_drop]; omega
              have hg : (lastd b F - 1 - b).toNat = g := by omega
              rw [chp, s1, s2, skb, bkb, skl, hz', hg, c4]
              refine ⟨i1, ?_, ?_, ?_, ?_, ?_⟩
              · rw [List.length_append]; unfold nbp at hm; omega
              · rw [gdl_append, c4]; exact ⟨c2, i3⟩
              · rw [a4, b4, i4]; simp [List.append_assoc]
              · rw [szs, List.take_add, List.drop_drop, i5, ← c1]
              · rw [i6, c3]
theorem opn_back {l : List Int} {L : List Po} (hI : IsBytes l) (h : opn l = some L) : l = img L ∧ gdl (-1) L ∧ ∃ p, hdr l = some ⟨L.length, tot L, skl (-1) (chp (nbp L.length) L), p⟩ ∧ p + (bkb (-1) (chp (nbp L.length) L)).length = l.length := by
  unfold opn at h
  split at h
  · cases h
  · rename_i hd hh
    split at h
    · cases h
    · rename_i L' hL
      split at h
      · rename_i ht
        injection h with h
        subst h
        have hh0 := hh
        unfold hdr at hh
        split at hh
        · cases hh
        · rename_i n q hn
          split at hh
          · cases hh
          · rename_i t r ht'
            split at hh
            · cases hh
            · rename_i S p hS
              split at hh
              · rename_i hz
                injection hh with hh
                subst hh
                simp only at hL ht
                obtain ⟨a1, a2, a3, a4⟩ := upn_back hI hn
                obtain ⟨b1, b2, b3, b4⟩ := upn_back hI ht'
                have hp : p ≤ l.length := by
                  have : ∀ (m left : Nat) (b : Int) (p q : Nat) (S : List Sk), rsk l m left b p = some (S, q) → p ≤ l.length → q ≤ l.length := by
                    intro m
                    induction m with
                    | zero => intro left b p q S h hp; rw [rsk] at h; injection h with h; injection h with e1 e2; subst e2; exact hp
                    | succ m ih =>
                      intro left b p q S h hp
                      rw [rsk] at h
                      split at h
                      · cases h
                      · rename_i hu
                        split at h
                        · cases h
                        · rename_i hv
                          split at h
                          · cases h
                          · rename_i hw
                            injection h with h
                            injection h with e1 e2
                            subst e2
                            exact ih _ _ _ _ _ hw (upn_back hI hv).2.1
                  exact this _ _ _ _ _ _ hS b2
                obtain ⟨c1, c2, c3, c4, c5, c6⟩ := both_back hI hS hL rfl (by omega) b2 (by omega)
                refine ⟨?_, c3, p, ?_, ?_⟩
                · rw [hz, List.take_of_length_le (by rw [List.length_drop]; exact Nat.le_refl _)] at c5
                  unfold img
                  rw [List.drop_zero] at a4
                  rw [c2, ← c5, ht, ← c4, List.append_assoc, ← b4, ← a4]
                · rw [hh0, c2, ht]
                  congr 2
                · rw [← szs_skl, c2, ← c6]; omega
              · cases hh
      · cases h
theorem tot_psb : ∀ (F : List Po), tot F ≤ (psb F).length
  | [] => Nat.zero_le _
  | p :: F => by
    have := tot_psb F
    have := risb_geP p.ps 0
    rw [tot, psb_cons, List.length_append]
    omega
theorem tot_blk (F : List Po) (b : Int) : tot F ≤ (blk b F).length := by
  have := tot_psb F
  rw [blk, List.length_append]
  omega
theorem len_tot : ∀ {F : List Po} {b : Int}, gdl b F → F.length ≤ tot F
  | [], _, _ => Nat.zero_le _
  | p :: F, b, h => by
    have := len_tot h.2
    have h2 : p.ps.length ≠ 0 := fun e => h.1.ne (List.eq_nil_of_length_eq_zero e)
    rw [tot, List.length_cons]
    omega
theorem tot_bkb : ∀ {m : Nat} {L : List Po} {b : Int}, m = nbp L.length → tot L ≤ (bkb b (chp m L)).length
  | 0, L, b, h => by
    have e : L = [] := List.eq_nil_of_length_eq_zero (by unfold nbp at h; omega)
    subst e
    exact Nat.zero_le _
  | m + 1, L, b, h => by
    have := tot_bkb (m := m) (L := L.drop 16) (b := lastd b (L.take 16)) (by rw [List.length_drop]; unfold nbp at h ⊢; omega)
    have h2 := tot_blk (L.take 16) b
    have h3 := tot_append (L.take 16) (L.drop 16)
    rw [List.take_append_drop] at h3
    rw [chp, bkb, List.length_append]
    omega
theorem gdl_split {L : List Po} {b : Int} (h : gdl b L) : gdl b (L.take 16) ∧ gdl (lastd b (L.take 16)) (L.drop 16) := by
  rw [← gdl_append, List.take_append_drop]
  exact h
theorem rsk_put {l : List Int} (hl : l.length < 9223372036854775808) : ∀ {m : Nat} {L : List Po} {b : Int} {p : Nat} {R : List Int}, m = nbp L.length → gdl b L → -1 ≤ b → (bkb b (chp m L)).length ≤ R.length → l.drop p = skb b (chp m L) ++ R →
    rsk l m L.length b p = some (skl b (chp m L), p + (skb b (chp m L)).length)
  | 0, L, b, p, R, hm, hg, hb, hR, h => by simp [rsk, chp, skl, skb]
  | m + 1, L, b, p, R, hm, hg, hb, hR, h => by
    obtain ⟨g1, g2⟩ := gdl_split hg
    obtain ⟨F, hF⟩ : ∃ F, F = L.take 16 := ⟨_, rfl⟩
    obtain ⟨L', hL'⟩ : ∃ L', L' = L.drop 16 := ⟨_, rfl⟩
    have n1 : F.length = min L.length 16 := by rw [hF, List.length_take, Nat.min_comm]
    have n2 : L'.length = L.length - 16 := by rw [hL', List.length_drop]
    rw [chp, bkb, ← hF, ← hL', List.length_append] at hR
    rw [chp, skb, ← hF, ← hL'] at h
    rw [← hF] at g1
    rw [← hF, ← hL'] at g2
    rw [chp, skl, skb, ← hF, ← hL']
    have hne : F ≠ [] := by
      intro e
      rw [e] at n1
      unfold nbp at hm
      simp at n1
      omega
    obtain ⟨q0, q3⟩ := gdl_last F b g1
    obtain ⟨q1, q2⟩ := q3 hne
    obtain ⟨g, hgq⟩ : ∃ g, g = (lastd b F - 1 - b).toNat := ⟨_, rfl⟩
    obtain ⟨z, hz⟩ : ∃ z, z = (blk b F).length := ⟨_, rfl⟩
    rw [← hgq, ← hz] at h ⊢
    rw [← hz] at hR
    rw [List.append_assoc, List.append_assoc] at h
    have u1 := upn_put (m := 2147483645 - b) h (by omega) (by omega)
    have e1 := drop_next h
    have k1 := congrArg List.length e1
    rw [List.length_drop, List.length_append, List.length_append] at k1
    have u2 := upn_put (m := ((l.length - (p + (uvb g).length) : Nat) : Int)) e1 (by omega) (by omega)
    have e2 := drop_next e1
    have i := rsk_put hl (m := m) (L := L') (by rw [n2]; unfold nbp at hm ⊢; omega) g2 (by omega) (by omega) e2
    rw [rsk, u1]
    simp only
    rw [u2]
    simp only
    rw [← n2, show b + 1 + (g : Int) = lastd b F by omega, i]
    simp only [Option.some.injEq, Prod.mk.injEq, List.cons.injEq, Sk.mk.injEq, and_true, true_and]
    refine ⟨n1.symm, ?_⟩
    rw [List.length_append, List.length_append]
    omega
theorem ral_put {l : List Int} : ∀ {m : Nat} {L : List Po} {b : Int} {r : Nat} {R : List Int}, m = nbp L.length → gdl b L → -1 ≤ b → l.drop r = bkb b (chp m L) ++ R → ral l (skl b (chp m L)) b r = some L
  | 0, L, b, r, R, hm, hg, hb, h => by
    have e : L = [] := List.eq_nil_of_length_eq_zero (by unfold nbp at hm; omega)
    subst e
    simp [chp, skl, ral]
  | m + 1, L, b, r, R, hm, hg, hb, h => by
    obtain ⟨g1, g2⟩ := gdl_split hg
    obtain ⟨F, hF⟩ : ∃ F, F = L.take 16 := ⟨_, rfl⟩
    obtain ⟨L', hL'⟩ : ∃ L', L' = L.drop 16 := ⟨_, rfl⟩
    have n1 : F.length = min L.length 16 := by rw [hF, List.length_take, Nat.min_comm]
    have n2 : L'.length = L.length - 16 := by rw [hL', List.length_drop]
    rw [chp, bkb, ← hF, ← hL', List.append_assoc] at h
    rw [← hF] at g1
    rw [← hF, ← hL'] at g2
    rw [chp, skl, ← hF, ← hL', ral]
    simp only
    have q0 := gdl_last F b g1
    rw [h, List.take_left, rbk_put g1 hb (by omega)]
    simp only
    rw [ral_put (m := m) (L := L') (by rw [n2]; unfold nbp at hm ⊢; omega) g2 (by omega) (drop_next h)]
    simp only
    rw [hF, hL', List.take_append_drop]
theorem hdr_put {L : List Po} {R : List Int} (hg : gdl (-1) L) (hl : (img L ++ R).length < 9223372036854775808) :
    hdr (img L ++ R) = if R.length = 0 then some ⟨L.length, tot L, skl (-1) (chp (nbp L.length) L), ((uvb L.length ++ uvb (tot L)) ++ skb (-1) (chp (nbp L.length) L)).length⟩ else none := by
  obtain ⟨l, hL⟩ : ∃ l, l = img L ++ R := ⟨_, rfl⟩
  rw [← hL] at hl ⊢
  obtain ⟨B, hB⟩ : ∃ B, B = chp (nbp L.length) L := ⟨_, rfl⟩
  have t1 := tot_bkb (L := L) (b := -1) rfl
  have t2 := len_tot hg
  rw [← hB] at t1 ⊢
  have e0 : l.drop 0 = uvb L.length ++ (uvb (tot L) ++ (skb (-1) B ++ (bkb (-1) B ++ R))) := by rw [List.drop_zero, hL, img, ← hB]; simp [List.append_assoc]
  have k0 := congrArg List.length e0
  rw [List.length_drop, List.length_append, List.length_append, List.length_append, List.length_append] at k0
  have u1 := upn_put (m := (l.length : Int)) e0 (by omega) (by omega)
  have e1 := drop_next e0
  have u2 := upn_put (m := ((l.length - (0 + (uvb L.length).length) : Nat) : Int)) e1 (by omega) (by omega)
  have e2 := drop_next e1
  have u3 := rsk_put hl (L := L) (b := -1) (R := bkb (-1) B ++ R) rfl hg (by omega) (by rw [← hB, List.length_append]; omega) (by rw [← hB]; exact e2)
  rw [← hB] at u3
  unfold hdr
  rw [u1]
  simp only
  rw [u2]
  simp only
  rw [u3]
  simp only
  rw [szs_skl]
  have e3 : (0 + (uvb L.length).length + (uvb (tot L)).length + (skb (-1) B).length) = ((uvb L.length ++ uvb (tot L)) ++ skb (-1) B).length := by rw [List.length_append, List.length_append]; omega
  rw [e3]
  have e4 : ((uvb L.length ++ uvb (tot L)) ++ skb (-1) B).length = (uvb L.length).length + (uvb (tot L)).length + (skb (-1) B).length := by rw [List.length_append, List.length_append]
  by_cases h : R.length = 0
  · rw [if_pos h, if_pos (by omega)]
  · rw [if_neg h, if_neg (by omega)]
theorem opn_put {L : List Po} (hg : gdl (-1) L) (hl : (img L).length < 9223372036854775808) : opn (img L) = some L := by
  have h := hdr_put (R := []) hg (by rw [List.append_nil]; exact hl)
  rw [List.append_nil, if_pos List.length_nil] at h
  unfold opn
  rw [h]
  simp only
  have e : (img L).drop ((uvb L.length ++ uvb (tot L)) ++ skb (-1) (chp (nbp L.length) L)).length = bkb (-1) (chp (nbp L.length) L) ++ [] := by
    rw [img, ← List.append_assoc, List.drop_left, List.append_nil]
  rw [ral_put rfl hg (by omega) e]
  simp
theorem opn_more {L : List Po} {R : List Int} (hg : gdl (-1) L) (hR : R ≠ []) (hl : (img L ++ R).length < 9223372036854775808) : opn (img L ++ R) = none := by
  have h := hdr_put hg hl
  rw [if_neg (fun e => hR (List.eq_nil_of_length_eq_zero e))] at h
  unfold opn
  rw [h]
theorem opn_less {L : List Po} {c : Nat} (hI : IsBytes (img L)) (hg : gdl (-1) L) (hc : c < (img L).length) (hl : (img L).length < 9223372036854775808) : opn ((img L).take c) = none := by
  cases h : opn ((img L).take c) with
  | none => rfl
  | some M =>
    exfalso
    obtain ⟨h1, h2, _⟩ := opn_back (isb_take hI c) h
    have h3 : img L = img M ++ (img L).drop c := by rw [← h1, List.take_append_drop]
    have h4 := opn_more (R := (img L).drop c) h2 (fun e => by have := congrArg List.length e; rw [List.length_drop] at this; simp at this; omega) (by rw [← h3]; exact hl)
    rw [← h3, opn_put hg hl] at h4
    cases h4
theorem uvb_bytesP : ∀ n, IsBytes (uvb n) := by
  intro n
  induction n using Nat.strongRecOn with
  | ind n ih =>
    by_cases h : n < 128
    · rw [uvb_small h]
      intro x hx
      rw [List.mem_singleton] at hx
      omega
    · rw [uvb_big h]
      intro x hx
      rcases List.mem_cons.1 hx with rfl | hx
      · omega
      · exact ih _ (by omega) x hx
theorem isb_appP {a b : List Int} (h : IsBytes a) (k : IsBytes b) : IsBytes (a ++ b) := fun x hx => (List.mem_append.1 hx).elim (h x) (k x)
theorem risb_bytesP : ∀ (l : List Int) (s : Nat), IsBytes (risb l s)
  | [], _ => fun _ hx => nomatch hx
  | _ :: r, _ => isb_appP (uvb_bytesP _) (risb_bytesP r _)
theorem packed_bytesP {l : List Int} (hI : IsInts l) (h0 : ∀ x ∈ l, 0 ≤ x) : IsBytes (packed l) := by
  rw [packed_eq]
  refine isb_appP (uvb_bytesP _) ?_
  unfold pbody
  split
  · exact fun _ hx => nomatch hx
  · have := orl_bits l h0 hI
    intro x hx
    rcases List.mem_cons.1 hx with rfl | hx
    · omega
    · exact le_bytes _ _ x hx
theorem psb_bytesP : ∀ F : List Po, IsBytes (psb F)
  | [] => fun _ hx => nomatch hx
  | p :: F => by rw [psb_cons]; exact isb_appP (risb_bytesP _ _) (psb_bytesP F)
theorem blk_bytesP {F : List Po} {b : Int} (hg : gdl b F) (hb : -1 ≤ b) : IsBytes (blk b F) := by
  have g1 := gps_ints hg hb
  have m1 := mos_intsG hg
  exact isb_appP (isb_appP (packed_bytesP (fun x hx => by have := g1 x hx; omega) (fun x hx => (g1 x hx).1)) (packed_bytesP (fun x hx => by have := m1 x hx; omega) (fun x hx => (m1 x hx).1))) (psb_bytesP F)
theorem skb_bytesP : ∀ (B : List (List Po)) (b : Int), IsBytes (skb b B)
  | [], _ => fun _ hx => nomatch hx
  | _ :: B, _ => isb_appP (isb_appP (uvb_bytesP _) (uvb_bytesP _)) (skb_bytesP B _)
theorem bkb_bytesP : ∀ {m : Nat} {L : List Po} {b : Int}, gdl b L → -1 ≤ b → IsBytes (bkb b (chp m L))
  | 0, _, _, _, _ => fun _ hx => nomatch hx
  | m + 1, L, b, hg, hb => by
    obtain ⟨g1, g2⟩ := gdl_split hg
    have := (gdl_last _ _ g1).1
    exact isb_appP (blk_bytesP g1 hb) (bkb_bytesP g2 (by omega))
theorem img_bytes {L : List Po} (hg : gdl (-1) L) : IsBytes (img L) :=
  isb_appP (isb_appP (uvb_bytesP _) (uvb_bytesP _)) (isb_appP (skb_bytesP _ _) (bkb_bytesP hg (by omega)))
end Go.Proofs.YtjkbongfampgjaaGreatDoor
