import Derived.Test.YtbdhmibiggpomaaDoorMrg9
import Derived.Test.YtbdhmibiggpomaaDoorPog
import Derived.Test.YtbdhmibiggpomaaDoorCcd
namespace Go.Proofs.YtbdhmibiggpomaaDoor
open Go.ChangeShapes Go.WideShapes Go.ChangeAt Go.RowKit

theorem PsAt.news {W : World} {b off : Nat} {L : List Pg} (h : PsAt W (some ⟨b, off, none⟩) L) (hne : L ≠ []) : ∀ j u, (pcs L)[j]? = some u → W.cell? ((⟨b, off, none⟩ : Addr).add j) = some u := by
  intro j u hu
  have hp : (⟨b, off, none⟩ : Addr).add j = ⟨b, off + j, none⟩ := by unfold Addr.add; split <;> simp_all
  rw [hp]
  obtain ⟨b', off', e, hc⟩ := h hne
  simp only [Option.some.injEq, Addr.mk.injEq, and_true] at e
  obtain ⟨rfl, rfl⟩ := e
  have hj : j < L.length * 2 := by rw [← pcs_length]; exact (List.getElem?_eq_some_iff.1 hu).1
  obtain ⟨k, i, hk, hi, rfl⟩ : ∃ k i, k < L.length ∧ i < 2 ∧ j = k * 2 + i := ⟨j / 2, j % 2, by omega, by omega, by omega⟩
  rw [pcs_at L k i hk hi] at hu
  obtain ⟨x0, x1, _⟩ := hc k hk
  rcases (show i = 0 ∨ i = 1 by omega) with rfl | rfl
  · simp [pgc] at hu; subst hu; exact x0
  · simp [pgc] at hu; subst hu; rw [← Nat.add_assoc]; exact x1
/-- 'append' of a list of postings. -/
theorem wpList_appG {base : Nat} {W : World} {ops : Array Oper} {rest : List Oper} {o : Oper} {act : Act} {Q : Exit → Act → World → Prop} (hgd : o.guard = none) (s x : Operand)
    (ho : o.op = .call { callee := .builtin .append, args := #[s, x], argTypes := #[24, 24] }) (v : Value) (n : Nat) (xs : List Value) (M : List Pg) (m b off c : Nat) (hm : m = M.length) (hM : PsAt W (some ⟨b, off, none⟩) M) (hne : M ≠ []) (hs : act.eval s = v) (hG : Hid (W.ownsRow base 42 2 v n xs)) (hb0 : base ≤ W.heap.size) (hx : act.eval x = .slice (some ⟨b, off, none⟩) m c) (hn : n + m ≤ 1099511627776)
    (h : ∀ gb c' W', Hid (W'.ownsRow base 42 2 (.slice (some ⟨gb, 0, none⟩) (n + m) c') (n + m) (xs ++ pcs M)) → Hid (Kept (fun k => v.ownBlock = some k) W W') → Hid (v.ownBlock = some gb ∨ W.heap.size ≤ gb) → wpList Tryd.prog ops Q rest (act.put o.dst (.slice (some ⟨gb, 0, none⟩) (n + m) c')) W') : wpList Tryd.prog ops Q (o :: rest) act W := by
  obtain ⟨i0, hi, hz0, hz1, hz2⟩ := info_partsP Tryd.infoPo
  have hm0 : 0 < m := by rw [hm]; exact List.length_pos_iff.2 hne
  refine wpList_append_lies _ hgd s x 24 ho base 42 i0 (.agg #[.int .i64 0, .slice none 0 0]) 2 32 Tryd.underlying24 hi hz0 hz1 hz2 rfl (by decide) v n xs hs hG.out ⟨b, off, none⟩ m c (pcs M) hx (by rw [pcs_length, hm]) (hM.news hne) (pcs_one _) hm0 (by unfold maxLen; omega) (by omega) hb0 _ rfl ?_
  intro gb c' W' ho2 hg2 hat _
  exact h gb c' W' ho2 (hideP (Kept.grown hg2)) (hideP (hat.imp id (fun e => by rw [e]; exact Nat.le_refl _)))
def apR (acc : List Po) : Option (List Po) → Option (List Po)
  | none => none
  | some L => some (acc ++ L)
theorem ral_n {l : List Int} {s : Sk} {S : List Sk} {b : Int} {p : Nat} (h : rbk ((l.drop p).take s.z) b s.last s.n = none) : ral l (s :: S) b p = none := by rw [ral, h]
theorem ral_s {l : List Int} {s : Sk} {S : List Sk} {b : Int} {p : Nat} {F : List Po} (h : rbk ((l.drop p).take s.z) b s.last s.n = some F) : ral l (s :: S) b p = apR F (ral l S s.last (p + s.z)) := by
  rw [ral, h]
  simp only
  cases ral l S s.last (p + s.z) <;> rfl
theorem apR_step (acc F : List Po) (r : Option (List Po)) : apR acc (apR F r) = apR (acc ++ F) r := by
  cases r with
  | none => rfl
  | some L => simp [apR]
def finA (t : Nat) : Option (List Po) → Option (List Po)
  | none => none
  | some L => if tot L = t then some L else none
theorem opn_eq {l : List Int} {h : Hd} (hh : hdr l = some h) : opn l = finA h.t (ral l h.S (-1) h.p) := by
  unfold opn
  rw [hh]
  simp only
  cases ral l h.S (-1) h.p <;> rfl
/-- What readAll leaves. -/
def raPost (w : World) (e : Ending) (w' : World) : Option (List Po) → Prop
  | none => (∃ u, e = .returned (.tuple #[u, .bool false])) ∧ Kept (fun _ => False) w w'
  | some L => ∃ (PL : List Pg) (a : Option Addr) (c : Nat), pol PL = L ∧ e = .returned (.tuple #[.slice a PL.length c, .bool true]) ∧ PsAt w' a PL ∧ PL.length ≤ c ∧ Kept (fun _ => False) w w'
theorem tot_ral {l : List Int} (hI : IsBytes l) : ∀ {S : List Sk} {b : Int} {p : Nat} {L : List Po}, ral l S b p = some L → (∀ s ∈ S, -1 ≤ s.last ∧ s.last ≤ 2147483646 ∧ 1 ≤ s.n ∧ s.n ≤ 16) → -1 ≤ b → tot L ≤ szs S
  | [], b, p, L, h, _, _ => by rw [ral] at h; injection h with h; subst h; exact Nat.zero_le _
  | s :: S, b, p, L, h, hS, hb => by
    have hs := hS s (List.mem_cons_self ..)
    cases hr : rbk ((l.drop p).take s.z) b s.last s.n with
    | none => rw [ral_n hr] at h; cases h
    | some F =>
      rw [ral_s hr] at h
      obtain ⟨e1, _, _, _⟩ := rbk_back (isb_take (isb_drop hI p) s.z) hr hb hs.2.1
      cases h2 : ral l S s.last (p + s.z) with
      | none => rw [h2] at h; cases h
      | some R =>
        rw [h2] at h
        injection h with h
        subst h
        have i := tot_ral hI h2 (fun x hx => hS x (List.mem_cons_of_mem _ hx)) hs.1
        have j := tot_blk F b
        rw [← e1, List.length_take] at j
        rw [tot_append, szs]
        omega
set_option maxRecDepth 20000 in
set_option maxHeartbeats 8000000 in
theorem readAll_any (bl : Nat) (ia : Option Addr) (ic : Nat) (l : List Int) (n t : Nat) (sa : Option Addr) (sc : Nat) (S : List Sk) (p0 : Nat) (ad : Nat → Addr) (w : World) (hL : LsAt w bl ia ic l n t sa sc S p0) (hB : IsBytes l) (hl0 : 0 < l.length) (hl : l.length ≤ 1073741824) (hz : p0 + szs S ≤ l.length) (hS : ∀ s ∈ S, -1 ≤ s.last ∧ s.last ≤ 2147483646 ∧ 1 ≤ s.n ∧ s.n ≤ 16) (hSl : S.length ≤ 67108865) (hE : ErP w ad) :
    Calls Tryd.prog 23 #[.pointer (some ⟨bl, 0, none⟩)] w fun e w' => raPost w e w' (finA t (ral l S (-1) p0)) := by
  obtain ⟨R, hR⟩ : ∃ R, R = finA t (ral l S (-1) p0) := ⟨_, rfl⟩
  rw [← hR]
  have c3 := hL.c3
  have c2 := hL.c2
  have HL := hideP hL
  have HR := hideP hR
  have HE := hideP hE
  have HS := hideP hS
  have HB := hideP hB
  have HZ := hideP hz
  obtain ⟨sl, hsl⟩ : ∃ sl, sl = S.length := ⟨_, rfl⟩
  rw [← hsl] at c3 hSl
  have HSL := hideP hsl
  clear hL hR hE hS hB hsl hz
  go_enter Tryd.func23, Tryd.ntmps23
  go_wp2
  go_loopw [4, 13] (fun v4 v13 wr => ∃ (PL : List Pg) (k N : Nat) (va : Option Addr) (vc : Nat), v4 = .slice va N vc ∧ v13 = .int .i64 k ∧ k ≤ sl ∧ N ≤ 16 * k ∧ Hid (Gps (fun _ => False) w wr (.slice va N vc) N PL) ∧ Hid (ral l S (-1) p0 = apR (pol PL) (ral l (S.drop k) (bas S k) (p0 + szs (S.take k))))) (fun _ v13 _ => sl - (intOf v13).toNat)
  case atStart =>
    refine ⟨[], 0, 0, none, 0, rfl, rfl, by omega, by omega, hideP ⟨(gro_nil w _ 2).own, Kept.refl _ _, (fun g hg => nomatch hg), (fun g hg => nomatch hg)⟩, hideP ?_⟩
    rw [List.drop_zero, List.take_zero, szs, Nat.add_zero]
    show _ = apR [] (ral l S (-1) p0)
    cases ral l S (-1) p0 <;> rfl
  case round =>
    obtain ⟨PL, k, N, va, vc, rfl, rfl, hk, hN, HGp, HQ⟩ := hrel
    have HK := hideP HGp.out.kept
    by_cases hlt : k < sl
    · have hkk : (k : Int) < (sl : Int) := by omega
      have hkS : k < S.length := by rw [← HSL.out]; exact hlt
      have CB := readBlock_any bl ia ic l n t sa sc S p0 k ad wr (HL.out.kept HK.out) hkS HB.out hl0 (by omega) HZ.out (fun s hs => by have := HS.out s hs; exact ⟨this.1, this.2.1, this.2.2.2⟩) (by rw [← HSL.out]; omega) (HE.out.kept HK.out)
      have hdr : S.drop k = S[k] :: S.drop (k + 1) := List.drop_eq_getElem_cons hkS
      have htk : szs (S.take (k + 1)) = szs (S.take k) + S[k].z := by rw [List.take_succ_eq_append_getElem hkS, szs_append]; simp [szs]
      have hbas : bas S (k + 1) = S[k].last := by unfold bas; rw [if_neg (by omega), Nat.add_sub_cancel, List.getElem?_eq_getElem hkS]
      have hsn := HS.out _ (List.getElem_mem hkS)
      have hbk : -1 ≤ bas S k := by
        unfold bas
        split
        · omega
        · split
          · rename_i s hs
            exact (HS.out s (List.mem_of_getElem? hs)).1
          · omega
      cases hr : rbk ((l.drop (p0 + szs (S.take k))).take S[k].z) (bas S k) S[k].last S[k].n with
      | none =>
        rw [hr] at CB
        have HRn : Hid (R = none) := hideP (by rw [HR.out, HQ.out, hdr, ral_n hr]; rfl)
        have HCB := hideP CB
        clear CB hdr htk hbas hr hsn hbk HQ
        go_wp2_with (go_at_call 42; refine HCB.out.mono ?_; clear HCB; rintro e W1 ⟨⟨u, rfl⟩, k1⟩; have HK1 := hideP (HK.out.trans k1 (fun _ f => f.elim)); clear k1)
        go_ret2
        rw [HRn.out]
        exact ⟨⟨_, rfl⟩, HK1.out⟩
      | some F =>
        rw [hr] at CB
        unfold rbPost at CB
        simp only at CB
        have HQ2 : Hid (ral l S (-1) p0 = apR (pol PL ++ F) (ral l (S.drop (k + 1)) (bas S (k + 1)) (p0 + szs (S.take (k + 1))))) := hideP (by rw [HQ.out, hdr, ral_s hr, apR_step, hbas, htk, Nat.add_assoc])
        have hFl : F.length = S[k].n := (rbk_back (isb_take (isb_drop HB.out _) _) hr hbk hsn.2.1).2.2.1
        have hF1 : 1 ≤ F.length ∧ F.length ≤ 16 := by omega
        have HCB := hideP CB
        have HF1 := hideP hF1
        have HNL : Hid (∀ i, (Value.slice va N vc).ownBlock = some i → i < wr.heap.size) := hideP (fun i hi => (HGp.out.own.lt i hi).2)
        have szr := HK.out.size
        clear CB hdr htk hbas hr hsn hbk HQ hFl hF1
        go_wp2_with (first
          | (go_at_call 42; refine HCB.out.mono ?_; clear HCB; rintro e W1 ⟨FL, fa, fc, hFL, rfl, hPs, hfc, ⟨hfar, -⟩, k1⟩; have HG1 := hideP (HGp.out.step k1 (fun i hi => hi.elim)); have GW := hideP HG1.out.own; have s1 := HG1.out.kept.size; have HFL := hideP hFL; have HPs := hideP hPs; have HFar := hideP hfar; obtain ⟨fl, hfl⟩ : ∃ fl, fl = FL.length := ⟨_, rfl⟩; have hf1 : 1 ≤ fl ∧ fl ≤ 16 := (by have h1 := HF1.out; rw [← hFL, pol_len] at h1; omega); obtain ⟨fb, fo, hfa, -⟩ := hPs (by intro e; rw [e] at hfl; simp at hfl; omega); subst hfa; rw [← hfl]; have HFl := hideP hfl; clear hFL hPs hfar k1 hfl)
          | (at_builtin; refine wpList_appG rfl _ _ rfl _ N (pcs PL) FL fl fb fo fc HFl.out HPs.out (by intro e; have := HFl.out; rw [e] at this; simp at this; omega) rfl GW s1 rfl (by omega) ?_; intro gb c' W5 O5 K5 A5))
        have HG5 := hideP (HG1.out.more (M := FL) O5.out K5.out A5.out (fun g hg => by
          obtain ⟨j, hj, rfl⟩ := List.getElem_of_mem hg
          obtain ⟨_, _, _, hcc⟩ := HPs.out (by intro e; rw [e] at hj; simp at hj)
          exact (hcc j hj).2.2) (fun g hg hne => by
          obtain ⟨b, off, e, h1, h2⟩ := HFar.out g hg hne
          exact ⟨b, off, e, by omega, h2, fun f => by have := HNL.out b f; omega⟩))
        go_roundw
        case rel => exact ⟨PL ++ FL, k + 1, N + fl, _, _, rfl, by go_num, by omega, by omega, HG5, hideP (by rw [HQ2.out, ← HFL.out]; simp [pol])⟩
        case measure => simp [intOf]; omega
    · have hkk : ¬ (k : Int) < (sl : Int) := by omega
      have hdr : S.drop k = [] := List.drop_of_length_le (by have := HSL.out; omega)
      have hrl : ral l S (-1) p0 = some (pol PL) := by rw [HQ.out, hdr, ral, apR, List.append_nil]
      have htt := tot_ral HB.out hrl HS.out (by omega)
      obtain ⟨hPs, hNl, hNc⟩ := HGp.out.at
      have HPs := hideP hPs
      have ht2 : tot (pol PL) ≤ 1073741824 := by have := HZ.out; omega
      have HRf : Hid (R = if tot (pol PL) = t then some (pol PL) else none) := hideP (by rw [HR.out, hrl]; rfl)
      have CP := positionsIn_any PL va vc wr.drew (hPs.kept (Kept.drewN wr 1)) (by rw [← hNl]; omega) (by omega)
      rw [← hNl] at CP
      obtain ⟨T, hT⟩ : ∃ T, T = tot (pol PL) := ⟨_, rfl⟩
      rw [← hT] at CP ht2 HRf
      have d2 := HK.out.cell c2 (fun f => f)
      have hS0 : Kept (fun _ => False) wr wr.drew := Kept.drewN wr 1
      have HN := hideP hNl
      clear hdr hrl htt HQ hPs hNl hT
      by_cases hTt : T = t
      · have eT : ((T : Int) == (t : Int)) = true := by rw [hTt]; simp
        have eT2 : (T : Int) = (t : Int) := by omega
        rw [if_pos hTt] at HRf
        clear hTt
        go_wp2_with fail
        refine wp_region_held (S := fun W' => Kept (fun _ => False) wr W') (by kernel_rfl) ?_
        change wpAnyH _ _ _ _ _ _ _ _ (World.drew _)
        refine takeZ (i := 0) (d := 28) (v := .slice va N vc) rfl rfl (by kernel_rfl) (by kernel_rfl) (by kernel_rfl) (fun _ _ _ h => h) (Or.inl ⟨by rfl, fun W hW => ?_⟩) hS0 ?_
        · (go_simp)
        simp only [Act.put, List.setIfInBounds_toArray, List.set_cons_zero, List.set_cons_succ]
        refine takeZ (i := 1) (d := 29) (v := .slice va N vc) rfl rfl (by kernel_rfl) (by kernel_rfl) (by kernel_rfl) (fun _ _ _ h => h) (Or.inl ⟨by rfl, fun W hW => ?_⟩) hS0 ?_
        · (go_simp)
        simp only [Act.put, List.setIfInBounds_toArray, List.set_cons_zero, List.set_cons_succ]
        refine takeZ (i := 3) (d := 31) (v := .pointer (some ⟨bl, 0, none⟩)) rfl rfl (by kernel_rfl) (by kernel_rfl) (by kernel_rfl) (fun _ _ _ h => h) (Or.inl ⟨by rfl, fun W hW => ?_⟩) hS0 ?_
        · (go_simp)
        simp only [Act.put, List.setIfInBounds_toArray, List.set_cons_zero, List.set_cons_succ]
        refine takeZ (i := 4) (d := 32) (v := .pointer (some ⟨bl, 0, none⟩)) rfl rfl (by kernel_rfl) (by kernel_rfl) (by kernel_rfl) (fun _ _ _ h => h) (Or.inl ⟨by rfl, fun W hW => ?_⟩) hS0 ?_
        · (go_simp)
        simp only [Act.put, List.setIfInBounds_toArray, List.set_cons_zero, List.set_cons_succ]
        refine takeZ (i := 5) (d := 33) (v := .pointer (some ⟨bl, 2, none⟩)) rfl rfl (by kernel_rfl) (by kernel_rfl) (by kernel_rfl) (fun _ _ _ h => h) (Or.inl ⟨by rfl, fun W hW => ?_⟩) hS0 ?_
        · (go_simp)
        simp only [Act.put, List.setIfInBounds_toArray, List.set_cons_zero, List.set_cons_succ]
        refine takeZ (i := 6) (d := 34) (v := .int .i64 t) rfl rfl (by kernel_rfl) (by kernel_rfl) (by kernel_rfl) (fun _ _ _ h => h) (Or.inl ⟨by rfl, fun W hW => ?_⟩) hS0 ?_
        · (have z1 := hW.cell d2 (fun f => f); go_simp)
        simp only [Act.put, List.setIfInBounds_toArray, List.set_cons_zero, List.set_cons_succ]
        refine wpAnyH_all (rs := [2]) (by kernel_rfl) (by simp) ?_
        intro i hi
        obtain rfl : i = 2 := by simpa using hi
        unfold wpOp
        go_simp
        refine Or.inl (CP.mono ?_)
        rintro e W2 ⟨rfl, k2⟩
        have hS2 := hS0.trans k2 (fun _ f => f.elim)
        refine ⟨hS2, ?_⟩
        refine takeZ (i := 7) (d := 35) (v := .bool true) rfl rfl (by kernel_rfl) (by kernel_rfl) (by kernel_rfl) (fun _ _ _ h => h) (Or.inl ⟨by rfl, fun W hW => ?_⟩) hS2 ?_
        · (first | (go_simp; done) | (go_simp; omega))
        simp only [Act.put, List.setIfInBounds_toArray, List.set_cons_zero, List.set_cons_succ]
        refine takeZ (i := 8) (d := 2) (v := .slice va N vc) rfl rfl (by kernel_rfl) (by kernel_rfl) (by kernel_rfl) (fun _ _ _ h => h) (Or.inl ⟨by rfl, fun W hW => ?_⟩) hS2 ?_
        · (go_simp)
        simp only [Act.put, List.setIfInBounds_toArray, List.set_cons_zero, List.set_cons_succ]
        refine takeZ (i := 9) (d := 3) (v := .bool true) rfl rfl (by kernel_rfl) (by kernel_rfl) (by kernel_rfl) (fun _ _ _ h => h) (Or.inl ⟨by rfl, fun W hW => ?_⟩) hS2 ?_
        · (go_simp)
        simp only [Act.put, List.setIfInBounds_toArray, List.set_cons_zero, List.set_cons_succ]
        refine wpAnyH_done (by kernel_rfl) ?_ _
        have HK2 := hideP (HK.out.trans hS2 (fun _ f => f.elim))
        have HS2 := hideP hS2
        clear hS0 hS2 k2 CP
        go_wp2
        go_ret2
        rw [HRf.out]
        exact ⟨PL, va, vc, rfl, by rw [← HN.out]; rfl, HPs.out.kept HS2.out, by rw [← HN.out]; exact hNc, HK2.out⟩
      · have eT : ((T : Int) == (t : Int)) = false := by simp; omega
        have eT2 : ¬ (T : Int) = (t : Int) := by omega
        rw [if_neg hTt] at HRf
        clear hTt
        go_wp2_with fail
        refine wp_region_held (S := fun W' => Kept (fun _ => False) wr W') (by kernel_rfl) ?_
        change wpAnyH _ _ _ _ _ _ _ _ (World.drew _)
        refine takeZ (i := 0) (d := 28) (v := .slice va N vc) rfl rfl (by kernel_rfl) (by kernel_rfl) (by kernel_rfl) (fun _ _ _ h => h) (Or.inl ⟨by rfl, fun W hW => ?_⟩) hS0 ?_
        · (go_simp)
        simp only [Act.put, List.setIfInBounds_toArray, List.set_cons_zero, List.set_cons_succ]
        refine takeZ (i := 1) (d := 29) (v := .slice va N vc) rfl rfl (by kernel_rfl) (by kernel_rfl) (by kernel_rfl) (fun _ _ _ h => h) (Or.inl ⟨by rfl, fun W hW => ?_⟩) hS0 ?_
        · (go_simp)
        simp only [Act.put, List.setIfInBounds_toArray, List.set_cons_zero, List.set_cons_succ]
        refine takeZ (i := 3) (d := 31) (v := .pointer (some ⟨bl, 0, none⟩)) rfl rfl (by kernel_rfl) (by kernel_rfl) (by kernel_rfl) (fun _ _ _ h => h) (Or.inl ⟨by rfl, fun W hW => ?_⟩) hS0 ?_
        · (go_simp)
        simp only [Act.put, List.setIfInBounds_toArray, List.set_cons_zero, List.set_cons_succ]
        refine takeZ (i := 4) (d := 32) (v := .pointer (some ⟨bl, 0, none⟩)) rfl rfl (by kernel_rfl) (by kernel_rfl) (by kernel_rfl) (fun _ _ _ h => h) (Or.inl ⟨by rfl, fun W hW => ?_⟩) hS0 ?_
        · (go_simp)
        simp only [Act.put, List.setIfInBounds_toArray, List.set_cons_zero, List.set_cons_succ]
        refine takeZ (i := 5) (d := 33) (v := .pointer (some ⟨bl, 2, none⟩)) rfl rfl (by kernel_rfl) (by kernel_rfl) (by kernel_rfl) (fun _ _ _ h => h) (Or.inl ⟨by rfl, fun W hW => ?_⟩) hS0 ?_
        · (go_simp)
        simp only [Act.put, List.setIfInBounds_toArray, List.set_cons_zero, List.set_cons_succ]
        refine takeZ (i := 6) (d := 34) (v := .int .i64 t) rfl rfl (by kernel_rfl) (by kernel_rfl) (by kernel_rfl) (fun _ _ _ h => h) (Or.inl ⟨by rfl, fun W hW => ?_⟩) hS0 ?_
        · (have z1 := hW.cell d2 (fun f => f); go_simp)
        simp only [Act.put, List.setIfInBounds_toArray, List.set_cons_zero, List.set_cons_succ]
        refine wpAnyH_all (rs := [2]) (by kernel_rfl) (by simp) ?_
        intro i hi
        obtain rfl : i = 2 := by simpa using hi
        unfold wpOp
        go_simp
        refine Or.inl (CP.mono ?_)
        rintro e W2 ⟨rfl, k2⟩
        have hS2 := hS0.trans k2 (fun _ f => f.elim)
        refine ⟨hS2, ?_⟩
        refine takeZ (i := 7) (d := 35) (v := .bool false) rfl rfl (by kernel_rfl) (by kernel_rfl) (by kernel_rfl) (fun _ _ _ h => h) (Or.inl ⟨by rfl, fun W hW => ?_⟩) hS2 ?_
        · (first | (go_simp; done) | (go_simp; omega))
        simp only [Act.put, List.setIfInBounds_toArray, List.set_cons_zero, List.set_cons_succ]
        refine takeZ (i := 8) (d := 2) (v := .slice va N vc) rfl rfl (by kernel_rfl) (by kernel_rfl) (by kernel_rfl) (fun _ _ _ h => h) (Or.inl ⟨by rfl, fun W hW => ?_⟩) hS2 ?_
        · (go_simp)
        simp only [Act.put, List.setIfInBounds_toArray, List.set_cons_zero, List.set_cons_succ]
        refine takeZ (i := 9) (d := 3) (v := .bool false) rfl rfl (by kernel_rfl) (by kernel_rfl) (by kernel_rfl) (fun _ _ _ h => h) (Or.inl ⟨by rfl, fun W hW => ?_⟩) hS2 ?_
        · (go_simp)
        simp only [Act.put, List.setIfInBounds_toArray, List.set_cons_zero, List.set_cons_succ]
        refine wpAnyH_done (by kernel_rfl) ?_ _
        have HK2 := hideP (HK.out.trans hS2 (fun _ f => f.elim))
        have HS2 := hideP hS2
        clear hS0 hS2 k2 CP
        go_wp2
        go_ret2
        rw [HRf.out]
        exact ⟨⟨_, rfl⟩, HK2.out⟩
end Go.Proofs.YtbdhmibiggpomaaDoor
