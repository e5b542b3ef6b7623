import Derived.Test.YtidgofpmnlddaaaGreatDoorMrg6
import Derived.Test.YtidgofpmnlddaaaGreatDoorMrg7
import Derived.Test.YtidgofpmnlddaaaGreatDoorRows
import Derived.WalkKit
import Derived.ProofKit
import Derived.OpenShut
import Derived.WalkLawsBesides
import Derived.LaidLaws
import Derived.LaidEql
import Derived.Stop.LaidErr
namespace Go.Proofs.YtidgofpmnlddaaaGreatDoor
open Go.ChangeShapes Go.WideShapes Go.ChangeAt Go.RowKit

theorem PsAt.news {W : World} {b off : Nat} {L : List Pg} (h : PsAt W (some ⟨b, off, none⟩) L) (hne : L ≠ []) : ∀ j u, (pcs L)[j]? = some u → W.cell? ((⟨b, off, none⟩ : Addr).add j) = some u := by
  intro j u hu
  have hp : (⟨b, off, none⟩ : Addr).add j = ⟨b, off + j, none⟩ := by unfold Addr.add; split <;> simp_all
  rw [hp]
  obtain ⟨b', off', e, hc⟩ := h hne
  simp only [Option.some.injEq, Addr.mk.injEq, and_true] at e
  obtain ⟨rfl, rfl⟩ := e
  have hj : j < L.length * 2 := by rw [← pcs_length]; exact (List.getElem?_eq_some_iff.1 hu).1
  obtain ⟨k, i, hk, hi, rfl⟩ : ∃ k i, k < L.length ∧ i < 2 ∧ j = k * 2 + i := ⟨j / 2, j % 2, by omega, by omega, by omega⟩
  rw [pcs_at L k i hk hi] at hu
  obtain ⟨x0, x1, _⟩ := hc k hk
  rcases (show i = 0 ∨ i = 1 by omega) with rfl | rfl
  · simp [pgc] at hu; subst hu; exact x0
  · simp [pgc] at hu; subst hu; rw [← Nat.add_assoc]; exact x1
/-- 'append' of a list of postings. -/
theorem wpList_appG {base : Nat} {W : World} {ops : Array Oper} {rest : List Oper} {o : Oper} {act : Act} {Q : Exit → Act → World → Prop} (hgd : o.guard = none) (s x : Operand)
    (ho : o.op = .call { callee := .builtin .append, args := #[s, x], argTypes := #[22, 22] }) (v : Value) (n : Nat) (xs : List Value) (M : List Pg) (m b off c : Nat) (hm : m = M.length) (hM : PsAt W (some ⟨b, off, none⟩) M) (hne : M ≠ []) (hs : act.eval s = v) (hG : Hid (W.ownsRow base 38 2 v n xs)) (hb0 : base ≤ W.heap.size) (hx : act.eval x = .slice (some ⟨b, off, none⟩) m c) (hn : n + m ≤ 1099511627776)
    (h : ∀ gb c' W', Hid (W'.ownsRow base 38 2 (.slice (some ⟨gb, 0, none⟩) (n + m) c') (n + m) (xs ++ pcs M)) → Hid (Kept (fun k => v.ownBlock = some k) W W') → Hid (v.ownBlock = some gb ∨ W.heap.size ≤ gb) → wpList Tryz.prog ops Q rest (act.put o.dst (.slice (some ⟨gb, 0, none⟩) (n + m) c')) W') : wpList Tryz.prog ops Q (o :: rest) act W := by
  obtain ⟨i0, hi, hz0, hz1, hz2⟩ := info_partsP Tryz.infoPo
  have hm0 : 0 < m := by rw [hm]; exact List.length_pos_iff.2 hne
  refine wpList_append_lies _ hgd s x 22 ho base 38 i0 (.agg #[.int .i64 0, .slice none 0 0]) 2 32 Tryz.underlying22 hi hz0 hz1 hz2 rfl (by decide) v n xs hs hG.out ⟨b, off, none⟩ m c (pcs M) hx (by rw [pcs_length, hm]) (hM.news hne) (pcs_one _) hm0 (by unfold maxLen; omega) (by omega) hb0 _ rfl ?_
  intro gb c' W' ho2 hg2 hat _
  exact h gb c' W' ho2 (hideP (Kept.grown hg2)) (hideP (hat.imp id (fun e => by rw [e]; exact Nat.le_refl _)))
def apR (acc : List Po) : Option (List Po) → Option (List Po)
  | none => none
  | some L => some (acc ++ L)
theorem ral_n {l : List Int} {s : Sk} {S : List Sk} {b : Int} {p : Nat} (h : rbk ((l.drop p).take s.z) b s.last s.n = none) : ral l (s :: S) b p = none := by rw [ral, h]
theorem ral_s {l : List Int} {s : Sk} {S : List Sk} {b : Int} {p : Nat} {F : List Po} (h : rbk ((l.drop p).take s.z) b s.last s.n = some F) : ral l (s :: S) b p = apR F (ral l S s.last (p + s.z)) := by
  rw [ral, h]
  simp only
  cases ral l S s.last (p + s.z) <;> rfl
theorem apR_step (acc F : List Po) (r : Option (List Po)) : apR acc (apR F r) = apR (acc ++ F) r := by
  cases r with
  | none => rfl
  | some L => simp [apR]
def finA (t : Nat) : Option (List Po) → Option (List Po)
  | none => none
  | some L => if tot L = t then some L else none
theorem opn_eq {l : List Int} {h : Hd} (hh : hdr l = some h) : opn l = finA h.t (ral l h.S (-1) h.p) := by
  unfold opn
  rw [hh]
  simp only
  cases ral l h.S (-1) h.p <;> rfl
/-- What readAll leaves. -/
def raPost (w : World) (e : Ending) (w' : World) : Option (List Po) → Prop
  | none => (∃ u, e = .returned (.tuple #[u, .bool false])) ∧ Kept (fun _ => False) w w'
  | some L => ∃ (PL : List Pg) (a : Option Addr) (c : Nat), pol PL = L ∧ e = .returned (.tuple #[.slice a PL.length c, .bool true]) ∧ PsAt w' a PL ∧ PL.length ≤ c ∧ Kept (fun _ => False) w w'
theorem tot_ral {l : List Int} (hI : IsBytes l) : ∀ {S : List Sk} {b : Int} {p : Nat} {L : List Po}, ral l S b p = some L → (∀ s ∈ S, -1 ≤ s.last ∧ s.last ≤ 2147483646 ∧ 1 ≤ s.n ∧ s.n ≤ 16) → -1 ≤ b → tot L ≤ szs S
  | [], b, p, L, h, _, _ => by rw [ral] at h; injection h with h; subst h; exact Nat.zero_le _
  | s :: S, b, p, L, h, hS, hb => by
    have hs := hS s (List.mem_cons_self ..)
    cases hr : rbk ((l.drop p).take s.z) b s.last s.n with
    | none => rw [ral_n hr] at h; cases h
    | some F =>
      rw [ral_s hr] at h
      obtain ⟨e1, _, _, _⟩ := rbk_back (isb_take (isb_drop hI p) s.z) hr hb hs.2.1
      cases h2 : ral l S s.last (p + s.z) with
      | none => rw [h2] at h; cases h
      | some R =>
        rw [h2] at h
        injection h with h
        subst h
        have i := tot_ral hI h2 (fun x hx => hS x (List.mem_cons_of_mem _ hx)) hs.1
        have j := tot_blk F b
        rw [← e1, List.length_take] at j
        rw [tot_append, szs]
        omega
set_option maxRecDepth 20000 in
set_option maxHeartbeats 8000000 in
theorem readAll_any (bl : Nat) (ia : Option Addr) (ic : Nat) (l : List Int) (n t : Nat) (sa : Option Addr) (sc : Nat) (S : List Sk) (p0 : Nat) (ad : Nat → Addr) (w : World) (hL : LsAt w bl ia ic l n t sa sc S p0) (hB : IsBytes l) (hl0 : 0 < l.length) (hl : l.length ≤ 1073741824) (hz : p0 + szs S ≤ l.length) (hS : ∀ s ∈ S, -1 ≤ s.last ∧ s.last ≤ 2147483646 ∧ 1 ≤ s.n ∧ s.n ≤ 16) (hSl : S.length ≤ 67108865) (hE : ErP w ad) :
    Calls Tryz.prog 46 #[.pointer (some ⟨bl, 0, none⟩)] w fun e w' => raPost w e w' (finA t (ral l S (-1) p0)) := by
  obtain ⟨R, hR⟩ : ∃ R, R = finA t (ral l S (-1) p0) := ⟨_, rfl⟩
  rw [← hR]
  have c3 := hL.c3
  have c2 := hL.c2
  have HL := hideP hL
  have HR := hideP hR
  have HE := hideP hE
  have HS := hideP hS
  have HB := hideP hB
  have HZ := hideP hz
  obtain ⟨sl, hsl⟩ : ∃ sl, sl = S.length := ⟨_, rfl⟩
  rw [← hsl] at c3 hSl
  have HSL := hideP hsl
  clear hL hR hE hS hB hsl hz
  go_enter Tryz.func46, Tryz.ntmps46
  go_wp2
  go_loopw [4, 13] (fun v4 v13 wr => ∃ (PL : List Pg) (k N : Nat) (va : Option Addr) (vc : Nat), v4 = .slice va N vc ∧ v13 = .int .i64 k ∧ k ≤ sl ∧ N ≤ 16 * k ∧ Hid (Gps (fun _ => False) w wr (.slice va N vc) N PL) ∧ Hid (ral l S (-1) p0 = apR (pol PL) (ral l (S.drop k) (bas S k) (p0 + szs (S.take k))))) (fun _ v13 _ => sl - (intOf v13).toNat)
  case atStart =>
    refine ⟨[], 0, 0, none, 0, rfl, rfl, by omega, by omega, hideP ⟨(gro_nil w _ 2).own, Kept.refl _ _, (fun g hg => nomatch hg), (fun g hg => nomatch hg)⟩, hideP ?_⟩
    rw [List.drop_zero, List.take_zero, szs, Nat.add_zero]
    show _ = apR [] (ral l S (-1) p0)
    cases ral l S (-1) p0 <;> rfl
  case round =>
    obtain ⟨PL, k, N, va, vc, rfl, rfl, hk, hN, HGp, HQ⟩ := hrel
    have HK := hideP HGp.out.kept
    by_cases hlt : k < sl
    · have hkk : (k : Int) < (sl : Int) := by omega
      have hkS : k < S.length := by rw [← HSL.out]; exact hlt
      have CB := readBlock_any bl ia ic l n t sa sc S p0 k ad wr (HL.out.kept HK.out) hkS HB.out hl0 (by omega) HZ.out (fun s hs => by have := HS.out s hs; exact ⟨this.1, this.2.1, this.2.2.2⟩) (by rw [← HSL.out]; omega) (HE.out.kept HK.out)
      have hdr : S.drop k = S[k] :: S.drop (k + 1) := List.drop_eq_getElem_cons hkS
      have htk : szs (S.take (k + 1)) = szs (S.take k) + S[k].z := by rw [List.take_succ_eq_append_getElem hkS, szs_append]; simp [szs]
      have hbas : bas S (k + 1) = S[k].last := by unfold bas; rw [if_neg (by omega), Nat.add_sub_cancel, List.getElem?_eq_getElem hkS]
      have hsn := HS.out _ (List.getElem_mem hkS)
      have hbk : -1 ≤ bas S k := by
        unfold bas
        split
        · omega
        · split
          · rename_i s hs
            exact (HS.out s (List.mem_of_getElem? hs)).1
          · omega
      cases hr : rbk ((l.drop (p0 + szs (S.take k))).take S[k].z) (bas S k) S[k].last S[k].n with
      | none =>
        rw [hr] at CB
        have HRn : Hid (R = none) := hideP (by rw [HR.out, HQ.out, hdr, ral_n hr]; rfl)
        have HCB := hideP CB
        clear CB hdr htk hbas hr hsn hbk HQ
        go_wp2_with (go_at_call 68; refine HCB.out.mono ?_; clear HCB; rintro e W1 ⟨⟨u, rfl⟩, k1⟩; have HK1 := hideP (HK.out.trans k1 (fun _ f => f.elim)); clear k1)
        go_ret2
        rw [HRn.out]
        exact ⟨⟨_, rfl⟩, HK1.out⟩
      | some F =>
        rw [hr] at CB
        unfold rbPost at CB
        simp only at CB
        have HQ2 : Hid (ral l S (-1) p0 = apR (pol PL ++ F) (ral l (S.drop (k + 1)) (bas S (k + 1)) (p0 + szs (S.take (k + 1))))) := hideP (by rw [HQ.out, hdr, ral_s hr, apR_step, hbas, htk, Nat.add_assoc])
        have hFl : F.length = S[k].n := (rbk_back (isb_take (isb_drop HB.out _) _) hr hbk hsn.2.1).2.2.1
        have hF1 : 1 ≤ F.length ∧ F.length ≤ 16 := by omega
        have HCB := hideP CB
        have HF1 := hideP hF1
        have HNL : Hid (∀ i, (Value.slice va N vc).ownBlock = some i → i < wr.heap.size) := hideP (fun i hi => (HGp.out.own.lt i hi).2)
        have szr := HK.out.size
        clear CB hdr htk hbas hr hsn hbk HQ hFl hF1
        go_wp2_with (first
          | (go_at_call 68; refine HCB.out.mono ?_; clear HCB; rintro e W1 ⟨FL, fa, fc, hFL, rfl, hPs, hfc, ⟨hfar, -⟩, k1⟩; have HG1 := hideP (HGp.out.step k1 (fun i hi => hi.elim)); have GW := hideP HG1.out.own; have s1 := HG1.out.kept.size; have HFL := hideP hFL; have HPs := hideP hPs; have HFar := hideP hfar; obtain ⟨fl, hfl⟩ : ∃ fl, fl = FL.length := ⟨_, rfl⟩; have hf1 : 1 ≤ fl ∧ fl ≤ 16 := (by have h1 := HF1.out; rw [← hFL, pol_len] at h1; omega); obtain ⟨fb, fo, hfa, -⟩ := hPs (by intro e; rw [e] at hfl; simp at hfl; omega); subst hfa; rw [← hfl]; have HFl := hideP hfl; clear hFL hPs hfar k1 hfl)
          | (at_builtin; refine wpList_appG rfl _ _ rfl _ N (pcs PL) FL fl fb fo fc HFl.out HPs.out (by intro e; have := HFl.out; rw [e] at this; simp at this; omega) rfl GW s1 rfl (by omega) ?_; intro gb c' W5 O5 K5 A5))
        have HG5 := hideP (HG1.out.more (M := FL) O5.out K5.out A5.out (fun g hg => by
          obtain ⟨j, hj, rfl⟩ := List.getElem_of_mem hg
          obtain ⟨_, _, _, hcc⟩ := HPs.out (by intro e; rw [e] at hj; simp at hj)
          exact (hcc j hj).2.2) (fun g hg hne => by
          obtain ⟨b, off, e, h1, h2⟩ := HFar.out g hg hne
          exact ⟨b, off, e, by omega, h2, fun f => by have := HNL.out b f; omega⟩))
        go_roundw
        case rel => exact ⟨PL ++ FL, k + 1, N + fl, _, _, rfl, by go_num, by omega, by omega, HG5, hideP (by rw [HQ2.out, ← HFL.out]; simp [pol])⟩
        case measure => simp [intOf]; omega
    · have hkk : ¬ (k : Int) < (sl : Int) := by omega
      have hdr : S.drop k = [] := List.drop_of_length_le (by have := HSL.out; omega)
      have hrl : ral l S (-1) p0 = some (pol PL) := by rw [HQ.out, hdr, ral, apR, List.append_nil]
      have htt := tot_ral HB.out hrl HS.out (by omega)
      obtain ⟨hPs, hNl, hNc⟩ := HGp.out.at
      have HPs := hideP hPs
      have ht2 : tot (pol PL) ≤ 1073741824 := by have := HZ.out; omega
      have HRf : Hid (R = if tot (pol PL) = t then some (pol PL) else none) := hideP (by rw [HR.out, hrl]; rfl)
      have CP := positionsIn_any PL va vc wr.drew (hPs.kept (Kept.drewN wr 1)) (by rw [← hNl]; omega) (by omega)
      rw [← hNl] at CP
      obtain ⟨T, hT⟩ : ∃ T, T = tot (pol PL) := ⟨_, rfl⟩
      rw [← hT] at CP ht2 HRf
      have d2 := HK.out.cell c2 (fun f => f)
      have hS0 : Kept (fun _ => False) wr wr.drew := Kept.drewN wr 1
      have HN := hideP hNl
      clear hdr hrl htt HQ hPs hNl hT
      by_cases hTt : T = t
      · have eT : ((T : Int) == (t : Int)) = true := by rw [hTt]; simp
        have eT2 : (T : Int) = (t : Int) := by omega
        rw [if_pos hTt] at HRf
        clear hTt
        go_wp2_with fail
        refine wp_region_held (S := fun W' => Kept (fun _ => False) wr W') (by kernel_rfl) ?_
        change wpAnyH _ _ _ _ _ _ _ _ (World.drew _)
        refine takeZ (i := 0) (d := 28) (v := .slice va N vc) rfl rfl (by kernel_rfl) (by kernel_rfl) (by kernel_rfl) (fun _ _ _ h => h) (Or.inl ⟨by rfl, fun W hW => ?_⟩) hS0 ?_
        · (go_simp)
        simp only [Act.put, List.setIfInBounds_toArray, List.set_cons_zero, List.set_cons_succ]
        refine takeZ (i := 1) (d := 29) (v := .slice va N vc) rfl rfl (by kernel_rfl) (by kernel_rfl) (by kernel_rfl) (fun _ _ _ h => h) (Or.inl ⟨by rfl, fun W hW => ?_⟩) hS0 ?_
        · (go_simp)
        simp only [Act.put, List.setIfInBounds_toArray, List.set_cons_zero, List.set_cons_succ]
        refine takeZ (i := 3) (d := 31) (v := .pointer (some ⟨bl, 0, none⟩)) rfl rfl (by kernel_rfl) (by kernel_rfl) (by kernel_rfl) (fun _ _ _ h => h) (Or.inl ⟨by rfl, fun W hW => ?_⟩) hS0 ?_
        · (go_simp)
        simp only [Act.put, List.setIfInBounds_toArray, List.set_cons_zero, List.set_cons_succ]
        refine takeZ (i := 4) (d := 32) (v := .pointer (some ⟨bl, 0, none⟩)) rfl rfl (by kernel_rfl) (by kernel_rfl) (by kernel_rfl) (fun _ _ _ h => h) (Or.inl ⟨by rfl, fun W hW => ?_⟩) hS0 ?_
        · (go_simp)
        simp only [Act.put, List.setIfInBounds_toArray, List.set_cons_zero, List.set_cons_succ]
        refine takeZ (i := 5) (d := 33) (v := .pointer (some ⟨bl, 2, none⟩)) rfl rfl (by kernel_rfl) (by kernel_rfl) (by kernel_rfl) (fun _ _ _ h => h) (Or.inl ⟨by rfl, fun W hW => ?_⟩) hS0 ?_
        · (go_simp)
        simp only [Act.put, List.setIfInBounds_toArray, List.set_cons_zero, List.set_cons_succ]
        refine takeZ (i := 6) (d := 34) (v := .int .i64 t) rfl rfl (by kernel_rfl) (by kernel_rfl) (by kernel_rfl) (fun _ _ _ h => h) (Or.inl ⟨by rfl, fun W hW => ?_⟩) hS0 ?_
        · (have z1 := hW.cell d2 (fun f => f); go_simp)
        simp only [Act.put, List.setIfInBounds_toArray, List.set_cons_zero, List.set_cons_succ]
        refine wpAnyH_all (rs := [2]) (by kernel_rfl) (by simp) ?_
        intro i hi
        obtain rfl : i = 2 := by simpa using hi
        unfold wpOp
        go_simp
        refine Or.inl (CP.mono ?_)
        rintro e W2 ⟨rfl, k2⟩
        have hS2 := hS0.trans k2 (fun _ f => f.elim)
        refine ⟨hS2, ?_⟩
        refine takeZ (i := 7) (d := 35) (v := .bool true) rfl rfl (by kernel_rfl) (by kernel_rfl) (by kernel_rfl) (fun _ _ _ h => h) (Or.inl ⟨by rfl, fun W hW => ?_⟩) hS2 ?_
        · (first | (go_simp; done) | (go_simp; omega))
        simp only [Act.put, List.setIfInBounds_toArray, List.set_cons_zero, List.set_cons_succ]
        refine takeZ (i := 8) (d := 2) (v := .slice va N vc) rfl rfl (by kernel_rfl) (by kernel_rfl) (by kernel_rfl) (fun _ _ _ h => h) (Or.inl ⟨by rfl, fun W hW => ?_⟩) hS2 ?_
        · (go_simp)
        simp only [Act.put, List.setIfInBounds_toArray, List.set_cons_zero, List.set_cons_succ]
        refine takeZ (i := 9) (d := 3) (v := .bool true) rfl rfl (by kernel_rfl) (by kernel_rfl) (by kernel_rfl) (fun _ _ _ h => h) (Or.inl ⟨by rfl, fun W hW => ?_⟩) hS2 ?_
        · (go_simp)
        simp only [Act.put, List.setIfInBounds_toArray, List.set_cons_zero, List.set_cons_succ]
        refine wpAnyH_done (by kernel_rfl) ?_ _
        have HK2 := hideP (HK.out.trans hS2 (fun _ f => f.elim))
        have HS2 := hideP hS2
        clear hS0 hS2 k2 CP
        go_wp2
        go_ret2
        rw [HRf.out]
        exact ⟨PL, va, vc, rfl, by rw [← HN.out]; rfl, HPs.out.kept HS2.out, by rw [← HN.out]; exact hNc, HK2.out⟩
      · have eT : ((T : Int) == (t : Int)) = false := by simp; omega
        have eT2 : ¬ (T : Int) = (t : Int) := by omega
        rw [if_neg hTt] at HRf
        clear hTt
        go_wp2_with fail
        refine wp_region_held (S := fun W' => Kept (fun _ => False) wr W') (by kernel_rfl) ?_
        change wpAnyH _ _ _ _ _ _ _ _ (World.drew _)
        refine takeZ (i := 0) (d := 28) (v := .slice va N vc) rfl rfl (by kernel_rfl) (by kernel_rfl) (by kernel_rfl) (fun _ _ _ h => h) (Or.inl ⟨by rfl, fun W hW => ?_⟩) hS0 ?_
        · (go_simp)
        simp only [Act.put, List.setIfInBounds_toArray, List.set_cons_zero, List.set_cons_succ]
        refine takeZ (i := 1) (d := 29) (v := .slice va N vc) rfl rfl (by kernel_rfl) (by kernel_rfl) (by kernel_rfl) (fun _ _ _ h => h) (Or.inl ⟨by rfl, fun W hW => ?_⟩) hS0 ?_
        · (go_simp)
        simp only [Act.put, List.setIfInBounds_toArray, List.set_cons_zero, List.set_cons_succ]
        refine takeZ (i := 3) (d := 31) (v := .pointer (some ⟨bl, 0, none⟩)) rfl rfl (by kernel_rfl) (by kernel_rfl) (by kernel_rfl) (fun _ _ _ h => h) (Or.inl ⟨by rfl, fun W hW => ?_⟩) hS0 ?_
        · (go_simp)
        simp only [Act.put, List.setIfInBounds_toArray, List.set_cons_zero, List.set_cons_succ]
        refine takeZ (i := 4) (d := 32) (v := .pointer (some ⟨bl, 0, none⟩)) rfl rfl (by kernel_rfl) (by kernel_rfl) (by kernel_rfl) (fun _ _ _ h => h) (Or.inl ⟨by rfl, fun W hW => ?_⟩) hS0 ?_
        · (go_simp)
        simp only [Act.put, List.setIfInBounds_toArray, List.set_cons_zero, List.set_cons_succ]
        refine takeZ (i := 5) (d := 33) (v := .pointer (some ⟨bl, 2, none⟩)) rfl rfl (by kernel_rfl) (by kernel_rfl) (by kernel_rfl) (fun _ _ _ h => h) (Or.inl ⟨by rfl, fun W hW => ?_⟩) hS0 ?_
        · (go_simp)
        simp only [Act.put, List.setIfInBounds_toArray, List.set_cons_zero, List.set_cons_succ]
        refine takeZ (i := 6) (d := 34) (v := .int .i64 t) rfl rfl (by kernel_rfl) (by kernel_rfl) (by kernel_rfl) (fun _ _ _ h => h) (Or.inl ⟨by rfl, fun W hW => ?_⟩) hS0 ?_
        · (have z1 := hW.cell d2 (fun f => f); go_simp)
        simp only [Act.put, List.setIfInBounds_toArray, List.set_cons_zero, List.set_cons_succ]
        refine wpAnyH_all (rs := [2]) (by kernel_rfl) (by simp) ?_
        intro i hi
        obtain rfl : i = 2 := by simpa using hi
        unfold wpOp
        go_simp
        refine Or.inl (CP.mono ?_)
        rintro e W2 ⟨rfl, k2⟩
        have hS2 := hS0.trans k2 (fun _ f => f.elim)
        refine ⟨hS2, ?_⟩
        refine takeZ (i := 7) (d := 35) (v := .bool false) rfl rfl (by kernel_rfl) (by kernel_rfl) (by kernel_rfl) (fun _ _ _ h => h) (Or.inl ⟨by rfl, fun W hW => ?_⟩) hS2 ?_
        · (first | (go_simp; done) | (go_simp; omega))
        simp only [Act.put, List.setIfInBounds_toArray, List.set_cons_zero, List.set_cons_succ]
        refine takeZ (i := 8) (d := 2) (v := .slice va N vc) rfl rfl (by kernel_rfl) (by kernel_rfl) (by kernel_rfl) (fun _ _ _ h => h) (Or.inl ⟨by rfl, fun W hW => ?_⟩) hS2 ?_
        · (go_simp)
        simp only [Act.put, List.setIfInBounds_toArray, List.set_cons_zero, List.set_cons_succ]
        refine takeZ (i := 9) (d := 3) (v := .bool false) rfl rfl (by kernel_rfl) (by kernel_rfl) (by kernel_rfl) (fun _ _ _ h => h) (Or.inl ⟨by rfl, fun W hW => ?_⟩) hS2 ?_
        · (go_simp)
        simp only [Act.put, List.setIfInBounds_toArray, List.set_cons_zero, List.set_cons_succ]
        refine wpAnyH_done (by kernel_rfl) ?_ _
        have HK2 := hideP (HK.out.trans hS2 (fun _ f => f.elim))
        have HS2 := hideP hS2
        clear hS0 hS2 k2 CP
        go_wp2
        go_ret2
        rw [HRf.out]
        exact ⟨⟨_, rfl⟩, HK2.out⟩
end Go.Proofs.YtidgofpmnlddaaaGreatDoor
namespace Go.Proofs.YtidgofpmnlddaaaGreatDoor
open Go.ChangeShapes Go.WideShapes Go.ChangeAt Go.RowKit

theorem rsk_le {l : List Int} (hI : IsBytes l) : ∀ {m left : Nat} {b : Int} {p q : Nat} {S : List Sk}, rsk l m left b p = some (S, q) → p ≤ l.length → q ≤ l.length
  | 0, left, b, p, q, S, h, hp => by
    rw [rsk] at h
    injection h with h
    injection h with e1 e2
    subst e2
    exact hp
  | m + 1, left, b, p, q, S, h, hp => by
    rw [rsk] at h
    split at h
    · cases h
    · split at h
      · cases h
      · rename_i hv
        split at h
        · cases h
        · rename_i hw
          injection h with h
          injection h with e1 e2
          subst e2
          exact rsk_le hI hw (upn_back hI hv).2.1
structure HdF (l : List Int) (h : Hd) : Prop where
  pos : 0 < l.length
  fit : h.p + szs h.S ≤ l.length
  sk : ∀ s ∈ h.S, -1 ≤ s.last ∧ s.last ≤ 2147483646 ∧ 1 ≤ s.n ∧ s.n ≤ 16
  len : h.S.length = nbp h.n
  n : h.n ≤ l.length
theorem hdr_facts {l : List Int} {h : Hd} (hI : IsBytes l) (hh : hdr l = some h) : HdF l h := by
  unfold hdr at hh
  split at hh
  · cases hh
  · rename_i n q hn
    split at hh
    · cases hh
    · rename_i t r ht
      split at hh
      · cases hh
      · rename_i S p hS
        split at hh
        · rename_i hz
          injection hh with hh
          subst hh
          obtain ⟨a1, a2, a3, _⟩ := upn_back hI hn
          have hp := rsk_le hI hS (upn_back hI ht).2.1
          exact ⟨by omega, by simp only; omega, rsk_facts hS rfl (by omega), rsk_len hS, by simp only; omega⟩
        · cases hh
theorem opn_none {l : List Int} (h : hdr l = none) : opn l = none := by unfold opn; rw [h]
/-- What Decode leaves. -/
def dePost (a9 : Addr) (w : World) (e : Ending) (w' : World) : Option (List Po) → Prop
  | none => e = .returned (.tuple #[.slice none 0 0, errV a9]) ∧ Kept (fun _ => False) w w'
  | some L => ∃ (PL : List Pg) (a : Option Addr) (c : Nat), pol PL = L ∧ e = .returned (.tuple #[.slice a PL.length c, .nilIface]) ∧ PsAt w' a PL ∧ PL.length ≤ c ∧ Kept (fun _ => False) w w'
/-- What Open leaves. -/
def opPost (l : List Int) (a9 : Addr) (w : World) (e : Ending) (w' : World) : Option (List Po) → Prop
  | none => e = .returned (.tuple #[.pointer none, errV a9]) ∧ Kept (fun _ => False) w w'
  | some _ => ∃ (bl g : Nat) (h : Hd) (sa : Option Addr) (sc : Nat), e = .returned (.tuple #[.pointer (some ⟨bl, 0, none⟩), .nilIface]) ∧ hdr l = some h ∧ LsAt w' bl (some ⟨g, 0, none⟩) l.length l h.n h.t sa sc h.S h.p ∧ w.heap.size ≤ g ∧ Kept (fun _ => False) w w'
set_option maxRecDepth 20000 in
set_option maxHeartbeats 4000000 in
theorem popen_any (l : List Int) (a : Option Addr) (c : Nat) (ad : Nat → Addr) (w : World) (hA : BytesAt w a l) (hB : IsBytes l) (hl : l.length ≤ 1073741824) (hE : ErP w ad) (g9 : w.cell? ⟨9, 0, none⟩ = some (errV (ad 9))) :
    Calls Tryz.prog 26 #[.slice a l.length c] w fun e w' => opPost l (ad 9) w e w' (opn l) := by
  obtain ⟨R, hR⟩ : ∃ R, R = opn l := ⟨_, rfl⟩
  rw [← hR]
  have HR := hideP hR
  have HE := hideP hE
  have HB := hideP hB
  have HG9 := hideP g9
  have KA := Kept.alloc w (.cells #[.slice a l.length c] 26)
  have HKA := hideP KA
  have hfl : flat [(a, c, l)] = l := by simp [flat]
  have CC := concat_any [(a, c, l)] (some ⟨w.heap.size, 0, none⟩) 1 (w.alloc (.cells #[.slice a l.length c] 26)) (fun _ => ⟨w.heap.size, 0, rfl, fun k hk => by
    have hk2 : k < 1 := hk
    obtain rfl : k = 0 := by omega
    simp [Part.val]⟩) (fun q hq => by
    simp only [List.mem_cons, List.not_mem_nil, or_false] at hq
    subst hq
    exact hA.kept KA) (by simp) (by rw [hfl]; omega)
  rw [hfl] at CC
  have HCC := hideP CC
  have CH : Hid (∀ (W : World) (g : Nat), W.ownsRow (w.heap.size + 1) 5 1 (.slice (some ⟨g, 0, none⟩) l.length l.length) l.length (bs l) → ErP W ad → Calls Tryz.prog 44 #[.slice (some ⟨g, 0, none⟩) l.length l.length] W fun e w' => rhPost (some ⟨g, 0, none⟩) l.length l W e w' (hdr l)) := hideP (fun W g ho hEW => by
    obtain ⟨a', c', e', h', -⟩ := bytes_of_own ho
    simp only [Value.slice.injEq, true_and] at e'
    exact readHead_any l _ _ ad W (e'.1 ▸ h') hB hl (Nat.le_refl _) hEW)
  obtain ⟨ll, hll⟩ : ∃ ll, ll = l.length := ⟨_, rfl⟩
  have HLL := hideP hll
  rw [← hll] at HCC HKA hl CH ⊢
  have HWS : Hid ((w.alloc (.cells #[.slice a ll c] 26)).heap.size = w.heap.size + 1) := hideP (by simp)
  cases hh : hdr l with
  | none =>
    rw [hh] at CH
    have HRn : Hid (R = none) := hideP (by rw [HR.out, opn_none hh])
    clear hR hA hB hE hh g9 HR CC hfl hll KA
    go_enter Tryz.func26, Tryz.ntmps26
    go_wp2_with (first
      | (go_at_call 45; refine HCC.out.mono ?_; clear HCC; rintro e W1 ⟨rfl, ho1, k1⟩; have HK1 := hideP (HKA.out.trans k1 (fun _ f => f.elim)); (try rw [HWS.out] at ho1); have C2 := hideP (CH.out W1 _ ho1 (HE.out.kept HK1.out)); clear k1 ho1 CH)
      | (go_at_call 44; refine C2.out.mono ?_; clear C2; rintro e W2 ⟨⟨u, rfl⟩, k2⟩; have HK2 := hideP (HK1.out.trans k2 (fun _ f => f.elim)); have x9 := HK2.out.cell HG9.out (fun f => f); clear k2))
    go_quiet (fail)
    go_wp2
    go_ret2
    rw [HRn.out]
    exact ⟨rfl, HK2.out.trans (Kept.drewN W2 nq) (fun _ f => f.elim)⟩
  | some h =>
    have hF := hdr_facts hB hh
    have HHd := hideP hh
    rw [hh] at CH
    have hRe := opn_eq hh
    have hnb : h.S.length ≤ 67108865 := by rw [hF.len]; have := hF.n; unfold nbp; omega
    have CA : Hid (∀ W bl g sa sc, LsAt W bl (some ⟨g, 0, none⟩) l.length l h.n h.t sa sc h.S h.p → ErP W ad → Calls Tryz.prog 46 #[.pointer (some ⟨bl, 0, none⟩)] W fun e w' => raPost W e w' R) := hideP (fun W bl g sa sc hW hEW => by
      rw [hR, hRe]
      exact readAll_any bl _ _ l h.n h.t sa sc h.S h.p ad W hW hB hF.pos (by rw [← hll]; exact hl) hF.fit hF.sk hnb hEW)
    rw [← hll] at CA
    clear hR hA hB hE hh g9 HR CC hfl KA hRe hF hnb hll
    cases R with
    | none =>
      go_enter Tryz.func26, Tryz.ntmps26
      go_wp2_with (first
        | (go_at_call 45; refine HCC.out.mono ?_; clear HCC; rintro e W1 ⟨rfl, ho1, k1⟩; have HK1 := hideP (HKA.out.trans k1 (fun _ f => f.elim)); (try rw [HWS.out] at ho1); have C2 := hideP (CH.out W1 _ ho1 (HE.out.kept HK1.out)); clear k1 ho1 CH)
        | (go_at_call 44; refine C2.out.mono ?_; clear C2; rintro e W2 ⟨bl, sa, sc, rfl, hLs, _, k2⟩; have HK2 := hideP (HK1.out.trans k2 (fun _ f => f.elim)); have C3 := hideP (CA.out W2 bl _ sa sc hLs (HE.out.kept HK2.out)); clear k2 hLs CA)
        | (go_at_call 46; refine C3.out.mono ?_; clear C3; rintro e W3 ⟨⟨u, rfl⟩, k3⟩; have HK3 := hideP (HK2.out.trans k3 (fun _ f => f.elim)); have x9 := HK3.out.cell HG9.out (fun f => f); clear k3))
      go_quiet (fail)
      go_wp2
      go_ret2
      exact ⟨rfl, HK3.out.trans (Kept.drewN W3 nq) (fun _ f => f.elim)⟩
    | some L =>
      go_enter Tryz.func26, Tryz.ntmps26
      go_wp2_with (first
        | (go_at_call 45; refine HCC.out.mono ?_; clear HCC; rintro e W1 ⟨rfl, ho1, k1⟩; have HK1 := hideP (HKA.out.trans k1 (fun _ f => f.elim)); (try rw [HWS.out] at ho1); have C2 := hideP (CH.out W1 _ ho1 (HE.out.kept HK1.out)); have HNg := hideP (ho1.lt _ rfl).1; clear k1 ho1 CH)
        | (go_at_call 44; refine C2.out.mono ?_; clear C2; rintro e W2 ⟨bl, sa, sc, rfl, hLs, _, k2⟩; have HK2 := hideP (HK1.out.trans k2 (fun _ f => f.elim)); have C3 := hideP (CA.out W2 bl _ sa sc hLs (HE.out.kept HK2.out)); have HLs := hideP hLs; clear k2 hLs CA)
        | (go_at_call 46; refine C3.out.mono ?_; clear C3; rintro e W3 ⟨PL, pa, pc, hPL, rfl, hPs, hpc, k3⟩; have HK3 := hideP (HK2.out.trans k3 (fun _ f => f.elim)); have HL3 := hideP (HLs.out.kept k3); clear k3 hPs hPL hpc))
      go_ret2
      exact ⟨bl, _, h, sa, sc, rfl, HHd.out, by rw [← HLL.out]; exact HL3.out, Nat.le_trans (Nat.le_succ _) HNg.out, HK3.out⟩
end Go.Proofs.YtidgofpmnlddaaaGreatDoor
namespace Go.Proofs.YtidgofpmnlddaaaGreatDoor
open Go.ChangeShapes Go.WideShapes Go.ChangeAt Go.RowKit Go.Shelf
attribute [local go_sem] Oper.semAt_some

theorem PsAt.cut {w : World} {b off : Nat} {L : List Pg} (h : PsAt w (some ⟨b, off, none⟩) L) (m n : Nat) : PsAt w (some ⟨b, off + m * 2, none⟩) ((L.drop m).take n) := by
  intro hne
  have hL : L ≠ [] := by intro e; rw [e] at hne; simp at hne
  obtain ⟨b', off', e, hc⟩ := h hL
  simp only [Option.some.injEq, Addr.mk.injEq, and_true] at e
  obtain ⟨rfl, rfl⟩ := e
  refine ⟨b, off + m * 2, rfl, fun k hk => ?_⟩
  have hk2 : m + k < L.length := by rw [List.length_take, List.length_drop] at hk; omega
  have e2 : ((L.drop m).take n)[k] = L[m + k] := by rw [List.getElem_take, List.getElem_drop]
  rw [e2]
  have := hc (m + k) hk2
  rw [show off + (m + k) * 2 = off + m * 2 + k * 2 by omega] at this
  exact this
theorem PsAt.lows {w : World} {a : Option Addr} {L : List Pg} (h : PsAt w a L) (hne : L ≠ []) {b off : Nat} (ha : a = some ⟨b, off, none⟩) : b < w.heap.size := by
  obtain ⟨b', off', e, hc⟩ := h hne
  rw [ha] at e
  simp only [Option.some.injEq, Addr.mk.injEq, and_true] at e
  obtain ⟨rfl, rfl⟩ := e
  exact World.block_lt_of_cell? w _ (hc 0 (List.length_pos_iff.2 hne)).1
theorem lastd_end : ∀ {F : List Pg} {b : Int} (h : 0 < F.length), lastd b (pol F) = (F[F.length - 1]'(by omega)).d
  | [p], b, _ => rfl
  | p :: q :: F, b, _ => by
    have := lastd_end (F := q :: F) (b := p.d) (by simp)
    simp only [List.length_cons, Nat.add_sub_cancel] at this ⊢
    rw [show pol (p :: q :: F) = p.po :: pol (q :: F) by rfl, lastd]
    exact this
theorem uvb_le10P (n : Nat) (h : n < 18446744073709551616) : (uvb n).length ≤ 10 := by
  rw [uvb_length]
  exact (ulen_le n (by omega)).2
theorem blk_le {F : List Po} {b : Int} (hg : gdl b F) (hb : -1 ≤ b) (hl : F.length ≤ 16) : (blk b F).length ≤ 400 + 10 * tot F := by
  have gi := gps_ints hg hb
  have mi := mos_intsG hg
  have p1 : (packed (gps b F)).length ≤ 200 := packed_le (fun x hx => (gi x hx).1) (fun x hx => by have := gi x hx; omega) (by rw [gps_length]; exact hl)
  have p2 : (packed (mos F)).length ≤ 200 := packed_le (fun x hx => (mi x hx).1) (fun x hx => by have := mi x hx; omega) (by rw [mos_length]; exact hl)
  have p3 := psb_le (F := F) (fun p hp => (gdl_pos hg p hp).2)
  rw [blk, List.length_append, List.length_append]
  omega
theorem bkb_le : ∀ {m : Nat} {L : List Po} {b : Int}, gdl b L → -1 ≤ b → tot L ≤ 1099511627776 → (bkb b (chp m L)).length ≤ 400 * m + 10 * tot L ∧ (skb b (chp m L)).length ≤ 20 * m
  | 0, _, _, _, _, _ => ⟨Nat.zero_le _, Nat.zero_le _⟩
  | m + 1, L, b, hg, hb, ht => by
    obtain ⟨g1, g2⟩ := gdl_split hg
    have h3 := tot_append (L.take 16) (L.drop 16)
    rw [List.take_append_drop] at h3
    have q := (gdl_last _ _ g1).1
    have q2 : lastd b (L.take 16) ≤ 2147483646 ∨ L.take 16 = [] := by
      by_cases e : L.take 16 = []
      · exact .inr e
      · exact .inl ((gdl_last _ _ g1).2 e).2
    have i := bkb_le (m := m) g2 (by omega) (by omega)
    have j := blk_le g1 hb (by rw [List.length_take]; omega)
    have u1 := uvb_le10P (lastd b (L.take 16) - 1 - b).toNat (by
      rcases q2 with q2 | q2
      · omega
      · rw [q2, lastd]; omega)
    have u2 := uvb_le10P (blk b (L.take 16)).length (by omega)
    rw [chp, bkb, skb, List.length_append, List.length_append, List.length_append]
    omega
end Go.Proofs.YtidgofpmnlddaaaGreatDoor
namespace Go.Proofs.YtidgofpmnlddaaaGreatDoor
open Go.ChangeShapes Go.WideShapes Go.ChangeAt Go.RowKit Go.Shelf
attribute [local go_sem] Oper.semAt_some

structure StpP (p : Prop) : Prop where
  go : p
structure Bxs2 (p4 b2 b3 : Nat) (W : World) : Prop where
  s : W.cell? ⟨p4, 0, none⟩ = some (.pointer (some ⟨b2, 0, none⟩))
  k : W.cell? ⟨p4 + 1, 0, none⟩ = some (.pointer (some ⟨b3, 0, none⟩))
/-- What the regions of a round read. -/
structure Bxs (p4 p6 b2 b3 : Nat) (z : Int) (W : World) : Prop where
  s : W.cell? ⟨p4, 0, none⟩ = some (.pointer (some ⟨b2, 0, none⟩))
  k : W.cell? ⟨p4 + 1, 0, none⟩ = some (.pointer (some ⟨b3, 0, none⟩))
  b : W.cell? ⟨p6, 0, none⟩ = some (.int .i64 z)
theorem own_lowerP {w : World} {b b' e z n : Nat} {v : Value} {xs : List Value} (h : w.ownsRow b e z v n xs) (hb : b' ≤ b) : w.ownsRow b' e z v n xs := by
  refine ⟨h.1, ?_⟩
  rcases h.2 with hn | ⟨g, cap, cur, e1, hg, rest⟩
  · exact .inl hn
  · exact .inr ⟨g, cap, cur, e1, Nat.le_trans hb hg, rest⟩
end Go.Proofs.YtidgofpmnlddaaaGreatDoor
namespace Go.Proofs.YtidgofpmnlddaaaGreatDoor
open Go.ChangeShapes Go.WideShapes Go.ChangeAt Go.RowKit

theorem flts_step {L : List Pg} {j : Nat} (h : j < L.length) (z : Int) : flts z (pol (L.drop j)) = if flt z ⟨L[j].d, L[j].ps⟩ = 0 then flts L[j].d (pol (L.drop (j + 1))) else flt z ⟨L[j].d, L[j].ps⟩ := by
  rw [List.drop_eq_getElem_cons h]
  rfl
/-- What Encode answers. -/
def enPost (L : List Pg) (a3 a7 : Addr) (w : World) (e : Ending) (w' : World) : Prop :=
  Kept (fun _ => False) w w' ∧ ((flts (-1) (pol L) = 0 ∧ ∃ g, w.heap.size ≤ g ∧ e = .returned (.tuple #[.slice (some ⟨g, 0, none⟩) (img (pol L)).length (img (pol L)).length, .nilIface]) ∧ w'.ownsRow w.heap.size 5 1 (.slice (some ⟨g, 0, none⟩) (img (pol L)).length (img (pol L)).length) (img (pol L)).length (bs (img (pol L))))
    ∨ (flts (-1) (pol L) = 3 ∧ e = .returned (.tuple #[.slice none 0 0, errV a3])) ∨ (flts (-1) (pol L) = 7 ∧ e = .returned (.tuple #[.slice none 0 0, errV a7])))
end Go.Proofs.YtidgofpmnlddaaaGreatDoor
namespace Go.Proofs.YtidgofpmnlddaaaGreatDoor
open Go.ChangeShapes Go.WideShapes Go.ChangeAt Go.RowKit

/-- What a listed error gives: the variable's cell, the text behind its pointer, and that the block is plain. -/
structure Sent (W : World) (tp : TypeId) (g : Nat) (text : List UInt8) (a : Addr) : Prop where
  var : W.cell? ⟨g, 0, none⟩ = some (.iface tp (.pointer (some a)))
  cell : W.cell? a = some (.string ⟨⟨text⟩⟩)
  blk : ∃ c t, W.heap[a.block]? = some (.cells c t (0, 0))

theorem sent_head {P : Program} {n nm : String} {text : List UInt8} {r : List (String × DataW Unit)} {W : World} {g : Nat} {ti tp te ts : TypeId} {ms : Array (String × TypeId)} {f : Field}
    (h : laidMet P ((n, .iface nm (.ptr (.agg [.lit (.string text)]))) :: r) W)
    (hg : P.globalNamed n = some g) (ht : (P.globals[g]?).map (·.type) = some ti) (hi : P.underlying ti = some (.interface ms)) (hrow : ∀ u, P.typeName? 3 u = some nm → u = tp)
    (hp : P.underlying tp = some (.pointer te)) (he : P.underlying te = some (.struct #[f])) (hft : f.type = ts) (hfo : f.offset = 0) (hs : P.underlying ts = some .string) (hc : P.cellsOf te = 1) (hcs : P.cellsOf ts = 1) :
    ∃ a, Sent W tp g text a := by
  obtain ⟨ps, ⟨g0, t0, cs0, f0, p0, q0, hg0, ht0, hv0, hd0, _, e0⟩, _, hrows⟩ := h
  obtain rfl := Option.some.inj (hg.symm.trans hg0)
  obtain rfl := Option.some.inj (ht.symm.trans ht0)
  subst e0
  obtain ⟨l0⟩ := cs0
  have ok0 : ∀ u v, l0 = [.iface u v] → Value.okWide P W .any 0 u v := fun u v e => by
    subst e
    exact (hrows g 0 (by simp [MemPlace.row])).2 u v (by simpa using World.var?_cell hg0 hv0 0)
  obtain ⟨a0, s0, rfl, hc0, hs0, hz0, hp0⟩ := errorString_of_trod hi hrow hp he hft hfo hs hc hcs hd0 ok0
  have hs1 : s0 = ⟨⟨text⟩⟩ := by
    obtain ⟨⟨l⟩⟩ := s0
    simp at hs0
    rw [hs0]
  subst hs1
  refine ⟨a0, by simpa using World.var?_cell hg0 hv0 0, hc0, ?_⟩
  subst hp0
  exact (hrows a0.block a0.off (by simp [MemPlace.row])).1

theorem laidMet_mem {P : Program} {L : List (String × DataW Unit)} {W : World} (h : laidMet P L W) : ∀ x ∈ L, ∃ r, laidMet P (x :: r) W := by
  induction L with
  | nil => intro x hx; cases hx
  | cons y r ih =>
    intro x hx
    rcases List.mem_cons.1 hx with rfl | hx
    · exact ⟨r, h⟩
    · exact ih h.tail x hx

theorem Tryz.cellsStr : Tryz.prog.cellsOf 9 = 1 := by kernel_rfl
theorem Tryz.star : "*" ++ "errors.errorString" = "*errors.errorString" := by decide
theorem Tryz.rowErr (u : TypeId) (h : Tryz.prog.typeName? 3 u = some "*errors.errorString") : u = 163 :=
  typeName_ptr_named (nm := "errors.errorString") (by rw [Tryz.star]; kernel_rfl) (by kernel_rfl) (by decide) u (by rw [Tryz.star]; exact h)
theorem Tryz.cellsErr : Tryz.prog.cellsOf 179 = 1 := by kernel_rfl
theorem Tryz.g_ErrShort : Tryz.prog.globalNamed "concord/api.ErrShort" = some 0 := by kernel_rfl
theorem Tryz.gt_ErrShort : (Tryz.prog.globals[0]?).map (·.type) = some 33 := by kernel_rfl
theorem sent0 {W : World} {L : List (String × DataW Unit)} (h : laidMet Tryz.prog L W) (hm : ("concord/api.ErrShort", Rows.laid_concord_api_ErrShort) ∈ L) : ∃ a, Sent W 163 0 ([99, 111, 110, 99, 111, 114, 100, 58, 32, 116, 111, 111, 32, 115, 104, 111, 114, 116]) a := by
  obtain ⟨r, h⟩ := laidMet_mem h _ hm
  exact sent_head h Tryz.g_ErrShort Tryz.gt_ErrShort Tryz.underlying33 Tryz.rowErr Tryz.underlying163 Tryz.underlying179 rfl rfl Tryz.underlying9 Tryz.cellsErr Tryz.cellsStr
theorem Tryz.g_ErrVarint : Tryz.prog.globalNamed "concord/api.ErrVarint" = some 1 := by kernel_rfl
theorem Tryz.gt_ErrVarint : (Tryz.prog.globals[1]?).map (·.type) = some 33 := by kernel_rfl
theorem sent1 {W : World} {L : List (String × DataW Unit)} (h : laidMet Tryz.prog L W) (hm : ("concord/api.ErrVarint", Rows.laid_concord_api_ErrVarint) ∈ L) : ∃ a, Sent W 163 1 ([99, 111, 110, 99, 111, 114, 100, 58, 32, 118, 97, 114, 105, 110, 116]) a := by
  obtain ⟨r, h⟩ := laidMet_mem h _ hm
  exact sent_head h Tryz.g_ErrVarint Tryz.gt_ErrVarint Tryz.underlying33 Tryz.rowErr Tryz.underlying163 Tryz.underlying179 rfl rfl Tryz.underlying9 Tryz.cellsErr Tryz.cellsStr
theorem Tryz.g_ErrLimit : Tryz.prog.globalNamed "concord/api.ErrLimit" = some 2 := by kernel_rfl
theorem Tryz.gt_ErrLimit : (Tryz.prog.globals[2]?).map (·.type) = some 33 := by kernel_rfl
theorem sent2 {W : World} {L : List (String × DataW Unit)} (h : laidMet Tryz.prog L W) (hm : ("concord/api.ErrLimit", Rows.laid_concord_api_ErrLimit) ∈ L) : ∃ a, Sent W 163 2 ([99, 111, 110, 99, 111, 114, 100, 58, 32, 108, 105, 109, 105, 116]) a := by
  obtain ⟨r, h⟩ := laidMet_mem h _ hm
  exact sent_head h Tryz.g_ErrLimit Tryz.gt_ErrLimit Tryz.underlying33 Tryz.rowErr Tryz.underlying163 Tryz.underlying179 rfl rfl Tryz.underlying9 Tryz.cellsErr Tryz.cellsStr
theorem Tryz.g_ErrOrder : Tryz.prog.globalNamed "concord/api.ErrOrder" = some 3 := by kernel_rfl
theorem Tryz.gt_ErrOrder : (Tryz.prog.globals[3]?).map (·.type) = some 33 := by kernel_rfl
theorem sent3 {W : World} {L : List (String × DataW Unit)} (h : laidMet Tryz.prog L W) (hm : ("concord/api.ErrOrder", Rows.laid_concord_api_ErrOrder) ∈ L) : ∃ a, Sent W 163 3 ([99, 111, 110, 99, 111, 114, 100, 58, 32, 111, 114, 100, 101, 114]) a := by
  obtain ⟨r, h⟩ := laidMet_mem h _ hm
  exact sent_head h Tryz.g_ErrOrder Tryz.gt_ErrOrder Tryz.underlying33 Tryz.rowErr Tryz.underlying163 Tryz.underlying179 rfl rfl Tryz.underlying9 Tryz.cellsErr Tryz.cellsStr
theorem Tryz.g_ErrTail : Tryz.prog.globalNamed "concord/api.ErrTail" = some 4 := by kernel_rfl
theorem Tryz.gt_ErrTail : (Tryz.prog.globals[4]?).map (·.type) = some 33 := by kernel_rfl
theorem sent4 {W : World} {L : List (String × DataW Unit)} (h : laidMet Tryz.prog L W) (hm : ("concord/api.ErrTail", Rows.laid_concord_api_ErrTail) ∈ L) : ∃ a, Sent W 163 4 ([99, 111, 110, 99, 111, 114, 100, 58, 32, 116, 97, 105, 108]) a := by
  obtain ⟨r, h⟩ := laidMet_mem h _ hm
  exact sent_head h Tryz.g_ErrTail Tryz.gt_ErrTail Tryz.underlying33 Tryz.rowErr Tryz.underlying163 Tryz.underlying179 rfl rfl Tryz.underlying9 Tryz.cellsErr Tryz.cellsStr
theorem Tryz.g_ErrTag : Tryz.prog.globalNamed "concord/api.ErrTag" = some 5 := by kernel_rfl
theorem Tryz.gt_ErrTag : (Tryz.prog.globals[5]?).map (·.type) = some 33 := by kernel_rfl
theorem sent5 {W : World} {L : List (String × DataW Unit)} (h : laidMet Tryz.prog L W) (hm : ("concord/api.ErrTag", Rows.laid_concord_api_ErrTag) ∈ L) : ∃ a, Sent W 163 5 ([99, 111, 110, 99, 111, 114, 100, 58, 32, 116, 97, 103]) a := by
  obtain ⟨r, h⟩ := laidMet_mem h _ hm
  exact sent_head h Tryz.g_ErrTag Tryz.gt_ErrTag Tryz.underlying33 Tryz.rowErr Tryz.underlying163 Tryz.underlying179 rfl rfl Tryz.underlying9 Tryz.cellsErr Tryz.cellsStr
theorem Tryz.g_ErrSum : Tryz.prog.globalNamed "concord/api.ErrSum" = some 6 := by kernel_rfl
theorem Tryz.gt_ErrSum : (Tryz.prog.globals[6]?).map (·.type) = some 33 := by kernel_rfl
theorem sent6 {W : World} {L : List (String × DataW Unit)} (h : laidMet Tryz.prog L W) (hm : ("concord/api.ErrSum", Rows.laid_concord_api_ErrSum) ∈ L) : ∃ a, Sent W 163 6 ([99, 111, 110, 99, 111, 114, 100, 58, 32, 115, 117, 109]) a := by
  obtain ⟨r, h⟩ := laidMet_mem h _ hm
  exact sent_head h Tryz.g_ErrSum Tryz.gt_ErrSum Tryz.underlying33 Tryz.rowErr Tryz.underlying163 Tryz.underlying179 rfl rfl Tryz.underlying9 Tryz.cellsErr Tryz.cellsStr
theorem Tryz.g_ErrRange : Tryz.prog.globalNamed "concord/api.ErrRange" = some 7 := by kernel_rfl
theorem Tryz.gt_ErrRange : (Tryz.prog.globals[7]?).map (·.type) = some 33 := by kernel_rfl
theorem sent7 {W : World} {L : List (String × DataW Unit)} (h : laidMet Tryz.prog L W) (hm : ("concord/api.ErrRange", Rows.laid_concord_api_ErrRange) ∈ L) : ∃ a, Sent W 163 7 ([99, 111, 110, 99, 111, 114, 100, 58, 32, 114, 97, 110, 103, 101]) a := by
  obtain ⟨r, h⟩ := laidMet_mem h _ hm
  exact sent_head h Tryz.g_ErrRange Tryz.gt_ErrRange Tryz.underlying33 Tryz.rowErr Tryz.underlying163 Tryz.underlying179 rfl rfl Tryz.underlying9 Tryz.cellsErr Tryz.cellsStr
theorem Tryz.g_ErrSize : Tryz.prog.globalNamed "concord/api.ErrSize" = some 8 := by kernel_rfl
theorem Tryz.gt_ErrSize : (Tryz.prog.globals[8]?).map (·.type) = some 33 := by kernel_rfl
theorem sent8 {W : World} {L : List (String × DataW Unit)} (h : laidMet Tryz.prog L W) (hm : ("concord/api.ErrSize", Rows.laid_concord_api_ErrSize) ∈ L) : ∃ a, Sent W 163 8 ([99, 111, 110, 99, 111, 114, 100, 58, 32, 115, 105, 122, 101]) a := by
  obtain ⟨r, h⟩ := laidMet_mem h _ hm
  exact sent_head h Tryz.g_ErrSize Tryz.gt_ErrSize Tryz.underlying33 Tryz.rowErr Tryz.underlying163 Tryz.underlying179 rfl rfl Tryz.underlying9 Tryz.cellsErr Tryz.cellsStr
theorem Tryz.g_ErrCorrupt : Tryz.prog.globalNamed "concord/api.ErrCorrupt" = some 9 := by kernel_rfl
theorem Tryz.gt_ErrCorrupt : (Tryz.prog.globals[9]?).map (·.type) = some 33 := by kernel_rfl
theorem sent9 {W : World} {L : List (String × DataW Unit)} (h : laidMet Tryz.prog L W) (hm : ("concord/api.ErrCorrupt", Rows.laid_concord_api_ErrCorrupt) ∈ L) : ∃ a, Sent W 163 9 ([99, 111, 110, 99, 111, 114, 100, 58, 32, 99, 111, 114, 114, 117, 112, 116]) a := by
  obtain ⟨r, h⟩ := laidMet_mem h _ hm
  exact sent_head h Tryz.g_ErrCorrupt Tryz.gt_ErrCorrupt Tryz.underlying33 Tryz.rowErr Tryz.underlying163 Tryz.underlying179 rfl rfl Tryz.underlying9 Tryz.cellsErr Tryz.cellsStr
end Go.Proofs.YtidgofpmnlddaaaGreatDoor
namespace Go.Proofs.YtidgofpmnlddaaaGreatDoor
open Go.ChangeShapes Go.WideShapes Go.ChangeAt Go.RowKit

theorem Sent.kept {w w' : World} {tp : TypeId} {g : Nat} {text : List UInt8} {a : Addr} (h : Sent w tp g text a) (k : Kept (fun _ => False) w w') : Sent w' tp g text a := by
  obtain ⟨c, t, hb⟩ := h.blk
  exact ⟨k.cell h.var (fun f => f), k.cell h.cell (fun f => f), c, t, k.heap hb (fun f => f)⟩
theorem Sent.ne {w : World} {tp : TypeId} {g g' : Nat} {x y : List UInt8} {a b : Addr} (h : Sent w tp g x a) (h' : Sent w tp g' y b) (hne : x ≠ y) : a ≠ b := by
  intro e
  have h1 := h.cell
  rw [e, h'.cell] at h1
  simp at h1
  exact hne h1.symm
theorem Tryz.compErrF : (Tryz.prog.info? 163).map (·.comparable) = some true := by kernel_rfl
theorem Tryz.sizeErrF : (Tryz.prog.info? 179).map (·.size) = some 1 := by kernel_rfl
theorem errEq (W : World) (a : Addr) : (binOp .eql 33 (.iface 163 (.pointer (some a))) (.iface 163 (.pointer (some a)))).run Tryz.prog W = .ok (.bool true) W := by
  obtain ⟨i, hi, hci⟩ := Option.map_eq_some_iff.1 (show (Tryz.prog.info? 163).map (·.comparable) = some true by kernel_rfl)
  obtain ⟨j, hj, _⟩ := Option.map_eq_some_iff.1 (show (Tryz.prog.info? 179).map (·.comparable) = some true by kernel_rfl)
  exact run_eql_iface_ptr_same W a Tryz.underlying33 Tryz.underlying163 hi hci hj
theorem err_neqF {w : World} {tp : TypeId} {g g' : Nat} {x y : List UInt8} {a b : Addr} (h : Sent w tp g x a) (h' : Sent w tp g' y b) (hne : x ≠ y) :
    (binOp .eql 33 (.iface 163 (.pointer (some a))) (.iface 163 (.pointer (some b)))).run Tryz.prog w = .ok (.bool false) w := by
  obtain ⟨i, hi, hci⟩ := Option.map_eq_some_iff.1 Tryz.compErrF
  obtain ⟨j, hj, hcj⟩ := Option.map_eq_some_iff.1 Tryz.sizeErrF
  obtain ⟨c, t, ha⟩ := h.blk
  obtain ⟨c', t', hb⟩ := h'.blk
  exact run_eql_iface_ptr_other w Tryz.underlying33 Tryz.underlying163 hi hci hj (by rw [hcj]; decide) (h.ne h' hne) ha hb
def te0 : List UInt8 := [99, 111, 110, 99, 111, 114, 100, 58, 32, 116, 111, 111, 32, 115, 104, 111, 114, 116]
def te1 : List UInt8 := [99, 111, 110, 99, 111, 114, 100, 58, 32, 118, 97, 114, 105, 110, 116]
def te2 : List UInt8 := [99, 111, 110, 99, 111, 114, 100, 58, 32, 108, 105, 109, 105, 116]
def te3 : List UInt8 := [99, 111, 110, 99, 111, 114, 100, 58, 32, 111, 114, 100, 101, 114]
def te4 : List UInt8 := [99, 111, 110, 99, 111, 114, 100, 58, 32, 116, 97, 105, 108]
def te5 : List UInt8 := [99, 111, 110, 99, 111, 114, 100, 58, 32, 116, 97, 103]
def te6 : List UInt8 := [99, 111, 110, 99, 111, 114, 100, 58, 32, 115, 117, 109]
def te7 : List UInt8 := [99, 111, 110, 99, 111, 114, 100, 58, 32, 114, 97, 110, 103, 101]
def te8 : List UInt8 := [99, 111, 110, 99, 111, 114, 100, 58, 32, 115, 105, 122, 101]
def te9 : List UInt8 := [99, 111, 110, 99, 111, 114, 100, 58, 32, 99, 111, 114, 114, 117, 112, 116]
def te10 : List UInt8 := [99, 111, 110, 99, 111, 114, 100, 58, 32, 115, 99, 104, 101, 109, 97]
def te11 : List UInt8 := [99, 111, 110, 99, 111, 114, 100, 58, 32, 102, 105, 101, 108, 100]
def te12 : List UInt8 := [99, 111, 110, 99, 111, 114, 100, 58, 32, 118, 97, 108, 117, 101]
/-- The errors, as they lie. -/
structure Errs13 (w : World) (ad : Nat → Addr) : Prop where
  s0 : Sent w 163 0 te0 (ad 0)
  s1 : Sent w 163 1 te1 (ad 1)
  s2 : Sent w 163 2 te2 (ad 2)
  s3 : Sent w 163 3 te3 (ad 3)
  s4 : Sent w 163 4 te4 (ad 4)
  s5 : Sent w 163 5 te5 (ad 5)
  s6 : Sent w 163 6 te6 (ad 6)
  s7 : Sent w 163 7 te7 (ad 7)
  s8 : Sent w 163 8 te8 (ad 8)
  s9 : Sent w 163 9 te9 (ad 9)
  s10 : Sent w 163 10 te10 (ad 10)
  s11 : Sent w 163 11 te11 (ad 11)
  s12 : Sent w 163 12 te12 (ad 12)
theorem Errs13.kept {w w' : World} {ad : Nat → Addr} (h : Errs13 w ad) (k : Kept (fun _ => False) w w') : Errs13 w' ad :=
  ⟨h.s0.kept k, h.s1.kept k, h.s2.kept k, h.s3.kept k, h.s4.kept k, h.s5.kept k, h.s6.kept k, h.s7.kept k, h.s8.kept k, h.s9.kept k, h.s10.kept k, h.s11.kept k, h.s12.kept k⟩
theorem num_nil (w : World) : Calls Tryz.prog 13 #[.nilIface] w fun e w' => e = .returned (.int .i64 0) ∧ w' = w := by
  go_enter Tryz.func13, Tryz.ntmps13
  go_wp2
  go_ret
  exact ⟨rfl, rfl⟩
set_option maxRecDepth 20000 in
set_option maxHeartbeats 1000000 in
theorem num_limit {w : World} {ad : Nat → Addr} (h : Errs13 w ad) : Calls Tryz.prog 13 #[.iface 163 (.pointer (some (ad 2)))] w fun e w' => e = .returned (.int .i64 3) ∧ w' = w := by
  have v0 := h.s0.var
  have v1 := h.s1.var
  have v2 := h.s2.var
  have e0 := err_neqF h.s2 h.s0 (by decide)
  have e1 := err_neqF h.s2 h.s1 (by decide)
  have e2 := errEq w (ad 2)
  clear h
  go_enter Tryz.func13, Tryz.ntmps13
  go_wp2
  go_ret
  exact ⟨rfl, rfl⟩
set_option maxRecDepth 20000 in
set_option maxHeartbeats 1000000 in
theorem num_order {w : World} {ad : Nat → Addr} (h : Errs13 w ad) : Calls Tryz.prog 13 #[.iface 163 (.pointer (some (ad 3)))] w fun e w' => e = .returned (.int .i64 4) ∧ w' = w := by
  have v0 := h.s0.var
  have v1 := h.s1.var
  have v2 := h.s2.var
  have v3 := h.s3.var
  have e0 := err_neqF h.s3 h.s0 (by decide)
  have e1 := err_neqF h.s3 h.s1 (by decide)
  have e2 := err_neqF h.s3 h.s2 (by decide)
  have e3 := errEq w (ad 3)
  clear h
  go_enter Tryz.func13, Tryz.ntmps13
  go_wp2
  go_ret
  exact ⟨rfl, rfl⟩
set_option maxRecDepth 20000 in
set_option maxHeartbeats 1000000 in
theorem num_corrupt {w : World} {ad : Nat → Addr} (h : Errs13 w ad) : Calls Tryz.prog 13 #[.iface 163 (.pointer (some (ad 9)))] w fun e w' => e = .returned (.int .i64 10) ∧ w' = w := by
  have v0 := h.s0.var
  have v1 := h.s1.var
  have v2 := h.s2.var
  have v3 := h.s3.var
  have v4 := h.s4.var
  have v5 := h.s5.var
  have v6 := h.s6.var
  have v7 := h.s7.var
  have v8 := h.s8.var
  have v9 := h.s9.var
  have e0 := err_neqF h.s9 h.s0 (by decide)
  have e1 := err_neqF h.s9 h.s1 (by decide)
  have e2 := err_neqF h.s9 h.s2 (by decide)
  have e3 := err_neqF h.s9 h.s3 (by decide)
  have e4 := err_neqF h.s9 h.s4 (by decide)
  have e5 := err_neqF h.s9 h.s5 (by decide)
  have e6 := err_neqF h.s9 h.s6 (by decide)
  have e7 := err_neqF h.s9 h.s7 (by decide)
  have e8 := err_neqF h.s9 h.s8 (by decide)
  have e9 := errEq w (ad 9)
  clear h
  go_enter Tryz.func13, Tryz.ntmps13
  go_wp2
  go_ret
  exact ⟨rfl, rfl⟩
theorem Errs13.toP {w : World} {ad : Nat → Addr} (h : Errs13 w ad) : ErP w ad := ⟨h.s0.var, h.s1.var, h.s2.var, h.s3.var, h.s4.var⟩
set_option maxRecDepth 20000 in
set_option maxHeartbeats 1000000 in
theorem sameInts_true (l : List Int) (a b : Option Addr) (c d : Nat) (w : World) (hA : IntsAt w a l) (hB : IntsAt w b l) (hl : l.length ≤ 1099511627776) :
    Calls Tryz.prog 11 #[.slice a l.length c, .slice b l.length d] w fun e w' => e = .returned (.bool true) ∧ ∃ m, w' = w.drewN m := by
  have HA := hideP hA
  have HB := hideP hB
  obtain ⟨n, hn⟩ : ∃ n, n = l.length := ⟨_, rfl⟩
  rw [← hn] at hl ⊢
  have HN := hideP hn
  clear hA hB hn
  go_enter Tryz.func11, Tryz.ntmps11
  go_wp2
  go_loopw [13] (fun v wr => ∃ k m : Nat, v = .int .i64 k ∧ k ≤ n ∧ wr = w.drewN m) (fun v _ => n - (intOf v).toNat)
  case atStart => exact ⟨0, 0, rfl, by omega, rfl⟩
  case round =>
    obtain ⟨k, m, rfl, hk, rfl⟩ := hrel
    by_cases hlt : k < n
    · have hkk : (k : Int) < (n : Int) := by omega
      obtain ⟨ab, ao, rfl, hca⟩ := HA.out.get (k := k) (by rw [← HN.out]; exact hlt)
      obtain ⟨bb, bo, rfl, hcb⟩ := HB.out.get (k := k) (by rw [← HN.out]; exact hlt)
      generalize l[k]?.getD 0 = x at hca hcb
      go_wp2_with fail
      go_quiet (fail)
      go_wp2
      go_roundw
      case rel => exact ⟨k + 1, m + nq, by go_num, by omega, rfl⟩
      case measure => simp [intOf]; omega
    · have hkk : ¬ (k : Int) < (n : Int) := by omega
      go_wp2
      go_ret
      exact ⟨rfl, m, rfl⟩
def L0 (a b : Option Addr) : List Pg := [⟨2, a, 2, [1, 4]⟩, ⟨5, b, 1, [0]⟩]
def P0 : List Po := [⟨2, [1, 4]⟩, ⟨5, [0]⟩]
theorem pol_L0 (a b : Option Addr) : pol (L0 a b) = P0 := rfl
def B0 : List Int := [2, 3, 5, 9, 2, 2, 10, 2, 1, 1, 1, 2, 0]
theorem gdl_P0 : gdl (-1) P0 := by
  refine ⟨⟨by decide, by decide, by decide, by decide, ?_⟩, ⟨by decide, by decide, by decide, by decide, ?_⟩, trivial⟩
  · exact ⟨by decide, by decide, ⟨by decide, by decide, trivial⟩⟩
  · exact ⟨by decide, by decide, trivial⟩
theorem pk22 : packed [2, 2] = [2, 2, 10] := by
  rw [packed_eq, pbody, if_neg (by decide), uvb_small (by decide)]
  decide +kernel
theorem pk10 : packed [1, 0] = [2, 1, 1] := by
  rw [packed_eq, pbody, if_neg (by decide), uvb_small (by decide)]
  decide +kernel
theorem psb0 : psb P0 = [1, 2, 0] := by
  simp only [psb, P0, List.map_cons, List.map_nil, List.flatten_cons, List.flatten_nil, risb]
  rw [uvb_small (by decide), uvb_small (by decide), uvb_small (by decide)]
  decide
theorem blk0 : blk (-1) P0 = [2, 2, 10, 2, 1, 1, 1, 2, 0] := by
  rw [blk, psb0, show gps (-1) P0 = [2, 2] by decide, show mos P0 = [1, 0] by decide, pk22, pk10]
  rfl
theorem img_P0 : img P0 = B0 := by
  have e1 : chp (nbp P0.length) P0 = [P0] := rfl
  unfold img
  rw [e1]
  simp only [skb, bkb]
  rw [blk0, show lastd (-1) P0 = 5 by decide, show tot P0 = 3 by decide, uvb_small (by decide), uvb_small (by decide), uvb_small (by decide), uvb_small (by decide)]
  decide
end Go.Proofs.YtidgofpmnlddaaaGreatDoor
namespace Go.Proofs.YtidgofpmnlddaaaGreatDoor
open Go.ChangeShapes Go.WideShapes Go.ChangeAt Go.RowKit

/-- The errors that postings ask. -/
structure ErQ (w : World) (ad : Nat → Addr) : Prop where
  p : ErP w ad
  v7 : w.cell? ⟨7, 0, none⟩ = some (errV (ad 7))
  v9 : w.cell? ⟨9, 0, none⟩ = some (errV (ad 9))
theorem ErQ.kept {w w' : World} {ad : Nat → Addr} (h : ErQ w ad) (k : Kept (fun _ => False) w w') : ErQ w' ad := by
  constructor
  · exact h.p.kept k
  all_goals first | exact k.cell h.v9 (fun f => f) | exact k.cell h.v7 (fun f => f)
theorem Errs13.toQ {w : World} {ad : Nat → Addr} (h : Errs13 w ad) : ErQ w ad := ⟨h.toP, h.s7.var, h.s9.var⟩
theorem docs_any (bl : Nat) (ia : Option Addr) (ic : Nat) (l : List Int) (n t : Nat) (sa : Option Addr) (sc : Nat) (S : List Sk) (p0 : Nat) (w : World) (hL : LsAt w bl ia ic l n t sa sc S p0) : Calls Tryz.prog 47 #[.pointer (some ⟨bl, 0, none⟩)] w fun e w' => e = .returned (.int .i64 (n : Int)) ∧ w' = w := by
  have c1 := hL.c1
  clear hL
  go_enter Tryz.func47, Tryz.ntmps47
  go_wp2
  go_ret
  exact ⟨rfl, rfl⟩
theorem blocks_any (bl : Nat) (ia : Option Addr) (ic : Nat) (l : List Int) (n t : Nat) (sa : Option Addr) (sc : Nat) (S : List Sk) (p0 : Nat) (w : World) (hL : LsAt w bl ia ic l n t sa sc S p0) : Calls Tryz.prog 55 #[.pointer (some ⟨bl, 0, none⟩)] w fun e w' => e = .returned (.int .i64 ((S.length : Nat) : Int)) ∧ w' = w := by
  have c1 := hL.c3
  clear hL
  generalize S.length = m at *
  go_enter Tryz.func55, Tryz.ntmps55
  go_wp2
  go_ret
  exact ⟨rfl, rfl⟩
theorem neqSP (t : TypeId) (a b : ByteArray) : binOp .neq t (.string a) (.string b) = pure (.bool !(a.toList == b.toList)) := by simp [binOp, Op.stringOp]
theorem eqSP (t : TypeId) (a b : ByteArray) : binOp .eql t (.string a) (.string b) = pure (.bool (a.toList == b.toList)) := by simp [binOp, Op.stringOp]
theorem str_B0 : strOfNums B0 = ⟨#[2, 3, 5, 9, 2, 2, 10, 2, 1, 1, 1, 2, 0]⟩ := by decide +kernel
theorem opn_B0 : opn B0 = some P0 := by
  rw [← img_P0]
  exact opn_put gdl_P0 (by rw [img_P0]; decide)
theorem B0_bytes : IsBytes B0 := by rw [← img_P0]; exact img_bytes gdl_P0
theorem hdr_B0 {h : Hd} (hh : hdr B0 = some h) : h.n = 2 ∧ h.t = 3 ∧ h.S.length = 1 := by
  obtain ⟨_, _, p, h1, _⟩ := opn_back B0_bytes opn_B0
  rw [h1] at hh
  injection hh with hh
  rw [← hh]
  exact ⟨rfl, rfl, rfl⟩
end Go.Proofs.YtidgofpmnlddaaaGreatDoor
