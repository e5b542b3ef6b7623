import Derived.Test.YtbdhmibiggpomaaDoorPor
namespace Go.Proofs.YtbdhmibiggpomaaDoor
open Go.ChangeShapes Go.WideShapes Go.ChangeAt Go.RowKit

theorem rsk_le {l : List Int} (hI : IsBytes l) : ∀ {m left : Nat} {b : Int} {p q : Nat} {S : List Sk}, rsk l m left b p = some (S, q) → p ≤ l.length → q ≤ l.length
  | 0, left, b, p, q, S, h, hp => by
    rw [rsk] at h
    injection h with h
    injection h with e1 e2
    subst e2
    exact hp
  | m + 1, left, b, p, q, S, h, hp => by
    rw [rsk] at h
    split at h
    · cases h
    · split at h
      · cases h
      · rename_i hv
        split at h
        · cases h
        · rename_i hw
          injection h with h
          injection h with e1 e2
          subst e2
          exact rsk_le hI hw (upn_back hI hv).2.1
structure HdF (l : List Int) (h : Hd) : Prop where
  pos : 0 < l.length
  fit : h.p + szs h.S ≤ l.length
  sk : ∀ s ∈ h.S, -1 ≤ s.last ∧ s.last ≤ 2147483646 ∧ 1 ≤ s.n ∧ s.n ≤ 16
  len : h.S.length = nbp h.n
  n : h.n ≤ l.length
theorem hdr_facts {l : List Int} {h : Hd} (hI : IsBytes l) (hh : hdr l = some h) : HdF l h := by
  unfold hdr at hh
  split at hh
  · cases hh
  · rename_i n q hn
    split at hh
    · cases hh
    · rename_i t r ht
      split at hh
      · cases hh
      · rename_i S p hS
        split at hh
        · rename_i hz
          injection hh with hh
          subst hh
          obtain ⟨a1, a2, a3, _⟩ := upn_back hI hn
          have hp := rsk_le hI hS (upn_back hI ht).2.1
          exact ⟨by omega, by simp only; omega, rsk_facts hS rfl (by omega), rsk_len hS, by simp only; omega⟩
        · cases hh
theorem opn_none {l : List Int} (h : hdr l = none) : opn l = none := by unfold opn; rw [h]
/-- What Decode leaves. -/
def dePost (a9 : Addr) (w : World) (e : Ending) (w' : World) : Option (List Po) → Prop
  | none => e = .returned (.tuple #[.slice none 0 0, errV a9]) ∧ Kept (fun _ => False) w w'
  | some L => ∃ (PL : List Pg) (a : Option Addr) (c : Nat), pol PL = L ∧ e = .returned (.tuple #[.slice a PL.length c, .nilIface]) ∧ PsAt w' a PL ∧ PL.length ≤ c ∧ Kept (fun _ => False) w w'
set_option maxRecDepth 20000 in
set_option maxHeartbeats 4000000 in
theorem pdecode_any (l : List Int) (a : Option Addr) (c : Nat) (ad : Nat → Addr) (w : World) (hA : BytesAt w a l) (hB : IsBytes l) (hl : l.length ≤ 1073741824) (hc : l.length ≤ c) (hE : ErP w ad) (g9 : w.cell? ⟨0, 0, none⟩ = some (errV (ad 9))) :
    Calls Tryd.prog 6 #[.slice a l.length c] w fun e w' => dePost (ad 9) w e w' (opn l) := by
  obtain ⟨R, hR⟩ : ∃ R, R = opn l := ⟨_, rfl⟩
  rw [← hR]
  have HR := hideP hR
  have CH := readHead_any l a c ad w hA hB hl hc hE
  have HE := hideP hE
  have HB := hideP hB
  have HG9 := hideP g9
  cases hh : hdr l with
  | none =>
    rw [hh] at CH
    have HCH := hideP CH
    have HRn : Hid (R = none) := hideP (by rw [HR.out, opn_none hh])
    generalize l.length = ll at *
    clear hR CH hA hB hE hh g9 HR
    go_enter Tryd.func6, Tryd.ntmps6
    go_wp2_with (go_at_call 22; refine HCH.out.mono ?_; clear HCH; rintro e W1 ⟨⟨u, rfl⟩, k1⟩; have HK1 := hideP k1; have x9 := k1.cell HG9.out (fun f => f); clear k1)
    go_quiet (fail)
    go_wp2
    go_ret2
    rw [HRn.out]
    exact ⟨rfl, HK1.out.trans (Kept.drewN W1 nq) (fun _ f => f.elim)⟩
  | some h =>
    have hF := hdr_facts hB hh
    rw [hh] at CH
    have HCH := hideP CH
    have hRe := opn_eq hh
    have hnb : h.S.length ≤ 67108865 := by rw [hF.len]; have := hF.n; unfold nbp; omega
    have CA : Hid (∀ W bl sa sc, LsAt W bl a c l h.n h.t sa sc h.S h.p → ErP W ad → Calls Tryd.prog 23 #[.pointer (some ⟨bl, 0, none⟩)] W fun e w' => raPost W e w' R) := hideP (fun W bl sa sc hW hEW => by
      rw [hR, hRe]
      exact readAll_any bl a c l h.n h.t sa sc h.S h.p ad W hW hB hF.pos hl hF.fit hF.sk hnb hEW)
    generalize hll : l.length = ll at *
    clear hR CH hA hB hE hh g9 HR hRe hF hnb hll
    cases R with
    | none =>
      go_enter Tryd.func6, Tryd.ntmps6
      go_wp2_with (first
        | (go_at_call 22; refine HCH.out.mono ?_; clear HCH; rintro e W1 ⟨bl, sa, sc, rfl, hLs, _, k1⟩; have HK1 := hideP k1; have C2 := hideP (CA.out W1 bl sa sc hLs (HE.out.kept k1)); clear k1 hLs CA)
        | (go_at_call 23; refine C2.out.mono ?_; clear C2; rintro e W2 ⟨⟨u, rfl⟩, k2⟩; have HK2 := hideP (HK1.out.trans k2 (fun _ f => f.elim)); have x9 := HK2.out.cell HG9.out (fun f => f); clear k2))
      go_quiet (fail)
      go_wp2
      go_ret2
      exact ⟨rfl, HK2.out.trans (Kept.drewN W2 nq) (fun _ f => f.elim)⟩
    | some L =>
      go_enter Tryd.func6, Tryd.ntmps6
      go_wp2_with (first
        | (go_at_call 22; refine HCH.out.mono ?_; clear HCH; rintro e W1 ⟨bl, sa, sc, rfl, hLs, _, k1⟩; have HK1 := hideP k1; have C2 := hideP (CA.out W1 bl sa sc hLs (HE.out.kept k1)); clear k1 hLs CA)
        | (go_at_call 23; refine C2.out.mono ?_; clear C2; rintro e W2 ⟨PL, pa, pc, hPL, rfl, hPs, hpc, k2⟩; have HK2 := hideP (HK1.out.trans k2 (fun _ f => f.elim)); have HPs := hideP hPs; have HPL := hideP hPL; have HPc := hideP hpc; clear k2 hPs hPL hpc))
      go_ret2
      exact ⟨PL, pa, pc, HPL.out, rfl, HPs.out, HPc.out, HK2.out⟩
/-- What Open leaves. -/
def opPost (l : List Int) (a9 : Addr) (w : World) (e : Ending) (w' : World) : Option (List Po) → Prop
  | none => e = .returned (.tuple #[.pointer none, errV a9]) ∧ Kept (fun _ => False) w w'
  | some _ => ∃ (bl g : Nat) (h : Hd) (sa : Option Addr) (sc : Nat), e = .returned (.tuple #[.pointer (some ⟨bl, 0, none⟩), .nilIface]) ∧ hdr l = some h ∧ LsAt w' bl (some ⟨g, 0, none⟩) l.length l h.n h.t sa sc h.S h.p ∧ w.heap.size ≤ g ∧ Kept (fun _ => False) w w'
set_option maxRecDepth 20000 in
set_option maxHeartbeats 4000000 in
theorem popen_any (l : List Int) (a : Option Addr) (c : Nat) (ad : Nat → Addr) (w : World) (hA : BytesAt w a l) (hB : IsBytes l) (hl : l.length ≤ 1073741824) (hE : ErP w ad) (g9 : w.cell? ⟨0, 0, none⟩ = some (errV (ad 9))) :
    Calls Tryd.prog 10 #[.slice a l.length c] w fun e w' => opPost l (ad 9) w e w' (opn l) := by
  obtain ⟨R, hR⟩ : ∃ R, R = opn l := ⟨_, rfl⟩
  rw [← hR]
  have HR := hideP hR
  have HE := hideP hE
  have HB := hideP hB
  have HG9 := hideP g9
  have KA := Kept.alloc w (.cells #[.slice a l.length c] 22)
  have HKA := hideP KA
  have hfl : flat [(a, c, l)] = l := by simp [flat]
  have CC := concat_any [(a, c, l)] (some ⟨w.heap.size, 0, none⟩) 1 (w.alloc (.cells #[.slice a l.length c] 22)) (fun _ => ⟨w.heap.size, 0, rfl, fun k hk => by
    have hk2 : k < 1 := hk
    obtain rfl : k = 0 := by omega
    simp [Part.val]⟩) (fun q hq => by
    simp only [List.mem_cons, List.not_mem_nil, or_false] at hq
    subst hq
    exact hA.kept KA) (by simp) (by rw [hfl]; omega)
  rw [hfl] at CC
  have HCC := hideP CC
  have CH : Hid (∀ (W : World) (g : Nat), W.ownsRow (w.heap.size + 1) 5 1 (.slice (some ⟨g, 0, none⟩) l.length l.length) l.length (bs l) → ErP W ad → Calls Tryd.prog 22 #[.slice (some ⟨g, 0, none⟩) l.length l.length] W fun e w' => rhPost (some ⟨g, 0, none⟩) l.length l W e w' (hdr l)) := hideP (fun W g ho hEW => by
    obtain ⟨a', c', e', h', -⟩ := bytes_of_own ho
    simp only [Value.slice.injEq, true_and] at e'
    exact readHead_any l _ _ ad W (e'.1 ▸ h') hB hl (Nat.le_refl _) hEW)
  obtain ⟨ll, hll⟩ : ∃ ll, ll = l.length := ⟨_, rfl⟩
  have HLL := hideP hll
  rw [← hll] at HCC HKA hl CH ⊢
  have HWS : Hid ((w.alloc (.cells #[.slice a ll c] 22)).heap.size = w.heap.size + 1) := hideP (by simp)
  cases hh : hdr l with
  | none =>
    rw [hh] at CH
    have HRn : Hid (R = none) := hideP (by rw [HR.out, opn_none hh])
    clear hR hA hB hE hh g9 HR CC hfl hll KA
    go_enter Tryd.func10, Tryd.ntmps10
    go_wp2_with (first
      | (go_at_call 28; refine HCC.out.mono ?_; clear HCC; rintro e W1 ⟨rfl, ho1, k1⟩; have HK1 := hideP (HKA.out.trans k1 (fun _ f => f.elim)); (try rw [HWS.out] at ho1); have C2 := hideP (CH.out W1 _ ho1 (HE.out.kept HK1.out)); clear k1 ho1 CH)
      | (go_at_call 22; refine C2.out.mono ?_; clear C2; rintro e W2 ⟨⟨u, rfl⟩, k2⟩; have HK2 := hideP (HK1.out.trans k2 (fun _ f => f.elim)); have x9 := HK2.out.cell HG9.out (fun f => f); clear k2))
    go_quiet (fail)
    go_wp2
    go_ret2
    rw [HRn.out]
    exact ⟨rfl, HK2.out.trans (Kept.drewN W2 nq) (fun _ f => f.elim)⟩
  | some h =>
    have hF := hdr_facts hB hh
    have HHd := hideP hh
    rw [hh] at CH
    have hRe := opn_eq hh
    have hnb : h.S.length ≤ 67108865 := by rw [hF.len]; have := hF.n; unfold nbp; omega
    have CA : Hid (∀ W bl g sa sc, LsAt W bl (some ⟨g, 0, none⟩) l.length l h.n h.t sa sc h.S h.p → ErP W ad → Calls Tryd.prog 23 #[.pointer (some ⟨bl, 0, none⟩)] W fun e w' => raPost W e w' R) := hideP (fun W bl g sa sc hW hEW => by
      rw [hR, hRe]
      exact readAll_any bl _ _ l h.n h.t sa sc h.S h.p ad W hW hB hF.pos (by rw [← hll]; exact hl) hF.fit hF.sk hnb hEW)
    rw [← hll] at CA
    clear hR hA hB hE hh g9 HR CC hfl KA hRe hF hnb hll
    cases R with
    | none =>
      go_enter Tryd.func10, Tryd.ntmps10
      go_wp2_with (first
        | (go_at_call 28; refine HCC.out.mono ?_; clear HCC; rintro e W1 ⟨rfl, ho1, k1⟩; have HK1 := hideP (HKA.out.trans k1 (fun _ f => f.elim)); (try rw [HWS.out] at ho1); have C2 := hideP (CH.out W1 _ ho1 (HE.out.kept HK1.out)); clear k1 ho1 CH)
        | (go_at_call 22; refine C2.out.mono ?_; clear C2; rintro e W2 ⟨bl, sa, sc, rfl, hLs, _, k2⟩; have HK2 := hideP (HK1.out.trans k2 (fun _ f => f.elim)); have C3 := hideP (CA.out W2 bl _ sa sc hLs (HE.out.kept HK2.out)); clear k2 hLs CA)
        | (go_at_call 23; refine C3.out.mono ?_; clear C3; rintro e W3 ⟨⟨u, rfl⟩, k3⟩; have HK3 := hideP (HK2.out.trans k3 (fun _ f => f.elim)); have x9 := HK3.out.cell HG9.out (fun f => f); clear k3))
      go_quiet (fail)
      go_wp2
      go_ret2
      exact ⟨rfl, HK3.out.trans (Kept.drewN W3 nq) (fun _ f => f.elim)⟩
    | some L =>
      go_enter Tryd.func10, Tryd.ntmps10
      go_wp2_with (first
        | (go_at_call 28; refine HCC.out.mono ?_; clear HCC; rintro e W1 ⟨rfl, ho1, k1⟩; have HK1 := hideP (HKA.out.trans k1 (fun _ f => f.elim)); (try rw [HWS.out] at ho1); have C2 := hideP (CH.out W1 _ ho1 (HE.out.kept HK1.out)); have HNg := hideP (ho1.lt _ rfl).1; clear k1 ho1 CH)
        | (go_at_call 22; refine C2.out.mono ?_; clear C2; rintro e W2 ⟨bl, sa, sc, rfl, hLs, _, k2⟩; have HK2 := hideP (HK1.out.trans k2 (fun _ f => f.elim)); have C3 := hideP (CA.out W2 bl _ sa sc hLs (HE.out.kept HK2.out)); have HLs := hideP hLs; clear k2 hLs CA)
        | (go_at_call 23; refine C3.out.mono ?_; clear C3; rintro e W3 ⟨PL, pa, pc, hPL, rfl, hPs, hpc, k3⟩; have HK3 := hideP (HK2.out.trans k3 (fun _ f => f.elim)); have HL3 := hideP (HLs.out.kept k3); clear k3 hPs hPL hpc))
      go_ret2
      exact ⟨bl, _, h, sa, sc, rfl, HHd.out, by rw [← HLL.out]; exact HL3.out, Nat.le_trans (Nat.le_succ _) HNg.out, HK3.out⟩
end Go.Proofs.YtbdhmibiggpomaaDoor
