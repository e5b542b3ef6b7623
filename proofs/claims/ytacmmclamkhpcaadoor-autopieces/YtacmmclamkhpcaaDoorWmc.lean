import Derived.Test.YtacmmclamkhpcaaDoorWmb
namespace Go.Proofs.YtacmmclamkhpcaaDoor
open Go.ChangeShapes Go.WideShapes Go.ChangeAt Go.RowKit

theorem lit_le (l : List UInt8) : (lit l).length ≤ 2 * l.length := by
  induction l with
  | nil => rw [lit_nil]; simp
  | cons c l ih =>
    rw [lit_cons, List.length_append, List.length_cons]
    have : (sp1 c).length ≤ 2 := by unfold sp1; split <;> simp
    omega
theorem elsR_le {P : List UInt8} {E : List Int} (h : elsR [] P = some E) : E.length ≤ P.length := by
  have := elsR_len P.length P [] E (Nat.le_refl _) h
  simpa using this
/-- What is known in the loop. -/
structure PcL (j : Nat) (pS sS : ByteArray) (P t : List UInt8) (E : List Int) : Prop where
  p : pS = bq P
  s : sS = bq t
  c : PcT P t E
  pl : P.length ≤ j * 121
  sl : t.length ≤ j * 120
theorem bq63 : bq [63] = ⟨#[63]⟩ := rfl
theorem bq42 : bq [42] = ⟨#[42]⟩ := rfl
set_option maxRecDepth 20000 in
set_option maxHeartbeats 8000000 in
theorem pieces_walk (K F : List (List UInt8)) (ka fa : Option Addr) (kc fc : Nat) (pa : Addr) (w : World) (hP : w.cell? ⟨1, 0, none⟩ = some (.iface 97 (.pointer (some pa)))) (hK : KsT w ka K) (hF : KsT w fa F) :
    Calls Tryd.prog 6 #[.slice ka K.length kc, .slice fa F.length fc] w fun e w' => e = .returned (.bool true) ∧ Kept (fun _ => False) w w' := by
  have CL := hideG (lives_any pa w hP)
  have HP := hideG hP
  obtain ⟨N, hN⟩ : ∃ N, N = K.length := ⟨_, rfl⟩
  obtain ⟨M, hM⟩ : ∃ M, M = F.length := ⟨_, rfl⟩
  rw [← hN, ← hM]
  have HN := hideG hN
  have HM := hideG hM
  have HKs := hideG hK
  have HFs := hideG hF
  clear hN hM hK hF hP
  by_cases hbN : 40 < N
  · have i1 : (40 : Int) < (N : Int) := by omega
    clear hbN
    go_enter Tryd.func6, Tryd.ntmps6
    go_wp2_with (go_at_call 7; refine CL.out.mono ?_; clear CL; rintro e W1 ⟨rfl, K1⟩)
    go_ret
    exact ⟨rfl, K1⟩
  by_cases hbM : 40 < M
  · have i1 : ¬ (40 : Int) < (N : Int) := by omega
    have i2 : (40 : Int) < (M : Int) := by omega
    clear hbN hbM
    go_enter Tryd.func6, Tryd.ntmps6
    go_wp2_with (go_at_call 7; refine CL.out.mono ?_; clear CL; rintro e W1 ⟨rfl, K1⟩)
    go_ret
    exact ⟨rfl, K1⟩
  have i1 : ¬ (40 : Int) < (N : Int) := by omega
  have i2 : ¬ (40 : Int) < (M : Int) := by omega
  have hN40 : N ≤ 40 := by omega
  go_enter Tryd.func6, Tryd.ntmps6
  go_wp2_with (go_at_call 7; refine CL.out.mono ?_; clear CL; rintro e W1 ⟨rfl, K1⟩; have HK1 := hideG K1; clear K1)
  go_loopw [6, 7, 33] (fun v u jj wr => ∃ (j : Nat) (pS sS : ByteArray) (P s : List UInt8) (E : List Int), j ≤ N ∧ jj = .int .i64 j ∧ v = .string pS ∧ u = .string sS ∧ Hid (PcL j pS sS P s E) ∧ Hid (Kept (fun _ => False) w wr)) (fun _ _ jj _ => N - (intOf jj).toNat)
  case atStart => exact ⟨0, _, _, [], [], [], Nat.zero_le _, rfl, rfl, rfl, hideG ⟨rfl, rfl, pct_nil, Nat.le_refl _, Nat.le_refl _⟩, HK1⟩
  case round =>
    obtain ⟨j, pS, sS, P, s, E, hj, rfl, rfl, rfl, HL, HK⟩ := hrel
    clear HK1
    by_cases hjn : j < N
    · have j1 : (j : Int) < (N : Int) := by omega
      have hjK : j < K.length := by rw [← HN.out]; exact hjn
      obtain ⟨kb, ko, rfl, hkc⟩ := (HKs.out.kept HK.out) (by intro e; rw [e] at hjK; simp at hjK)
      have y0 := hkc j hjK
      obtain ⟨l, hl⟩ : ∃ l, l = K[j]'hjK := ⟨_, rfl⟩
      rw [← hl] at y0
      have zl : (bq l).size = l.length := bq_size l
      clear hkc hl
      by_cases hlb : 60 < l.length
      · obtain ⟨sL, hsL⟩ : ∃ s, s = bq l := ⟨_, rfl⟩
        rw [← hsL] at y0 zl
        have i3 : (60 : Int) < (sL.size : Int) := by omega
        clear hsL zl
        go_wp2
        go_ret
        exact ⟨rfl, HK.out⟩
      · have CLi := hideG (fun W => literal_any l W (by omega))
        have hll := lit_le l
        obtain ⟨sL, hsL⟩ : ∃ s, s = bq l := ⟨_, rfl⟩
        obtain ⟨sT, hsT⟩ : ∃ s, s = bq (lit l) := ⟨_, rfl⟩
        have zt : sT.size ≤ 120 := by rw [hsT, bq_size]; omega
        rw [← hsL] at y0 zl CLi
        rw [← hsT] at CLi
        have i3 : ¬ (60 : Int) < (sL.size : Int) := by omega
        have zp : pS.size ≤ 4840 := by rw [HL.out.p, bq_size]; have := HL.out.pl; omega
        have zs : sS.size ≤ 4800 := by rw [HL.out.s, bq_size]; have := HL.out.sl; omega
        obtain ⟨p1, hp1⟩ : ∃ s, pS ++ sT = s := ⟨_, rfl⟩
        obtain ⟨s1, hs1⟩ : ∃ s, sS ++ sL = s := ⟨_, rfl⟩
        have e1 : p1 = bq (P ++ lit l) := by rw [← hp1, HL.out.p, hsT]; exact bq_append _ _
        have e2 : s1 = bq (s ++ l) := by rw [← hs1, HL.out.s, hsL]; exact bq_append _ _
        have HT1 := hideG (HL.out.c.lit l)
        have hpl : (P ++ lit l).length ≤ j * 121 + 120 := by rw [List.length_append]; have := HL.out.pl; omega
        have hsl : (s ++ l).length ≤ j * 120 + 60 := by rw [List.length_append]; have := HL.out.sl; omega
        have HE1 := hideG e1
        have HE2 := hideG e2
        have zp1 : p1.size ≤ 4960 := by rw [e1, bq_size]; omega
        have zs1 : s1.size ≤ 4860 := by rw [e2, bq_size]; omega
        have zl2 : sL.size ≤ 60 := by omega
        have w1 : pS.size + sT.size ≤ 9223372036854775807 := by omega
        have w2 : sS.size + sL.size ≤ 9223372036854775807 := by omega
        clear e1 e2 hsL hsT zl hll
        by_cases hjm : j < M
        · have j2 : (j : Int) < (M : Int) := by omega
          have hjF : j < F.length := by rw [← HM.out]; exact hjm
          have HFl : Hid (∀ V, Kept (fun _ => False) wr V → ∃ fb fo, fa = some ⟨fb, fo, none⟩ ∧ V.cell? ⟨fb, fo + j, none⟩ = some (.string (bq (F[j]'hjF)))) := hideG (fun V kV => by
            obtain ⟨fb, fo, e, h⟩ := (HFs.out.kept (HK.out.trans kV (fun _ f => f.elim))) (by intro e; rw [e] at hjF; simp at hjF)
            exact ⟨fb, fo, e, h j hjF⟩)
          obtain ⟨f, hf⟩ : ∃ f, f = F[j]'hjF := ⟨_, rfl⟩
          rw [← hf] at HFl
          have zf : (bq f).size = f.length := bq_size f
          obtain ⟨sF, hsF⟩ : ∃ s, s = bq f := ⟨_, rfl⟩
          rw [← hsF] at HFl zf
          clear hf
          obtain ⟨fb, fo, rfl, _⟩ := HFl.out wr (Kept.refl _ _)
          have HFc : Hid (∀ V, Kept (fun _ => False) wr V → V.cell? ⟨fb, fo + j, none⟩ = some (.string sF)) := hideG (fun V kV => by
            obtain ⟨b2, o2, e, h⟩ := HFl.out V kV
            simp only [Option.some.injEq, Addr.mk.injEq, and_true] at e
            rw [e.1, e.2]
            exact h)
          by_cases hfb : 60 < f.length
          · have i4 : (60 : Int) < (sF.size : Int) := by omega
            clear hsF zf HFl
            go_wp2_with (go_at_call 16; refine (CLi.out _).mono ?_; clear CLi; rintro e W2 ⟨rfl, K2⟩; have y1 := HFc.out W2 K2)
            go_ret
            exact ⟨rfl, HK.out.trans K2 (fun _ f => f.elim)⟩
          · have i4 : ¬ (60 : Int) < (sF.size : Int) := by omega
            have zf2 : sF.size ≤ 60 := by omega
            obtain ⟨s2, hs2⟩ : ∃ s, s1 ++ sF = s := ⟨_, rfl⟩
            have HE3 : Hid (s2 = bq ((s ++ l) ++ f)) := hideG (by rw [← hs2, HE2.out, hsF]; exact bq_append _ _)
            have w3 : s1.size + sF.size ≤ 9223372036854775807 := by omega
            by_cases hone : f.length = 1 ∧ j % 2 = 0
            · obtain ⟨c, hfc⟩ : ∃ c, f = [c] := List.length_eq_one_iff.1 hone.1
              obtain ⟨p2, hp2⟩ : ∃ s, p1 ++ (⟨#[63]⟩ : ByteArray) = s := ⟨_, rfl⟩
              have HQ : Hid (PcL (j + 1) p2 s2 ((P ++ lit l) ++ [63]) ((s ++ l) ++ f) ((E ++ lts l) ++ [256])) := hideG ⟨by rw [← hp2, HE1.out, ← bq63]; exact bq_append _ _, HE3.out, by rw [hfc]; exact HT1.out.gap c, by rw [List.length_append, List.length_singleton]; omega, by rw [List.length_append]; omega⟩
              have z1 : sF.size = 1 := by omega
              have r1 : (j : Int).tmod 2 = 0 := by rw [Int.tmod_eq_emod_of_nonneg (by omega)]; omega
              have r2 : (j : Int) % 2 = 0 := by omega
              clear hone hfc zf hsF HFl HE1 HE2 HE3 HT1 zf2 i4
              have i4 : ¬ (60 : Int) < (1 : Int) := by omega
              go_wp2_with (go_at_call 16; refine (CLi.out _).mono ?_; clear CLi; rintro e W2 ⟨rfl, K2⟩; have y1 := HFc.out W2 K2)
              go_roundw
              case rel => exact ⟨j + 1, p2, s2, _, _, _, by omega, by go_num, rfl, rfl, HQ, hideG (HK.out.trans K2 (fun _ f => f.elim))⟩
              case measure => simp [intOf]; omega
            · obtain ⟨p2, hp2⟩ : ∃ s, p1 ++ (⟨#[42]⟩ : ByteArray) = s := ⟨_, rfl⟩
              have hps : (psh (E ++ lts l) 257).length ≤ (psh (E ++ lts l) 257).length := Nat.le_refl _
              have HQ : Hid (PcL (j + 1) p2 s2 ((P ++ lit l) ++ [42]) ((s ++ l) ++ f) (psh (E ++ lts l) 257)) := hideG ⟨by rw [← hp2, HE1.out, ← bq42]; exact bq_append _ _, HE3.out, HT1.out.star f, by rw [List.length_append, List.length_singleton]; omega, by rw [List.length_append]; omega⟩
              clear hps
              by_cases hf1 : f.length = 1
              · have z1 : sF.size = 1 := by omega
                have hodd : j % 2 = 1 := by omega
                have r1 : (j : Int).tmod 2 = 1 := by rw [Int.tmod_eq_emod_of_nonneg (by omega)]; omega
                have r2 : (j : Int) % 2 = 1 := by omega
                clear hone hf1 hodd zf hsF HFl HE1 HE2 HE3 HT1 zf2 i4
                go_wp2_with (go_at_call 16; refine (CLi.out _).mono ?_; clear CLi; rintro e W2 ⟨rfl, K2⟩; have y1 := HFc.out W2 K2)
                go_roundw
                case rel => exact ⟨j + 1, p2, s2, _, _, _, by omega, by go_num, rfl, rfl, HQ, hideG (HK.out.trans K2 (fun _ f => f.elim))⟩
                case measure => simp [intOf]; omega
              · have z1 : ((sF.size : Int) == 1) = false := by simp; omega
                clear hone hf1 zf hsF HFl HE1 HE2 HE3 HT1
                go_wp2_with (go_at_call 16; refine (CLi.out _).mono ?_; clear CLi; rintro e W2 ⟨rfl, K2⟩; have y1 := HFc.out W2 K2)
                go_roundw
                case rel => exact ⟨j + 1, p2, s2, _, _, _, by omega, by go_num, rfl, rfl, HQ, hideG (HK.out.trans K2 (fun _ f => f.elim))⟩
                case measure => simp [intOf]; omega
        · have j2 : ¬ (j : Int) < (M : Int) := by omega
          have HQ : Hid (PcL (j + 1) p1 s1 (P ++ lit l) (s ++ l) (E ++ lts l)) := hideG ⟨HE1.out, HE2.out, HT1.out, by omega, by omega⟩
          clear HE1 HE2 HT1
          go_wp2_with (go_at_call 16; refine (CLi.out _).mono ?_; clear CLi; rintro e W2 ⟨rfl, K2⟩)
          go_roundw
          case rel => exact ⟨j + 1, p1, s1, _, _, _, by omega, by go_num, rfl, rfl, HQ, hideG (HK.out.trans K2 (fun _ f => f.elim))⟩
          case measure => simp [intOf]; omega
    · have j1 : ¬ (j : Int) < (N : Int) := by omega
      have hpl : P.length ≤ 4840 := by have := HL.out.pl; omega
      have hsl : s.length ≤ 4800 := by have := HL.out.sl; omega
      have hT := HL.out.c
      have zp : pS.size ≤ 4840 := by rw [HL.out.p, bq_size]; omega
      have zs : sS.size ≤ 4800 := by rw [HL.out.s, bq_size]; omega
      obtain ⟨p2, hp2⟩ : ∃ s, pS ++ (⟨#[42]⟩ : ByteArray) = s := ⟨_, rfl⟩
      obtain ⟨p3, hp3⟩ : ∃ s, pS ++ (⟨#[63]⟩ : ByteArray) = s := ⟨_, rfl⟩
      obtain ⟨s2, hs2⟩ : ∃ s, sS ++ (⟨#[120, 121, 122]⟩ : ByteArray) = s := ⟨_, rfl⟩
      obtain ⟨s3, hs3⟩ : ∃ s, sS ++ (⟨#[120]⟩ : ByteArray) = s := ⟨_, rfl⟩
      have e2 : p2 = bq (P ++ [42]) := by rw [← hp2, HL.out.p, ← bq42]; exact bq_append _ _
      have e3 : p3 = bq (P ++ [63]) := by rw [← hp3, HL.out.p, ← bq63]; exact bq_append _ _
      have e4 : s2 = bq (s ++ [120, 121, 122]) := by rw [← hs2, HL.out.s]; exact bq_append s [120, 121, 122]
      have e5 : s3 = bq (s ++ [120]) := by rw [← hs3, HL.out.s]; exact bq_append s [120]
      have MK : ∀ (Q : List UInt8) (G : List Int) (q : ByteArray), Q.length ≤ 5000 → elsR [] Q = some G → q = bq Q → Hid (∀ W, Kept (fun _ => False) w W → Calls Tryd.prog 17 #[.string q] W fun e w' => (∃ ba, e = .returned (.tuple #[.pointer (some ⟨ba, 0, none⟩), .nilIface]) ∧ AuM w' ba (nxWk G) (acW G) (nz (rch G [] 0))) ∧ Kept (fun _ => False) W w') := fun Q G q hq hG he => hideG (fun W kW => by
        have h := WildK_any Q pa W (by omega) (kW.cell HP.out (fun f => f))
        rw [hG] at h
        rw [he]
        exact h.mono (fun e w' ⟨ba, h1, h2, h3⟩ => ⟨⟨ba, h1, h2⟩, h3⟩))
      have AC : ∀ (G : List Int) (t : List UInt8) (q : ByteArray) (r : Bool), NoSS G → t.length ≤ 5000 → wm G t.reverse G.length = r → q = bq t → Hid (∀ V W ba, AuM V ba (nxWk G) (acW G) (nz (rch G [] 0)) → Kept (fun _ => False) V W → Calls Tryd.prog 11 #[.pointer (some ⟨ba, 0, none⟩), .string q] W fun e w' => e = .returned (.bool r) ∧ Kept (fun _ => False) W w') := fun G t q r hn ht hw he => hideG (fun V W ba hM kW => by
        have h := hM.acc W t kW (by omega)
        rw [accW_any hn, hw] at h
        rw [he]
        exact h)
      have M1 := MK P E pS (by omega) hT.els HL.out.p
      have M2 := MK (P ++ [42]) (psh E 257) p2 (by rw [List.length_append, List.length_singleton]; omega) (hT.star []).els e2
      have M3 := MK (P ++ [63]) (E ++ [256]) p3 (by rw [List.length_append, List.length_singleton]; omega) (hT.gap 120).els e3
      have hT2 : wm (psh E 257) s.reverse (psh E 257).length = true := by
        have h9 := (hT.star []).hit
        rw [List.append_nil] at h9
        exact h9
      have A1 := AC E s sS true hT.ok (by omega) hT.hit HL.out.s
      have A2 := AC (psh E 257) s sS true (hT.star []).ok (by omega) hT2 HL.out.s
      have A3 := AC (psh E 257) (s ++ [120, 121, 122]) s2 true (hT.star []).ok (by rw [List.length_append]; simp; omega) (hT.star [120, 121, 122]).hit e4
      have A4 := AC (E ++ [256]) (s ++ [120]) s3 true (hT.gap 120).ok (by rw [List.length_append]; simp; omega) (hT.gap 120).hit e5
      have A5 := AC (E ++ [256]) [] ⟨#[]⟩ false (hT.gap 120).ok (by simp) (wm_gap0 E) rfl
      generalize nz (rch E [] 0) = S1 at *
      generalize nz (rch (psh E 257) [] 0) = S2 at *
      generalize nz (rch (E ++ [256]) [] 0) = S3 at *
      generalize nxWk E = n1 at *
      generalize acW E = a1 at *
      generalize nxWk (psh E 257) = n2 at *
      generalize acW (psh E 257) = a2 at *
      generalize nxWk (E ++ [256]) = n3 at *
      generalize acW (E ++ [256]) = a3 at *
      clear MK AC e2 e3 e4 e5 hT HL HKs HFs
      go_wp2_with (first
        | (go_at_call 17; refine (M1.out _ HK.out).mono ?_; clear M1; rintro e W2 ⟨⟨b1, rfl, h1⟩, K2⟩; have H1 := hideG h1; have HK2 := hideG (HK.out.trans K2 (fun _ f => f.elim)); clear h1 K2)
        | (go_at_call 17; refine (M2.out _ HK2.out).mono ?_; clear M2; rintro e W3 ⟨⟨b2, rfl, h2⟩, K3⟩; have H2 := hideG h2; have H1b := hideG (H1.out.kept K3); have HK3 := hideG (HK2.out.trans K3 (fun _ f => f.elim)); clear h2 K3 H1)
        | (go_at_call 17; refine (M3.out _ HK3.out).mono ?_; clear M3; rintro e W4 ⟨⟨b3, rfl, h3⟩, K4⟩; have H3 := hideG h3; have H1c := hideG (H1b.out.kept K4); have H2b := hideG (H2.out.kept K4); have HK4 := hideG (HK3.out.trans K4 (fun _ f => f.elim)); clear h3 K4 H1b H2)
        | (go_at_call 11; refine (A1.out W4 W4 b1 H1c.out (Kept.refl _ _)).mono ?_; clear A1; rintro e W5 ⟨rfl, K5⟩; have HK5 := hideG K5; clear K5)
        | (go_at_call 11; refine (A2.out W4 W5 b2 H2b.out HK5.out).mono ?_; clear A2; rintro e W6 ⟨rfl, K6⟩; have HK6 := hideG (HK5.out.trans K6 (fun _ f => f.elim)); clear K6)
        | (go_at_call 11; refine (A3.out W4 W6 b2 H2b.out HK6.out).mono ?_; clear A3; rintro e W7 ⟨rfl, K7⟩; have HK7 := hideG (HK6.out.trans K7 (fun _ f => f.elim)); clear K7)
        | (go_at_call 11; refine (A4.out W4 W7 b3 H3.out HK7.out).mono ?_; clear A4; rintro e W8 ⟨rfl, K8⟩; have HK8 := hideG (HK7.out.trans K8 (fun _ f => f.elim)); clear K8)
        | (go_at_call 11; refine (A5.out W4 W8 b3 H3.out HK8.out).mono ?_; clear A5; rintro e W9 ⟨rfl, K9⟩; have HK9 := hideG (HK8.out.trans K9 (fun _ f => f.elim)); clear K9))
      go_ret
      exact ⟨rfl, HK4.out.trans HK9.out (fun _ f => f.elim)⟩
end Go.Proofs.YtacmmclamkhpcaaDoor
