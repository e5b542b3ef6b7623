import Derived.Test.YtohnkamobmkhkaaDoorMrg8
namespace Go.Proofs.YtohnkamobmkhkaaDoor
open Go.ChangeShapes Go.WideShapes Go.ChangeAt Go.RowKit

/-- A list of bools that came in. -/
def BlAt (w : World) (a : Option Addr) (l : List Bool) : Prop := l ≠ [] → ∃ b off, a = some ⟨b, off, none⟩ ∧ ∀ k, k < l.length → w.cell? ⟨b, off + k, none⟩ = some (.bool (l[k]?.getD false))
set_option maxRecDepth 20000 in
set_option maxHeartbeats 16000000 in
theorem way_walk (p : Pg) (B : List Bool) (aA aC aN aD aO aT : Option Addr) (cA cC cN cD cO cT : Nat) (ad : Nat → Addr) (w : World) (hP : PgAt w p aA aC aN aD aO) (hO : p.Ok) (hB : BlAt w aT B) (hBl : B.length ≤ 67108864) (hE : VN w ad) :
    Calls Tryd.prog 6 #[.agg #[.slice aA p.av.length cA, .slice aC p.cu.length cC, .slice aN p.nr.length cN, .bool p.al, .slice aD p.dr.length cD, .slice aO p.co.length cO], .slice aT B.length cT] w fun e w' => e = .returned (.bool true) ∧ Kept (fun _ => False) w w' := by
  have KA := Kept.alloc w (.cells #[.slice aA p.av.length cA, .slice aC p.cu.length cC, .slice aN p.nr.length cN, .bool p.al, .slice aD p.dr.length cD, .slice aO p.co.length cO] 27)
  have HBX : Hid ((w.alloc (.cells #[.slice aA p.av.length cA, .slice aC p.cu.length cC, .slice aN p.nr.length cN, .bool p.al, .slice aD p.dr.length cD, .slice aO p.co.length cO] 27)).heap[w.heap.size]? = some (.cells #[.slice aA p.av.length cA, .slice aC p.cu.length cC, .slice aN p.nr.length cN, .bool p.al, .slice aD p.dr.length cD, .slice aO p.co.length cO] 27 (0, 0))) := hideI (heap_alloc_new w _)
  obtain ⟨V, hV⟩ : ∃ V, V = w.alloc (.cells #[.slice aA p.av.length cA, .slice aC p.cu.length cC, .slice aN p.nr.length cN, .bool p.al, .slice aD p.dr.length cD, .slice aO p.co.length cO] 27) := ⟨_, rfl⟩
  rw [← hV] at KA HBX
  have HP := hideI (hP.kept KA)
  have HE := hideI (hE.kept KA)
  have HKA := hideI KA
  have HO := hideI hO
  have HBA := hideI hB
  have HB6 := fun (W : World) (K : Kept (fun _ => False) V W) => hideI (box6 (K.heap HBX.out (fun f => f)))
  have HFX := hideI (fixed_any ad V HE.out)
  have HCK := fun (W : World) (K : Kept (fun _ => False) V W) => hideI (check_any p aA aC aN aD aO cA cC cN cD cO (ad 0) (ad 1) (ad 20) W (HP.out.kept K) HO.out (HE.out.kept K).ve)
  have HHT := fun (W : World) (K : Kept (fun _ => False) V W) => hideI (heights_any p aA aC aN aD aO cA cC cN cD cO (ad 0) (ad 1) (ad 20) W (HP.out.kept K) HO.out (HE.out.kept K).ve)
  have HDC := fun (W : World) (K : Kept (fun _ => False) V W) => hideI (decode_any p.co aO cO (ad 0) (ad 1) (ad 20) W (HP.out.kept K).co HO.out.co (by have := HO.out.len; omega) (HE.out.kept K).ve.e (HE.out.kept K).o)
  obtain ⟨nT, hnT⟩ : ∃ nT, nT = B.length := ⟨_, rfl⟩
  have HNT := hideI hnT
  rw [← hnT] at hBl ⊢
  clear hP hE KA hO hB hnT
  by_cases hv : ∃ L, Vok p L
  · obtain ⟨L, hv⟩ := hv
    have HV := hideI hv
    obtain ⟨n, hn⟩ : ∃ n, n = L.length := ⟨_, rfl⟩
    have HN := hideI hn
    obtain ⟨M, hM⟩ : ∃ M, M = mxL (hL L) := ⟨_, rfl⟩
    have HM := hideI hM
    obtain ⟨f1, f2, f3⟩ := dcI_form p.co.length p.co L (Nat.le_refl _) HO.out.co hv.dc
    have HLO := hideI f2
    have HLX : Hid (∀ x ∈ L, 0 ≤ x.op ∧ x.op < 17) := hideI (fun x hx => isO_iff.1 (okI_isO (f3 x hx)))
    have hl27 : n ≤ 67108864 := by
      have q1 := ibL_ge L
      rw [f1] at q1
      have q2 := HO.out.len
      omega
    have hn0 : 1 ≤ n := by rw [hn]; exact hv.gd.en.1
    have hne : ((n : Int) == 0) = false := by rw [beq_eq_false_iff_ne]; omega
    have hne2 : ((n : Int) != (n : Int)) = false := by simp
    subst hV
    clear hn hM f1 f2 f3 hv
    go_enter Tryd.func6, Tryd.ntmps6
    go_wp2_with (first
      | (go_at_call 8; refine HFX.out.mono ?_; clear HFX; rintro e W1 ⟨rfl, K1⟩; have HK1 := hideI K1; have HC := HCK W1 K1; obtain ⟨z0, z1, z2, z3, z4, z5⟩ := (HB6 W1 K1).out; clear K1 HCK)
      | (go_at_call 10; refine HC.out.mono ?_; clear HC; rintro e W2 ⟨h, -, K2⟩; have he := h L HV.out; rw [← HN.out, ← HM.out] at he; subst he; have KP := Kept.alloc W2 (.cells #[.int .i64 (n : Nat), .int .i64 M] 31); have HK2 := hideI ((HK1.out.trans K2 (fun _ f => f.elim)).trans KP (fun _ f => f.elim)); have HPX := hideI (heap_alloc_new W2 (.cells #[.int .i64 (n : Nat), .int .i64 M] 31 (0, 0))); have HH := HHT _ HK2.out; obtain ⟨y0, y1, y2, y3, y4, y5⟩ := (HB6 _ HK2.out).out; clear h K2 KP HHT)
      | (go_at_call 12; refine HH.out.mono ?_; clear HH; rintro e W3 ⟨h, -, K3⟩; obtain ⟨aH, cH, he, hg⟩ := h L HV.out; rw [← HN.out] at he hg; subst he; have HK3 := hideI (HK2.out.trans K3 (fun _ f => f.elim)); have HPX3 := hideI (K3.heap HPX.out (fun f => f)); have HI3 := hideI (gro_ints hg (by rw [hL_len]; exact HN.out)); have HD := HDC _ HK3.out; obtain ⟨s0, s1, s2, s3, s4, s5⟩ := (HB6 _ HK3.out).out; clear h K3 hg HDC HPX)
      | (go_at_call 18; refine HD.out.mono ?_; clear HD; rintro e W4 ⟨-, h, K4⟩; obtain ⟨aL, cL, he, ho⟩ := h L HV.out.dc; rw [← HN.out] at he; subst he; have HK4 := hideI (HK3.out.trans K4 (fun _ f => f.elim)); have HPX4 := hideI (K4.heap HPX3.out (fun f => f)); have HI4 := hideI (HI3.out.keptI K4); have HL4 := hideI (ins_of_own ho); obtain ⟨⟨p0, p1⟩, -⟩ := pf_cells HPX4.out; clear h K4 ho HPX3 HI3))
    clear p0 p1
    go_loopw [10, 11, 12, 13] (fun v10 v11 v12 v13 wr => ∃ (i t s : Nat), i < n ∧ v10 = .int .i64 i ∧ v11 = .int .i64 (hA L i : Nat) ∧ v12 = .int .i64 t ∧ v13 = .int .i64 s ∧ Hid (s ≤ i ∧ t ≤ s) ∧ Hid (Kept (fun _ => False) W4 wr)) (fun _ _ _ v13 _ => n - (intOf v13).toNat)
    case atStart => exact ⟨0, 0, 0, hn0, rfl, rfl, rfl, rfl, hideI ⟨Nat.le_refl _, Nat.le_refl _⟩, hideI (Kept.refl _ _)⟩
    case round =>
      obtain ⟨i, t, s, hi, rfl, rfl, rfl, rfl, HST, HK⟩ := hrel
      obtain ⟨hst1, hst2⟩ := HST.out
      obtain ⟨⟨p0, p1⟩, -⟩ := pf_cells (HK.out.heap HPX4.out (fun f => f))
      have hil : i < L.length := by rw [← HN.out]; exact hi
      have hii : (i : Int) < (n : Int) := by omega
      have hss : (s : Int) < (n : Int) := by omega
      obtain ⟨b, off, ea, hc⟩ := HL4.out (by intro e; rw [e] at hil; simp at hil)
      obtain ⟨x0, x1, x2⟩ := hc i hil
      subst ea
      have y0 := HK.out.cell x0 (fun f => f)
      have y1 := HK.out.cell x1 (fun f => f)
      have y2 := HK.out.cell x2 (fun f => f)
      obtain ⟨hb, ho, eh, q⟩ := HI4.out.get (k := i) (by rw [hL_len]; exact hil)
      rw [hL_at L hil, Option.getD_some] at q
      subst eh
      have q := HK.out.cell q (fun f => f)
      have hle : ¬ ((hA L i : Nat) : Int) > M := by
        have := mx_ge (hL L) (hA L i : Nat) (by rw [List.mem_iff_getElem]; exact ⟨i, by rw [hL_len]; exact hil, hL_get L _⟩)
        rw [← HM.out] at this; omega
      have hh0 : hA L i ≤ i := hA_le L i
      have HEN : Hid (L[i].op = 0 → hA L i = 1) := hideI (fun e => by
        have e1 := (HV.out.gd.en.2 i hil).1 e
        have e2 := HV.out.gd.one
        rw [← e1] at e2
        exact e2)
      have HNX : Hid (L[i].op ≠ 0 → i + 1 < n ∧ StpOk p L[i] (hA L i) ∧ hA L i + 1 - tkN L[i] = hA L (i + 1)) := hideI (fun e => ⟨by
        have := mt (HV.out.gd.en.2 i hil).2 e; have := HN.out; omega, gd_stp HV.out.gd hil e, (hA_next hil).symm⟩)
      have HSK : Hid ((L[i].op = 15 ∨ L[i].op = 16) → i + 1 + L[i].a < n ∧ hA L (i + 1 + L[i].a) = hA L (i + 1)) := hideI (fun e => by rw [HN.out]; exact gd_skip HV.out.gd hil e)
      have hxo := HLX.out L[i] (List.getElem_mem hil)
      have hxk := HLO.out L[i] (List.getElem_mem hil)
      generalize L[i] = x at *
      have HKx := hideI (HK.out.trans (Kept.alloc wr (.cells #[.int .i64 x.op, .int .u64 (x.a : Int), .int .u64 (x.b : Int)] 56)) (fun _ f => f.elim))
      have HSP := hideI (step_any p x (hA L i) (.slice aA p.av.length cA) (.slice aC p.cu.length cC) (.slice aN p.nr.length cN) (.bool p.al) (.slice aD p.dr.length cD) (.slice aO p.co.length cO) aA aC aN cA cC cN (wr.alloc (.cells #[.int .i64 x.op, .int .u64 (x.a : Int), .int .u64 (x.b : Int)] 56)) rfl rfl rfl HO.out hxk hxo (by omega) true)
      have HBN := hideI (heap_alloc_new wr (.cells #[.int .i64 x.op, .int .u64 (x.a : Int), .int .u64 (x.b : Int)] 56 (0, 0)))
      obtain ⟨t0, t1, t2, t3, t4, t5⟩ := (HB6 _ (HK4.out.trans HKx.out (fun _ f => f.elim))).out
      obtain ⟨op, xa, xb⟩ := x
      simp only at y0 y1 y2 HEN HNX HSK HKx HSP HBN hxo hxk t0 t1 t2 t3 t4 t5
      clear x0 x1 x2 hc
      by_cases h0 : op = 0
      · have h1 := HEN.out h0
        subst h0
        rw [h1] at q hle ⊢
        clear HEN HNX HSK HSP
        have hq0 : (((1 : Nat) : Int) != ((1 : Nat) : Int)) = false := by simp
        go_wp2
        go_ret
        exact ⟨rfl, (HKA.out.trans HK4.out (fun _ f => f.elim)).trans HKx.out (fun _ f => f.elim)⟩
      · obtain ⟨n1, n2, n3⟩ := HNX.out h0
        have HSP2 := hideI (HSP.out ⟨fun _ => n2, fun _ => trivial⟩)
        have h0b : (op == 0) = false := by rw [beq_eq_false_iff_ne]; exact h0
        have HN3 := hideI n3
        clear HSP HNX HEN n2 n3
        by_cases hsk : op = 15 ∨ op = 16
        · obtain ⟨k1, k2⟩ := HSK.out hsk
          have HK2x := hideI k2
          have hop : (op == 15) = true ∧ op = 15 ∨ (op == 15) = false ∧ (op == 16) = true ∧ op = 16 := by
            rcases hsk with rfl | rfl
            · exact .inl ⟨rfl, rfl⟩
            · exact .inr ⟨rfl, rfl, rfl⟩
          have g1 : IntKind.u64.wrap (n : Int) = (n : Int) := by rw [IntKind.wrap_u64]; omega
          have g2 : ¬ (xa : Int) > (n : Int) := by omega
          have g3 : IntKind.i64.wrap (xa : Int) = (xa : Int) := by rw [IntKind.wrap_i64]; omega
          clear hsk k2 HSK
          by_cases htn : t < nT
          · have htl : t < B.length := by rw [← HNT.out]; exact htn
            have hti : (t : Int) < (nT : Int) := by omega
            obtain ⟨tb, to, et, tq⟩ := HBA.out (by intro e; rw [e] at htl; simp at htl)
            have tq := (((HKA.out.trans HK4.out (fun _ f => f.elim)).trans HKx.out (fun _ f => f.elim))).cell (tq t htl) (fun f => f)
            obtain ⟨bv, hbv⟩ : ∃ bv, bv = B[t]?.getD false := ⟨_, rfl⟩
            rw [← hbv] at tq
            clear hbv
            subst et
            cases bv with
            | true =>
              rcases hop with ⟨o1, rfl⟩ | ⟨o1, o2, rfl⟩
              all_goals
                go_wp2_with (go_at_call 21; refine HSP2.out.mono ?_; clear HSP2; rintro e W5 ⟨⟨z, rfl, hz⟩, K5⟩; have hz := hz rfl; subst hz; have HK5 := hideI (HKx.out.trans K5 (fun _ f => f.elim)); obtain ⟨w0, w1, w2⟩ := bin3 (K5.heap HBN.out (fun f => f)); have tq5 := K5.cell tq (fun f => f); clear K5)
                go_roundw
                case rel => exact ⟨i + 1 + xa, t + 1, s + 1, k1, by go_num, by rw [HN3.out, HK2x.out], by go_num, by go_num, hideI ⟨by omega, by omega⟩, HK5⟩
                case measure => simp [intOf]; omega
            | false =>
              rcases hop with ⟨o1, rfl⟩ | ⟨o1, o2, rfl⟩
              all_goals
                go_wp2_with (go_at_call 21; refine HSP2.out.mono ?_; clear HSP2; rintro e W5 ⟨⟨z, rfl, hz⟩, K5⟩; have hz := hz rfl; subst hz; have HK5 := hideI (HKx.out.trans K5 (fun _ f => f.elim)); obtain ⟨w0, w1, w2⟩ := bin3 (K5.heap HBN.out (fun f => f)); have tq5 := K5.cell tq (fun f => f); clear K5)
                go_roundw
                case rel => exact ⟨i + 1, t + 1, s + 1, n1, by go_num, by rw [HN3.out], by go_num, by go_num, hideI ⟨by omega, by omega⟩, HK5⟩
                case measure => simp [intOf]; omega
          · have hti : ¬ (t : Int) < (nT : Int) := by omega
            rcases hop with ⟨o1, rfl⟩ | ⟨o1, o2, rfl⟩
            all_goals
              go_wp2_with (go_at_call 21; refine HSP2.out.mono ?_; clear HSP2; rintro e W5 ⟨⟨z, rfl, hz⟩, K5⟩; have hz := hz rfl; subst hz; have HK5 := hideI (HKx.out.trans K5 (fun _ f => f.elim)); obtain ⟨w0, w1, w2⟩ := bin3 (K5.heap HBN.out (fun f => f)); clear K5)
              go_roundw
              case rel => exact ⟨i + 1, t + 1, s + 1, n1, by go_num, by rw [HN3.out], by go_num, by go_num, hideI ⟨by omega, by omega⟩, HK5⟩
              case measure => simp [intOf]; omega
        · have o1 : (op == 15) = false := by rw [beq_eq_false_iff_ne]; exact fun e => hsk (.inl e)
          have o2 : (op == 16) = false := by rw [beq_eq_false_iff_ne]; exact fun e => hsk (.inr e)
          have o3 : ¬ op = 15 := fun e => hsk (.inl e)
          have o4 : ¬ op = 16 := fun e => hsk (.inr e)
          clear hsk HSK
          go_wp2_with (go_at_call 21; refine HSP2.out.mono ?_; clear HSP2; rintro e W5 ⟨⟨z, rfl, hz⟩, K5⟩; have hz := hz rfl; subst hz; have HK5 := hideI (HKx.out.trans K5 (fun _ f => f.elim)); obtain ⟨w0, w1, w2⟩ := bin3 (K5.heap HBN.out (fun f => f)); clear K5)
          go_roundw
          case rel => exact ⟨i + 1, t, s + 1, n1, by go_num, by rw [HN3.out], rfl, by go_num, hideI ⟨by omega, by omega⟩, HK5⟩
          case measure => simp [intOf]; omega
  · have HV := hideI hv
    subst hV
    clear HHT HDC hv
    go_enter Tryd.func6, Tryd.ntmps6
    go_wp2_with (first
      | (go_at_call 8; refine HFX.out.mono ?_; clear HFX; rintro e W1 ⟨rfl, K1⟩; have HK1 := hideI K1; have HC := HCK W1 K1; obtain ⟨z0, z1, z2, z3, z4, z5⟩ := (HB6 W1 K1).out; clear K1 HCK HB6)
      | (go_at_call 10; refine HC.out.mono ?_; clear HC; rintro e W2 ⟨-, h, K2⟩; have he := h HV.out; unfold errV at he; subst he; have HK2 := hideI ((HK1.out.trans K2 (fun _ f => f.elim)).trans (Kept.alloc W2 (.cells #[.int .i64 0, .int .i64 0] 31)) (fun _ f => f.elim)); clear h K2))
    go_ret
    exact ⟨rfl, HKA.out.trans HK2.out (fun _ f => f.elim)⟩
end Go.Proofs.YtohnkamobmkhkaaDoor
