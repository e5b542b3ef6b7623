import Derived.Test.YtdklkpbadopkaaaDoorIzo
namespace Go.Proofs.YtdklkpbadopkaaaDoor
open Go.ChangeShapes Go.WideShapes Go.ChangeAt Go.RowKit

theorem tx_len {p : Pg} (h : p.Ok) {m : List In} (hm : ibL m = p.co) (hO : ∀ x ∈ m, x.Ok) (i j k : Nat) : (lnB avW (tnl p.av) ++ cuL (p.cu.take i) ++ nrL (p.nr.take j) ++ evL p.al ++ drL p.dr ++ cdL (m.take k)).length ≤ 10000000000 := by
  have h1 := lnB_len avW (tnl p.av) (tnl_le h.av)
  have h2 := h.cuLen i
  have h3 := h.nrLen j
  have h4 := evL_len p.al
  have h5 := drL_len h.dr
  have h6 := cdL_len m hO k
  have h7 := dcI_count m
  have h8 := h.sz
  rw [hm] at h7
  rw [tnl_len] at h1
  unfold psz at h8
  simp only [List.length_append, avW, List.length_cons, List.length_nil] at *
  omega
theorem avW_data : (⟨#[97, 118, 103, 115]⟩ : ByteArray).data.toList = avW := rfl
theorem cells6 {W : World} {g : Nat} {x0 x1 x2 x3 x4 x5 : Value} {t : TypeId} (z : W.heap[g]? = some (.cells #[x0, x1, x2, x3, x4, x5] t (0, 0))) : W.cell? ⟨g, 0, none⟩ = some x0 ∧ W.cell? ⟨g, 1, none⟩ = some x1 ∧ W.cell? ⟨g, 2, none⟩ = some x2 ∧ W.cell? ⟨g, 3, none⟩ = some x3 ∧ W.cell? ⟨g, 4, none⟩ = some x4 ∧ W.cell? ⟨g, 5, none⟩ = some x5 := by
  refine ⟨?_, ?_, ?_, ?_, ?_, ?_⟩ <;> simp [World.cell?, z]
set_option maxRecDepth 20000 in
set_option maxHeartbeats 8000000 in
/-- Text at a program that can't be listed. -/
theorem text_bad (p : Pg) (aA aC aN aD aO : Option Addr) (cA cC cN cD cO : Nat) (a0 a1 ac : Addr) (w : World) (hP : PgAt w p aA aC aN aD aO) (hO : p.Ok) (hE : Ew w a0 a1 ac) (hT : OpT w) (hb : dcI p.co = none ∨ gdT p = false) :
    Calls Tryd.prog 8 #[.agg #[.slice aA p.av.length cA, .slice aC p.cu.length cC, .slice aN p.nr.length cN, .bool p.al, .slice aD p.dr.length cD, .slice aO p.co.length cO]] w fun e w' => e = .returned (.tuple #[.string ⟨#[]⟩, errV ac]) ∧ Kept (fun _ => False) w w' := by
  have KA := Kept.alloc w (.cells #[.slice aA p.av.length cA, .slice aC p.cu.length cC, .slice aN p.nr.length cN, .bool p.al, .slice aD p.dr.length cD, .slice aO p.co.length cO] 27)
  have HBX : Hid ((w.alloc (.cells #[.slice aA p.av.length cA, .slice aC p.cu.length cC, .slice aN p.nr.length cN, .bool p.al, .slice aD p.dr.length cD, .slice aO p.co.length cO] 27)).heap[w.heap.size]? = some (.cells #[.slice aA p.av.length cA, .slice aC p.cu.length cC, .slice aN p.nr.length cN, .bool p.al, .slice aD p.dr.length cD, .slice aO p.co.length cO] 27 (0, 0))) := hideI (heap_alloc_new w _)
  obtain ⟨l1, l2, l3, l4, l5⟩ := hO.len
  have HD := hideI (decode_any p.co aO cO a0 a1 ac _ (hP.kept KA).co hO.co (by omega) (hE.kept KA) (hT.kept KA))
  have HPx := hideI (hP.kept KA)
  have HEx := hideI (hE.kept KA)
  have HO := hideI hO
  have HKA := hideI KA
  have HBD := hideI hb
  clear hP hO hE hT KA hb
  cases hd : dcI p.co with
  | none =>
    rw [hd] at HD
    clear hd
    go_enter Tryd.func8, Tryd.ntmps8
    go_wp2_with (go_at_call 14; refine HD.out.mono ?_; clear HD; rintro e W1 ⟨h1, -, K1⟩; have h1e := h1 rfl; subst h1e; unfold errV; have e1 := K1.cell HEx.out.gc (fun f => f); unfold errV at e1; have HK1 := hideI (HKA.out.trans K1 (fun _ f => f.elim)); clear h1 K1)
    go_region
    all_goals go_wp2
    all_goals go_ret2
    all_goals exact ⟨rfl, HK1.out.trans (Kept.drew _) (fun _ f => f.elim)⟩
  | some m =>
    have hgd : gdT p = false := by rcases HBD.out with h | h; (rw [hd] at h; cases h); exact h
    rw [hd] at HD
    have HGd := fun W (k : Kept (fun _ => False) (w.alloc (.cells #[.slice aA p.av.length cA, .slice aC p.cu.length cC, .slice aN p.nr.length cN, .bool p.al, .slice aD p.dr.length cD, .slice aO p.co.length cO] 27)) W) => hideI (good_any p aA aC aN aD aO cA cC cN cD cO W (HPx.out.kept k) HO.out)
    rw [hgd] at HGd
    clear hd hgd
    go_enter Tryd.func8, Tryd.ntmps8
    go_wp2_with (first
      | (go_at_call 14; refine HD.out.mono ?_; clear HD; rintro e W1 ⟨-, h1, K1⟩; obtain ⟨a', c', h1e, -⟩ := h1 m rfl; subst h1e; have HK1 := hideI K1; obtain ⟨y0, y1, y2, y3, y4, y5⟩ := cells6 (K1.heap HBX.out (fun f => f)); clear h1 K1)
      | (go_at_call 15; refine (HGd _ HK1.out).out.mono ?_; clear HGd; rintro e W2 ⟨rfl, K2⟩; have HK2 := hideI ((HKA.out.trans HK1.out (fun _ f => f.elim)).trans K2 (fun _ f => f.elim)); have e2 := (HK1.out.trans K2 (fun _ f => f.elim)).cell HEx.out.gc (fun f => f); unfold errV at e2; clear K2))
    go_region
    all_goals go_wp2
    all_goals go_ret2
    all_goals exact ⟨rfl, HK2.out.trans (Kept.drew _) (fun _ f => f.elim)⟩
theorem Pw.lt {w : World} (h : Pw w) : 26 < w.heap.size := by
  unfold Pw Lib.TabIs World.var? at h
  rw [Tryd.gPw] at h
  simp only [Option.bind_some] at h
  cases hh : w.heap[26]? with
  | none => rw [hh] at h; simp at h
  | some o => exact lt_of_block hh
set_option maxRecDepth 20000 in
set_option maxHeartbeats 16000000 in
/-- Text at a program that can be listed. -/
theorem text_good (p : Pg) (m : List In) (aA aC aN aD aO : Option Addr) (cA cC cN cD cO : Nat) (a0 a1 ac : Addr) (w : World) (hP : PgAt w p aA aC aN aD aO) (hO : p.Ok) (hE : Ew w a0 a1 ac) (hT : OpT w) (hW : Pw w) (hd : dcI p.co = some m) (hgd : gdT p = true) :
    Calls Tryd.prog 8 #[.agg #[.slice aA p.av.length cA, .slice aC p.cu.length cC, .slice aN p.nr.length cN, .bool p.al, .slice aD p.dr.length cD, .slice aO p.co.length cO]] w fun e w' => e = .returned (.tuple #[.string ⟨(txt p m).toArray⟩, .nilIface]) ∧ Kept (fun _ => False) w w' := by
  have KA := Kept.alloc w (.cells #[.slice aA p.av.length cA, .slice aC p.cu.length cC, .slice aN p.nr.length cN, .bool p.al, .slice aD p.dr.length cD, .slice aO p.co.length cO] 27)
  have HBX : Hid ((w.alloc (.cells #[.slice aA p.av.length cA, .slice aC p.cu.length cC, .slice aN p.nr.length cN, .bool p.al, .slice aD p.dr.length cD, .slice aO p.co.length cO] 27)).heap[w.heap.size]? = some (.cells #[.slice aA p.av.length cA, .slice aC p.cu.length cC, .slice aN p.nr.length cN, .bool p.al, .slice aD p.dr.length cD, .slice aO p.co.length cO] 27 (0, 0))) := hideI (heap_alloc_new w _)
  obtain ⟨l1, l2, l3, l4, l5⟩ := hO.len
  have HD := hideI (decode_any p.co aO cO a0 a1 ac _ (hP.kept KA).co hO.co (by omega) (hE.kept KA) (hT.kept KA))
  rw [hd] at HD
  have HGd := fun W (k : Kept (fun _ => False) (w.alloc (.cells #[.slice aA p.av.length cA, .slice aC p.cu.length cC, .slice aN p.nr.length cN, .bool p.al, .slice aD p.dr.length cD, .slice aO p.co.length cO] 27)) W) => hideI (good_any p aA aC aN aD aO cA cC cN cD cO W ((hP.kept KA).kept k) hO)
  rw [hgd] at HGd
  have HPx := hideI (hP.kept KA)
  have HTx := hideI (hT.kept KA)
  have HWx := hideI (hW.kept KA)
  have hgP := hW.lt
  have hgT := hT.lt
  have HO := hideI hO
  have HKA := hideI KA
  obtain ⟨hi1, hi2, hi3⟩ := dcI_form _ p.co m (Nat.le_refl _) hO.co hd
  have HM1 := hideI hi1
  have HM2 := hideI hi2
  have HM3 := hideI hi3
  have hml : m.length ≤ 67108864 := by have := dcI_count m; rw [hi1] at this; omega
  have HTL := hideI (fun i j k => tx_len hO hi1 hi2 i j k)
  obtain ⟨⟨⟨q1, q2⟩, q3⟩, q4⟩ : ((hbl p.av = false ∧ hbl p.dr = false) ∧ p.cu.all gdL = true) ∧ p.nr.all gdN = true := by simpa [gdT] using hgd
  have HQ1 := hideI (nz_tnl q1)
  have HQ2 := hideI (nz_tnl q2)
  have HQ3 := hideI (List.all_eq_true.1 q3)
  have HQ4 := hideI (List.all_eq_true.1 q4)
  have HTX : Hid (txt p m = lnB avW (tnl p.av) ++ cuL p.cu ++ nrL p.nr ++ evL p.al ++ drL p.dr ++ cdL m) := hideI rfl
  generalize txt p m = TX at *
  clear hP hO hE hT hW KA hd hgd hi1 hi2 hi3 q1 q2 q3 q4
  obtain ⟨nM, hnM⟩ : ∃ n, n = m.length := ⟨_, rfl⟩
  have HNM := hideI hnM
  rw [← hnM] at hml
  obtain ⟨nC, hnC⟩ : ∃ n, n = p.cu.length := ⟨_, rfl⟩
  have HNC := hideI hnC
  obtain ⟨nN, hnN⟩ : ∃ n, n = p.nr.length := ⟨_, rfl⟩
  have HNN := hideI hnN
  go_enter Tryd.func8, Tryd.ntmps8
  go_wp2_with (first
    | (go_at_call 14; refine HD.out.mono ?_; clear HD; rintro e W1 ⟨-, h1, K1⟩; obtain ⟨a', c', h1e, hown⟩ := h1 m rfl; subst h1e; have HK1 := hideI K1; have HIn1 := hideI (ins_of_own hown); obtain ⟨y0, y1, y2, y3, y4, y5⟩ := cells6 (K1.heap HBX.out (fun f => f)); clear h1 K1 hown)
    | (go_at_call 15; refine (HGd _ HK1.out).out.mono ?_; clear HGd; rintro e W2 ⟨rfl, K2⟩; have HKb := hideI (HK1.out.trans K2 (fun _ f => f.elim)); have HI2 := hideI (HIn1.out.kept K2 (fun _ _ f => f)); have HX2 := hideI (HKb.out.heap HBX.out (fun f => f)); obtain ⟨y0, y1, y2, y3, y4, y5⟩ := cells6 ((Kept.alloc W2 (.cells #[.pointer none, .slice none 0 0] 56)).heap HX2.out (fun f => f)); have HP2 := hideI (HPx.out.kept HKb.out); have HT2 := hideI (HTx.out.kept HKb.out); have HW2 := hideI (HWx.out.kept HKb.out); have HKw := hideI (HKA.out.trans HKb.out (fun _ f => f.elim)); have hs2 := HKw.out.size; have HKn := hideI (Kept.alloc W2 (.cells #[.pointer none, .slice none 0 0] 56)); have HBn := hideI (new_writer W2); have hLn := line_any ⟨#[97, 118, 103, 115]⟩ (tnl p.av) aA cA (by rw [HQ1.out]; exact (HP2.out.kept HKn.out).av) (tnl_le HO.out.av) (fun hn q e => by have := ints_lt HP2.out.av (by intro h0; rw [h0] at hn; exact hn rfl) e; exact this) HBn.out (by rw [tnl_len]; show 0 + 4 + _ + 40 ≤ _; omega) (HW2.out.kept HKn.out) (by omega); rw [tnl_len] at hLn; have HLn := hideI hLn; clear hLn K2 HIn1)
    | (go_at_call 16; refine HLn.out.mono ?_; clear HLn; rintro e W4 ⟨rfl, p4, v4, hB4, K4⟩; have HB4 : Hid (Bw W4 W2.heap.size p4 v4 (lnB avW (tnl p.av))) := hideI hB4; have HK4 := hideI (bgK HKn.out K4 (Nat.le_refl _)); have HX4 := hideI (HK4.out.heap HX2.out (fun f => f)); obtain ⟨y0, y1, y2, y3, y4, y5⟩ := cells6 HX4.out; clear hB4 K4))
  rw [← hnC]
  rw [← hnC] at l3
  rw [← hnN] at l4
  clear HK1 HKb HPx HTx HWx HKA HBX HKn HBn y0 y1 y2 y3 y4 y5 hnC hnN hnM
  obtain ⟨b, hb⟩ : ∃ b, b = W2.heap.size := ⟨_, rfl⟩
  have HBQ := hideI hb
  rw [← hb] at HB4 hs2 ⊢
  clear hb
  go_loopw [33] (fun v33 wr => ∃ (j : Nat) (pp vv : Value), j ≤ nC ∧ v33 = .int .i64 j ∧ Hid (Bw wr b pp vv (lnB avW (tnl p.av) ++ cuL (p.cu.take j))) ∧ Hid (Kept (fun _ => False) W2 wr)) (fun v33 _ => nC - (intOf v33).toNat)
  case atStart => exact ⟨0, _, v4, by omega, rfl, hideI (by simpa [cuL] using HB4.out), HK4⟩
  case round =>
    obtain ⟨j, pp, vv, hj, rfl, HB, HK⟩ := hrel
    by_cases hlt : j < nC
    · have hjl : j < p.cu.length := by rw [← HNC.out]; exact hlt
      have hji : (j : Int) < (nC : Int) := by omega
      obtain ⟨fb, fo, ea, hc⟩ := HP2.out.cu (by intro e; rw [e] at hjl; simp at hjl)
      obtain ⟨x0, x1⟩ := hc j hjl
      subst ea
      have z0 := HK.out.cell x0 (fun f => f)
      have z1 := HK.out.cell x1 (fun f => f)
      clear x0 x1
      have hf0 : 0 ≤ p.cu[j].f := by have := HQ3.out p.cu[j] (List.getElem_mem hjl); simpa [gdL] using this
      have hf1 := (HO.out.cu p.cu[j] (List.getElem_mem hjl)).2
      have HSN : Hid (cuL (p.cu.take (j + 1)) = cuL (p.cu.take j) ++ cuB p.cu[j].f.toNat p.cu[j].t.data.toList) := hideI (flI_snoc hjl)
      have htl := HTL.out j 0 0
      have hts : p.cu[j].t.size + 1 ≤ 67108864 := by
        have h1 := sum_mem (fun c : Lf => c.t.size + 1) p.cu p.cu[j] (List.getElem_mem hjl)
        have h2 := HO.out.sz
        unfold psz at h2
        omega
      generalize p.cu[j] = c at *
      obtain ⟨f, t⟩ := c
      simp only at z0 z1 hf0 hf1 HSN hts
      obtain ⟨k, rfl⟩ : ∃ k : Nat, f = k := ⟨f.toNat, by omega⟩
      have HKx := hideI (Kept.alloc wr (.cells #[.int .i64 (k : Int), .string t] 59))
      have HCu := hideI (cursor_any k (by omega) t (HB.out.later HKx.out) (by simp only [List.length_append] at htl ⊢; omega) (HW2.out.kept (HK.out.trans HKx.out (fun _ f => f.elim))) (by omega))
      clear hc htl hf0 hf1
      go_wp2_with (go_at_call 17; refine HCu.out.mono ?_; clear HCu; rintro e W5 ⟨rfl, p5, v5, hB5, K5⟩; have HB5 := hideI hB5; have HK5 := hideI (bgK (HK.out.trans HKx.out (fun _ f => f.elim)) K5 (by rw [← HBQ.out]; exact Nat.le_refl _)); clear hB5 K5)
      go_roundw
      case rel => exact ⟨j + 1, _, _, hlt, by go_num, hideI (by rw [HSN.out]; simpa [List.append_assoc] using HB5.out), HK5⟩
      case measure => simp [intOf]; omega
    · obtain rfl : j = nC := by omega
      have hTk : p.cu.take j = p.cu := List.take_of_length_le (by rw [HNC.out]; exact Nat.le_refl _)
      rw [hTk] at HB
      have HX5 := hideI (HK.out.heap HX2.out (fun f => f))
      obtain ⟨y0, y1, y2, y3, y4, y5⟩ := cells6 HX5.out
      rw [← HNN.out] at y2
      obtain ⟨V1, hV1⟩ : ∃ V1, V1 = wr := ⟨_, rfl⟩
      rw [← hV1] at y2 HK HB ⊢
      clear y0 y1 y3 y4 y5 HX5 hV1
      go_wp2
      go_loopw [43] (fun v43 wr => ∃ (i : Nat) (pp vv : Value), i ≤ nN ∧ v43 = .int .i64 i ∧ Hid (Bw wr b pp vv (lnB avW (tnl p.av) ++ cuL p.cu ++ nrL (p.nr.take i))) ∧ Hid (Kept (fun _ => False) W2 wr)) (fun v43 _ => nN - (intOf v43).toNat)
      case atStart => exact ⟨0, _, vv, by omega, rfl, hideI (by simpa [nrL] using HB.out), HK⟩
      case round =>
        obtain ⟨i, pp2, vv2, hi, rfl, HBb, HKk⟩ := hrel
        by_cases hlt2 : i < nN
        · have hil : i < p.nr.length := by rw [← HNN.out]; exact hlt2
          have hii : (i : Int) < (nN : Int) := by omega
          obtain ⟨fb, fo, ea, hc⟩ := HP2.out.nr (by intro e; rw [e] at hil; simp at hil)
          obtain ⟨g1, c1, g2, c2, x0, x1, x2, i1, i2⟩ := hc i hil
          subst ea
          have z0 := HKk.out.cell x0 (fun f => f)
          have z1 := HKk.out.cell x1 (fun f => f)
          have z2 := HKk.out.cell x2 (fun f => f)
          clear x0 x1 x2
          have hgn := HQ4.out p.nr[i] (List.getElem_mem hil)
          obtain ⟨o1, o2, o3, o4⟩ := HO.out.nr p.nr[i] (List.getElem_mem hil)
          have HSN : Hid (nrL (p.nr.take (i + 1)) = nrL (p.nr.take i) ++ nrB p.nr[i].sl.toNat (tnl p.nr[i].cs) (tnl p.nr[i].os)) := hideI (flI_snoc hil)
          have htl := HTL.out p.cu.length i 0
          rw [List.take_length] at htl
          have hnl := HO.out.nlen (List.getElem_mem hil)
          generalize p.nr[i] = nn at *
          obtain ⟨cs, os, sl⟩ := nn
          simp only at z0 z1 z2 i1 i2 HSN hnl o1 o2 o3 o4
          obtain ⟨⟨⟨r1, r2⟩, r3⟩, r4⟩ : ((0 ≤ sl ∧ hbl cs = false) ∧ hbl os = false) ∧ cs.length = os.length := by simpa [gdN] using hgn
          obtain ⟨k, rfl⟩ : ∃ k : Nat, sl = k := ⟨sl.toNat, by omega⟩
          rw [← r4] at z1
          have HKx := hideI (Kept.alloc wr (.cells #[.slice g1 cs.length c1, .slice g2 cs.length c2, .int .i64 (k : Int)] 62))
          have hKy := HKk.out.trans HKx.out (fun _ f => f.elim)
          have hNe := near_any k (tnl cs) (tnl os) g1 g2 c1 c2 (by omega) (by rw [tnl_len, tnl_len]; exact r4.symm) (by rw [nz_tnl r2]; exact i1.keptI hKy) (by rw [nz_tnl r3]; exact i2.keptI hKy) (tnl_le o1) (tnl_le o2) (fun hn q e => by have := ints_lt i1 (by intro h0; rw [h0] at hn; exact hn rfl) e; rw [HBQ.out]; exact this) (fun hn q e => by have := ints_lt i2 (by intro h0; rw [h0] at hn; exact hn rfl) e; rw [HBQ.out]; exact this) (HBb.out.later HKx.out) (by rw [tnl_len]; simp only [List.length_append] at htl ⊢; omega) (HW2.out.kept hKy) (by omega)
          rw [tnl_len] at hNe
          have HNe := hideI hNe
          have HKy := hideI hKy
          clear hc htl hgn o1 o2 o3 o4 hNe i1 i2 r1 r2 r3 r4 hKy
          generalize cs.length = n1 at *
          go_wp2_with (go_at_call 18; refine HNe.out.mono ?_; clear HNe; rintro e W5 ⟨rfl, p5, v5, hB5, K5⟩; have HB5 := hideI hB5; have HK5 := hideI (bgK HKy.out K5 (by rw [← HBQ.out]; exact Nat.le_refl _)); clear hB5 K5)
          go_roundw
          case rel => exact ⟨i + 1, _, _, hlt2, by go_num, hideI (by rw [HSN.out]; simpa [List.append_assoc] using HB5.out), HK5⟩
          case measure => simp [intOf]; omega
        · obtain rfl : i = nN := by omega
          have hTk2 : p.nr.take i = p.nr := List.take_of_length_le (by rw [HNN.out]; exact Nat.le_refl _)
          rw [hTk2] at HBb
          have HX5 := hideI (HKk.out.heap HX2.out (fun f => f))
          obtain ⟨y0, y1, y2, y3, y4, y5⟩ := cells6 HX5.out
          obtain ⟨V2, hV2⟩ : ∃ V2, V2 = wr := ⟨_, rfl⟩
          rw [← hV2] at y3 y4 HKk HBb HX5 ⊢
          clear y0 y1 y2 y5 hV2 HK HB
          have hTL2 := HTL.out p.cu.length p.nr.length 0
          rw [List.take_length, List.take_length] at hTL2
          have HTL2 := hideI hTL2
          have HTL3 : Hid (∀ k, (lnB avW (tnl p.av) ++ cuL p.cu ++ nrL p.nr ++ evL p.al ++ drL p.dr ++ cdL (m.take k)).length ≤ 10000000000) := hideI (fun k => by have h := HTL.out p.cu.length p.nr.length k; rw [List.take_length, List.take_length] at h; exact h)
          clear hTL2 HTL
          have HPr2 := hideI (HP2.out.kept HKk.out)
          obtain ⟨nD, hnD⟩ : ∃ nD, nD = p.dr.length := ⟨_, rfl⟩
          rw [← hnD] at y4 l2
          have HND := hideI hnD
          clear hnD
          cases hal : p.al with
          | true =>
            by_cases hdr : p.dr = []
            · have HDn := hideI hdr
              have hnd : nD = 0 := by have := HND.out; rw [hdr] at this; simpa using this
              subst hnd
              clear hdr
              have hEv := line_any ⟨#[101, 118, 101, 114, 121]⟩ [] none 0 (w := V2) (fun h => absurd rfl h) (by simp) (fun h => absurd rfl h) HBb.out (by have := HTL2.out; simp only [List.length_append] at this ⊢; show _ + 5 + _ + 40 ≤ _; simp only [List.length_nil]; omega) (HW2.out.kept HKk.out) (by omega)
              have HEv := hideI hEv
              clear hEv
              rw [hal] at y3
              go_wp2_with (first
                | (go_at_call 16; refine HEv.out.mono ?_; clear HEv; rintro e W6 ⟨rfl, p6, v6, hB6, K6⟩; have HB6 : Hid (Bw W6 b p6 v6 (lnB avW (tnl p.av) ++ cuL p.cu ++ nrL p.nr ++ evL p.al)) := hideI (by rw [hal]; exact hB6); have HK6 := hideI (bgK HKk.out K6 (by rw [← HBQ.out]; exact Nat.le_refl _)); have HX6 := hideI (HK6.out.heap HX2.out (fun f => f)); obtain ⟨-, -, -, -, y4, -⟩ := cells6 HX6.out; rw [← HND.out] at y4; clear hB6 K6))
              have HB7 : Hid (Bw W6 b p6 v6 (lnB avW (tnl p.av) ++ cuL p.cu ++ nrL p.nr ++ evL p.al ++ drL p.dr)) := hideI (by rw [drL, if_pos HDn.out]; simpa using HB6.out)
              have HK7 := HK6
              rw [← HNM.out]
              go_loopw [62] (fun v62 wr => ∃ (k : Nat) (pp vv : Value), k ≤ nM ∧ v62 = .int .i64 k ∧ Hid (Bw wr b pp vv (lnB avW (tnl p.av) ++ cuL p.cu ++ nrL p.nr ++ evL p.al ++ drL p.dr ++ cdL (m.take k))) ∧ Hid (Kept (fun _ => False) W2 wr)) (fun v62 _ => nM - (intOf v62).toNat)
              case atStart => exact ⟨0, _, _, by omega, rfl, hideI (by simpa [cdL] using HB7.out), HK7⟩
              case round =>
                obtain ⟨k, pp3, vv3, hk, rfl, HBc, HKc⟩ := hrel
                have htl := HTL3.out k
                by_cases hlt3 : k < nM
                · have hkl : k < m.length := by rw [← HNM.out]; exact hlt3
                  have hki : (k : Int) < (nM : Int) := by omega
                  obtain ⟨fb, fo, ea, hc⟩ := HI2.out (by intro e; rw [e] at hkl; simp at hkl)
                  obtain ⟨x0, x1, x2⟩ := hc k hkl
                  subst ea
                  have z0 := HKc.out.cell x0 (fun f => f)
                  have z1 := HKc.out.cell x1 (fun f => f)
                  have z2 := HKc.out.cell x2 (fun f => f)
                  clear x0 x1 x2
                  have HSN : Hid (cdL (m.take (k + 1)) = cdL (m.take k) ++ cdB m[k]) := hideI (flI_snoc hkl)
                  have o1 := HM2.out m[k] (List.getElem_mem hkl)
                  have o2 := okI_isO (HM3.out m[k] (List.getElem_mem hkl))
                  generalize m[k] = x at *
                  have HKx := hideI (Kept.alloc wr (.cells #[.int .i64 x.op, .int .u64 x.a, .int .u64 x.b] 48))
                  have hIn := instr_any x o1 o2 (HBc.out.later HKx.out) (by omega) (HT2.out.kept (HKc.out.trans HKx.out (fun _ f => f.elim))) (HW2.out.kept (HKc.out.trans HKx.out (fun _ f => f.elim))) (by omega) (by omega)
                  unfold inV at hIn
                  have HIn := hideI hIn
                  clear hc htl o1 o2 hIn
                  go_wp2_with (go_at_call 19; refine HIn.out.mono ?_; clear HIn; rintro e W8 ⟨rfl, p8, v8, hB8, K8⟩; have HB8 := hideI hB8; have HK8 := hideI (bgK (HKc.out.trans HKx.out (fun _ f => f.elim)) K8 (by rw [← HBQ.out]; exact Nat.le_refl _)); clear hB8 K8)
                  go_roundw
                  case rel => exact ⟨k + 1, _, _, hlt3, by go_num, hideI (by rw [HSN.out]; simpa [List.append_assoc] using HB8.out), HK8⟩
                  case measure => simp [intOf]; omega
                · obtain rfl : k = nM := by omega
                  have hTk3 : m.take k = m := List.take_of_length_le (by rw [HNM.out]; exact Nat.le_refl _)
                  rw [hTk3, ← HTX.out] at HBc
                  have HSt := hideI (bstringI HBc.out (by rw [HTX.out]; simp [lnB, avW]))
                  clear htl
                  go_wp2_with (go_at_call 20; refine HSt.out.mono ?_; clear HSt; rintro e W9 ⟨rfl, K9⟩)
                  go_ret2
                  exact ⟨rfl, (HKw.out.trans HKc.out (fun _ f => f.elim)).trans K9 (fun i hi => .inr (by omega))⟩
            · have HDn := hideI hdr
              have hnd : 0 < (nD : Int) := by have := List.length_pos_iff.2 hdr; have := HND.out; omega
              clear hdr
              have hEv := line_any ⟨#[101, 118, 101, 114, 121]⟩ [] none 0 (w := V2) (fun h => absurd rfl h) (by simp) (fun h => absurd rfl h) HBb.out (by have := HTL2.out; simp only [List.length_append] at this ⊢; show _ + 5 + _ + 40 ≤ _; simp only [List.length_nil]; omega) (HW2.out.kept HKk.out) (by omega)
              have HEv := hideI hEv
              clear hEv
              rw [hal] at y3
              go_wp2_with (first
                | (go_at_call 16; refine HEv.out.mono ?_; clear HEv; rintro e W6 ⟨rfl, p6, v6, hB6, K6⟩; have HB6 : Hid (Bw W6 b p6 v6 (lnB avW (tnl p.av) ++ cuL p.cu ++ nrL p.nr ++ evL p.al)) := hideI (by rw [hal]; exact hB6); have HK6 := hideI (bgK HKk.out K6 (by rw [← HBQ.out]; exact Nat.le_refl _)); have HX6 := hideI (HK6.out.heap HX2.out (fun f => f)); obtain ⟨-, -, -, -, y4, -⟩ := cells6 HX6.out; rw [← HND.out] at y4; clear hB6 K6; have hDr := line_any ⟨#[100, 114, 105, 118, 101]⟩ (tnl p.dr) aD cD (by rw [HQ2.out]; exact (HP2.out.kept HK6.out).dr) (tnl_le HO.out.dr) (fun hn q e => by have := ints_lt HP2.out.dr (by intro h0; rw [h0] at hn; exact hn rfl) e; rw [HBQ.out]; exact this) HB6.out (by have h1 := HTL2.out; have h2 := HND.out; rw [tnl_len]; simp only [List.length_append] at h1 ⊢; show _ + 5 + _ + 40 ≤ _; omega) (HW2.out.kept HK6.out) (by omega); rw [tnl_len, ← HND.out] at hDr; have HDr := hideI hDr; clear hDr)
                | (go_at_call 16; refine HDr.out.mono ?_; clear HDr; rintro e W7 ⟨rfl, p7, v7, hB7, K7⟩; have HB7 : Hid (Bw W7 b p7 v7 (lnB avW (tnl p.av) ++ cuL p.cu ++ nrL p.nr ++ evL p.al ++ drL p.dr)) := hideI (by rw [drL, if_neg HDn.out]; exact hB7); have HK7 := hideI (bgK HK6.out K7 (by rw [← HBQ.out]; exact Nat.le_refl _)); clear hB7 K7))
              rw [← HNM.out]
              go_loopw [62] (fun v62 wr => ∃ (k : Nat) (pp vv : Value), k ≤ nM ∧ v62 = .int .i64 k ∧ Hid (Bw wr b pp vv (lnB avW (tnl p.av) ++ cuL p.cu ++ nrL p.nr ++ evL p.al ++ drL p.dr ++ cdL (m.take k))) ∧ Hid (Kept (fun _ => False) W2 wr)) (fun v62 _ => nM - (intOf v62).toNat)
              case atStart => exact ⟨0, _, _, by omega, rfl, hideI (by simpa [cdL] using HB7.out), HK7⟩
              case round =>
                obtain ⟨k, pp3, vv3, hk, rfl, HBc, HKc⟩ := hrel
                have htl := HTL3.out k
                by_cases hlt3 : k < nM
                · have hkl : k < m.length := by rw [← HNM.out]; exact hlt3
                  have hki : (k : Int) < (nM : Int) := by omega
                  obtain ⟨fb, fo, ea, hc⟩ := HI2.out (by intro e; rw [e] at hkl; simp at hkl)
                  obtain ⟨x0, x1, x2⟩ := hc k hkl
                  subst ea
                  have z0 := HKc.out.cell x0 (fun f => f)
                  have z1 := HKc.out.cell x1 (fun f => f)
                  have z2 := HKc.out.cell x2 (fun f => f)
                  clear x0 x1 x2
                  have HSN : Hid (cdL (m.take (k + 1)) = cdL (m.take k) ++ cdB m[k]) := hideI (flI_snoc hkl)
                  have o1 := HM2.out m[k] (List.getElem_mem hkl)
                  have o2 := okI_isO (HM3.out m[k] (List.getElem_mem hkl))
                  generalize m[k] = x at *
                  have HKx := hideI (Kept.alloc wr (.cells #[.int .i64 x.op, .int .u64 x.a, .int .u64 x.b] 48))
                  have hIn := instr_any x o1 o2 (HBc.out.later HKx.out) (by omega) (HT2.out.kept (HKc.out.trans HKx.out (fun _ f => f.elim))) (HW2.out.kept (HKc.out.trans HKx.out (fun _ f => f.elim))) (by omega) (by omega)
                  unfold inV at hIn
                  have HIn := hideI hIn
                  clear hc htl o1 o2 hIn
                  go_wp2_with (go_at_call 19; refine HIn.out.mono ?_; clear HIn; rintro e W8 ⟨rfl, p8, v8, hB8, K8⟩; have HB8 := hideI hB8; have HK8 := hideI (bgK (HKc.out.trans HKx.out (fun _ f => f.elim)) K8 (by rw [← HBQ.out]; exact Nat.le_refl _)); clear hB8 K8)
                  go_roundw
                  case rel => exact ⟨k + 1, _, _, hlt3, by go_num, hideI (by rw [HSN.out]; simpa [List.append_assoc] using HB8.out), HK8⟩
                  case measure => simp [intOf]; omega
                · obtain rfl : k = nM := by omega
                  have hTk3 : m.take k = m := List.take_of_length_le (by rw [HNM.out]; exact Nat.le_refl _)
                  rw [hTk3, ← HTX.out] at HBc
                  have HSt := hideI (bstringI HBc.out (by rw [HTX.out]; simp [lnB, avW]))
                  clear htl
                  go_wp2_with (go_at_call 20; refine HSt.out.mono ?_; clear HSt; rintro e W9 ⟨rfl, K9⟩)
                  go_ret2
                  exact ⟨rfl, (HKw.out.trans HKc.out (fun _ f => f.elim)).trans K9 (fun i hi => .inr (by omega))⟩
          | false =>
            by_cases hdr : p.dr = []
            · have HDn := hideI hdr
              have hnd : nD = 0 := by have := HND.out; rw [hdr] at this; simpa using this
              subst hnd
              clear hdr
              have HB6 : Hid (Bw V2 b pp2 vv2 (lnB avW (tnl p.av) ++ cuL p.cu ++ nrL p.nr ++ evL p.al)) := hideI (by rw [hal]; simpa [evL] using HBb.out)
              have HK6 := HKk
              rw [hal] at y3
              go_wp2
              have HB7 : Hid (Bw V2 b pp2 vv2 (lnB avW (tnl p.av) ++ cuL p.cu ++ nrL p.nr ++ evL p.al ++ drL p.dr)) := hideI (by rw [drL, if_pos HDn.out]; simpa using HB6.out)
              have HK7 := HK6
              rw [← HNM.out]
              go_loopw [62] (fun v62 wr => ∃ (k : Nat) (pp vv : Value), k ≤ nM ∧ v62 = .int .i64 k ∧ Hid (Bw wr b pp vv (lnB avW (tnl p.av) ++ cuL p.cu ++ nrL p.nr ++ evL p.al ++ drL p.dr ++ cdL (m.take k))) ∧ Hid (Kept (fun _ => False) W2 wr)) (fun v62 _ => nM - (intOf v62).toNat)
              case atStart => exact ⟨0, _, _, by omega, rfl, hideI (by simpa [cdL] using HB7.out), HK7⟩
              case round =>
                obtain ⟨k, pp3, vv3, hk, rfl, HBc, HKc⟩ := hrel
                have htl := HTL3.out k
                by_cases hlt3 : k < nM
                · have hkl : k < m.length := by rw [← HNM.out]; exact hlt3
                  have hki : (k : Int) < (nM : Int) := by omega
                  obtain ⟨fb, fo, ea, hc⟩ := HI2.out (by intro e; rw [e] at hkl; simp at hkl)
                  obtain ⟨x0, x1, x2⟩ := hc k hkl
                  subst ea
                  have z0 := HKc.out.cell x0 (fun f => f)
                  have z1 := HKc.out.cell x1 (fun f => f)
                  have z2 := HKc.out.cell x2 (fun f => f)
                  clear x0 x1 x2
                  have HSN : Hid (cdL (m.take (k + 1)) = cdL (m.take k) ++ cdB m[k]) := hideI (flI_snoc hkl)
                  have o1 := HM2.out m[k] (List.getElem_mem hkl)
                  have o2 := okI_isO (HM3.out m[k] (List.getElem_mem hkl))
                  generalize m[k] = x at *
                  have HKx := hideI (Kept.alloc wr (.cells #[.int .i64 x.op, .int .u64 x.a, .int .u64 x.b] 48))
                  have hIn := instr_any x o1 o2 (HBc.out.later HKx.out) (by omega) (HT2.out.kept (HKc.out.trans HKx.out (fun _ f => f.elim))) (HW2.out.kept (HKc.out.trans HKx.out (fun _ f => f.elim))) (by omega) (by omega)
                  unfold inV at hIn
                  have HIn := hideI hIn
                  clear hc htl o1 o2 hIn
                  go_wp2_with (go_at_call 19; refine HIn.out.mono ?_; clear HIn; rintro e W8 ⟨rfl, p8, v8, hB8, K8⟩; have HB8 := hideI hB8; have HK8 := hideI (bgK (HKc.out.trans HKx.out (fun _ f => f.elim)) K8 (by rw [← HBQ.out]; exact Nat.le_refl _)); clear hB8 K8)
                  go_roundw
                  case rel => exact ⟨k + 1, _, _, hlt3, by go_num, hideI (by rw [HSN.out]; simpa [List.append_assoc] using HB8.out), HK8⟩
                  case measure => simp [intOf]; omega
                · obtain rfl : k = nM := by omega
                  have hTk3 : m.take k = m := List.take_of_length_le (by rw [HNM.out]; exact Nat.le_refl _)
                  rw [hTk3, ← HTX.out] at HBc
                  have HSt := hideI (bstringI HBc.out (by rw [HTX.out]; simp [lnB, avW]))
                  clear htl
                  go_wp2_with (go_at_call 20; refine HSt.out.mono ?_; clear HSt; rintro e W9 ⟨rfl, K9⟩)
                  go_ret2
                  exact ⟨rfl, (HKw.out.trans HKc.out (fun _ f => f.elim)).trans K9 (fun i hi => .inr (by omega))⟩
            · have HDn := hideI hdr
              have hnd : 0 < (nD : Int) := by have := List.length_pos_iff.2 hdr; have := HND.out; omega
              clear hdr
              have HB6 : Hid (Bw V2 b pp2 vv2 (lnB avW (tnl p.av) ++ cuL p.cu ++ nrL p.nr ++ evL p.al)) := hideI (by rw [hal]; simpa [evL] using HBb.out)
              have HK6 := HKk
              have hDr := line_any ⟨#[100, 114, 105, 118, 101]⟩ (tnl p.dr) aD cD (by rw [HQ2.out]; exact (HP2.out.kept HK6.out).dr) (tnl_le HO.out.dr) (fun hn q e => by have := ints_lt HP2.out.dr (by intro h0; rw [h0] at hn; exact hn rfl) e; rw [HBQ.out]; exact this) HB6.out (by have h1 := HTL2.out; have h2 := HND.out; rw [tnl_len]; simp only [List.length_append] at h1 ⊢; show _ + 5 + _ + 40 ≤ _; omega) (HW2.out.kept HK6.out) (by omega)
              rw [tnl_len, ← HND.out] at hDr
              have HDr := hideI hDr
              clear hDr
              rw [hal] at y3
              go_wp2_with (first
                | (go_at_call 16; refine HDr.out.mono ?_; clear HDr; rintro e W7 ⟨rfl, p7, v7, hB7, K7⟩; have HB7 : Hid (Bw W7 b p7 v7 (lnB avW (tnl p.av) ++ cuL p.cu ++ nrL p.nr ++ evL p.al ++ drL p.dr)) := hideI (by rw [drL, if_neg HDn.out]; exact hB7); have HK7 := hideI (bgK HK6.out K7 (by rw [← HBQ.out]; exact Nat.le_refl _)); clear hB7 K7))
              rw [← HNM.out]
              go_loopw [62] (fun v62 wr => ∃ (k : Nat) (pp vv : Value), k ≤ nM ∧ v62 = .int .i64 k ∧ Hid (Bw wr b pp vv (lnB avW (tnl p.av) ++ cuL p.cu ++ nrL p.nr ++ evL p.al ++ drL p.dr ++ cdL (m.take k))) ∧ Hid (Kept (fun _ => False) W2 wr)) (fun v62 _ => nM - (intOf v62).toNat)
              case atStart => exact ⟨0, _, _, by omega, rfl, hideI (by simpa [cdL] using HB7.out), HK7⟩
              case round =>
                obtain ⟨k, pp3, vv3, hk, rfl, HBc, HKc⟩ := hrel
                have htl := HTL3.out k
                by_cases hlt3 : k < nM
                · have hkl : k < m.length := by rw [← HNM.out]; exact hlt3
                  have hki : (k : Int) < (nM : Int) := by omega
                  obtain ⟨fb, fo, ea, hc⟩ := HI2.out (by intro e; rw [e] at hkl; simp at hkl)
                  obtain ⟨x0, x1, x2⟩ := hc k hkl
                  subst ea
                  have z0 := HKc.out.cell x0 (fun f => f)
                  have z1 := HKc.out.cell x1 (fun f => f)
                  have z2 := HKc.out.cell x2 (fun f => f)
                  clear x0 x1 x2
                  have HSN : Hid (cdL (m.take (k + 1)) = cdL (m.take k) ++ cdB m[k]) := hideI (flI_snoc hkl)
                  have o1 := HM2.out m[k] (List.getElem_mem hkl)
                  have o2 := okI_isO (HM3.out m[k] (List.getElem_mem hkl))
                  generalize m[k] = x at *
                  have HKx := hideI (Kept.alloc wr (.cells #[.int .i64 x.op, .int .u64 x.a, .int .u64 x.b] 48))
                  have hIn := instr_any x o1 o2 (HBc.out.later HKx.out) (by omega) (HT2.out.kept (HKc.out.trans HKx.out (fun _ f => f.elim))) (HW2.out.kept (HKc.out.trans HKx.out (fun _ f => f.elim))) (by omega) (by omega)
                  unfold inV at hIn
                  have HIn := hideI hIn
                  clear hc htl o1 o2 hIn
                  go_wp2_with (go_at_call 19; refine HIn.out.mono ?_; clear HIn; rintro e W8 ⟨rfl, p8, v8, hB8, K8⟩; have HB8 := hideI hB8; have HK8 := hideI (bgK (HKc.out.trans HKx.out (fun _ f => f.elim)) K8 (by rw [← HBQ.out]; exact Nat.le_refl _)); clear hB8 K8)
                  go_roundw
                  case rel => exact ⟨k + 1, _, _, hlt3, by go_num, hideI (by rw [HSN.out]; simpa [List.append_assoc] using HB8.out), HK8⟩
                  case measure => simp [intOf]; omega
                · obtain rfl : k = nM := by omega
                  have hTk3 : m.take k = m := List.take_of_length_le (by rw [HNM.out]; exact Nat.le_refl _)
                  rw [hTk3, ← HTX.out] at HBc
                  have HSt := hideI (bstringI HBc.out (by rw [HTX.out]; simp [lnB, avW]))
                  clear htl
                  go_wp2_with (go_at_call 20; refine HSt.out.mono ?_; clear HSt; rintro e W9 ⟨rfl, K9⟩)
                  go_ret2
                  exact ⟨rfl, (HKw.out.trans HKc.out (fun _ f => f.elim)).trans K9 (fun i hi => .inr (by omega))⟩
end Go.Proofs.YtdklkpbadopkaaaDoor
