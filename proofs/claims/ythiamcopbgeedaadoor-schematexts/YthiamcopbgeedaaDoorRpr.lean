import Derived.Test.YthiamcopbgeedaaDoorRpm
import Derived.BigQuiet
namespace Go.Proofs.YthiamcopbgeedaaDoor
open Go.ChangeShapes Go.WideShapes Go.ChangeAt Go.RowKit

set_option maxRecDepth 20000 in
set_option maxHeartbeats 2000000 in
theorem rparse_long (t : ByteArray) (w : World) (h : 1280 < t.size) :
    Calls Tryd.prog 9 #[.string t] w fun e w' => e = .returned (.tuple #[.agg #[.slice none 0 0], .int .i64 11]) ∧ Kept (fun _ => False) w w' := by
  have hz : (1280 : Int) < (t.size : Int) := by omega
  go_enter Tryd.func9, Tryd.ntmps9
  go_wp2
  refine bodyPost_ret (v := .tuple #[.agg #[.slice none 0 0], .int .i64 11]) (by simp [results, Tryd.results9, go_sem]) rfl ⟨rfl, ?_⟩
  exact Kept.alloc _ _
set_option maxRecDepth 20000 in
set_option maxHeartbeats 8000000 in
theorem rparse_short (t : ByteArray) (w : World) (h : t.size ≤ 1280) :
    Calls Tryd.prog 9 #[.string t] w fun e w' => Kept (fun _ => False) w w' ∧ rpPost (gsS t.data.toList) t.data.toList w' e := by
  have hz : ¬ (1280 : Int) < (t.size : Int) := by omega
  have htl : t.data.toList.length ≤ 1280 := by rw [Array.length_toList]; exact h
  have htb : t = bstr t.data.toList := rfl
  obtain ⟨tl, htl2⟩ : ∃ tl, tl = t.data.toList := ⟨_, rfl⟩
  rw [← htl2] at htl htb ⊢
  clear htl2
  have CP := fun w => hideW (rcut_l tl 59 59 w rfl htl)
  rw [← htb] at CP
  have HTB := hideW htb
  clear htb
  have HB := hideW (cut_bound (c := 59) tl)
  have HNE := hideW (cut_ne (c := 59) tl)
  have HGS : Hid (gsS tl = (cutL 59 tl).map gsF) := hideW rfl
  obtain ⟨P, hP⟩ : ∃ P, P = cutL 59 tl := ⟨_, rfl⟩
  rw [← hP] at CP HB HNE HGS
  clear hP
  obtain ⟨np, hnp⟩ : ∃ np, np = P.length := ⟨_, rfl⟩
  rw [← hnp] at CP HB
  have HNP := hideW hnp
  clear hnp
  have hnp2 : np ≤ 1281 := by have := HB.out.1; omega
  go_enter Tryd.func9, Tryd.ntmps9
  go_wp2_with (go_at_call 19; refine (CP _).out.mono ?_; clear CP; rintro e W1 ⟨a1, c1, rfl, G1⟩; have HG1 := hideW G1; clear G1)
  have HK1 : Hid (Kept (fun _ => False) w W1) := hideW (((Kept.alloc _ _).trans (Kept.alloc _ _) (fun _ f => f.elim)).trans HG1.out.kept (fun _ f => f.elim))
  have HR1 : Hid (W1.heap[w.heap.size]? = some (.cells #[.slice none 0 0] 24 (0, 0))) := hideW (HG1.out.kept.heap ((Kept.alloc _ _).heap (heap_alloc_new w _) (fun f => f)) (fun f => f))
  have HS1 : Hid (W1.heap[w.heap.size + 1]? = some (.cells #[.slice none 0 0] 24 (0, 0))) := hideW (HG1.out.kept.heap (by have := heap_alloc_new (w.alloc (.cells #[.slice none 0 0] 24)) (.cells #[.slice none 0 0] 24); simpa using this) (fun f => f))
  have HGp : Hid (0 < np → ∃ g, a1 = some ⟨g, 0, none⟩ ∧ w.heap.size + 2 ≤ g ∧ ∀ j u, (txs P)[j]? = some u → W1.cell? ⟨g, j, none⟩ = some u) := hideW (fun h => by
    obtain ⟨g, e1, e2, e3⟩ := HG1.out.cell h
    exact ⟨g, e1, by simpa using e2, e3⟩)
  have HLw := hideW (show w.heap.size + 1 < W1.heap.size from lt_of_block HS1.out)
  clear HG1
  obtain ⟨bs, hbs⟩ : ∃ bs, bs = w.heap.size + 1 := ⟨_, rfl⟩
  rw [← hbs] at HS1 HLw ⊢
  have HBS := hideW hbs
  clear hbs
  obtain ⟨br, hbr⟩ : ∃ br, br = w.heap.size := ⟨_, rfl⟩
  rw [← hbr] at HR1 HGp HBS ⊢
  have HBR := hideW hbr
  clear hbr
  go_loopw [22] (fun v22 wr => ∃ (i : Nat) (a : Option Addr) (c : Nat), i ≤ np ∧ v22 = .int .i64 i ∧ Hid (wr.heap[bs]? = some (.cells #[.slice a i c] 24 (0, 0))) ∧ Hid (wr.ownsRow W1.heap.size 40 5 (.slice a i c) i (fcells ((P.take i).map gsF))) ∧ Hid (Kept (fun k => k = bs) W1 wr)) (fun v22 _ => np - (intOf v22).toNat)
  case atStart => exact ⟨0, none, 0, by omega, rfl, HS1, hideW (World.ownsRow_nil _ _ _ _), Kept.refl _ _⟩
  case round =>
    obtain ⟨i, a, c, hi, rfl, HSb, HSo, KK⟩ := hrel
    by_cases hlt : i < np
    · have hlt2 : i < P.length := by rw [← HNP.out]; exact hlt
      have hii : (i : Int) < (np : Int) := by omega
      obtain ⟨g1, rfl, hg1, hcell⟩ := HGp.out (by omega)
      have hgb : ¬ g1 = bs := by have := HBS.out; omega
      have xp := KK.out.cell (hcell i _ (txs_at P i hlt2)) hgb
      have hpl : P[i].length ≤ 1280 := by have := HB.out.2 _ (List.getElem_mem hlt2); omega
      have HT : Hid ((P.take (i + 1)).map gsF = (P.take i).map gsF ++ [gsF P[i]]) := hideW (by rw [List.take_succ_eq_append_getElem hlt2, List.map_append]; rfl)
      generalize P[i] = p at *
      have CW := fun w => hideW (rcut_l p 44 44 w rfl hpl)
      have HWb := hideW (cut_bound (c := 44) p)
      have HWn := hideW (cut_ne (c := 44) p)
      have HGF : Hid (gsF p = (⟨bstr ((cutL 58 ((cutL 44 p).headD [])).headD []), gkN (cutL 58 ((cutL 44 p).headD [])), decide (wFold ∈ cutL 44 p), decide (wStop ∈ cutL 44 p), decide (wStem ∈ cutL 44 p)⟩ : Fd)) := hideW rfl
      generalize cutL 44 p = ws at *
      obtain ⟨nw, hnw⟩ : ∃ nw, nw = ws.length := ⟨_, rfl⟩
      rw [← hnw] at CW HWb
      have HNW := hideW hnw
      clear hnw hcell
      have hnw2 : nw ≤ 1281 := by have := HWb.out.1; omega
      generalize wr = wo at *
      go_wp2_with (go_at_call 19; refine (CW _).out.mono ?_; clear CW; rintro e W2 ⟨a2, c2, rfl, G2⟩; have HG2 := hideW G2; clear G2)
      have HX2 : Hid (W2.heap[wo.heap.size]? = some (.cells #[.string ⟨#[]⟩, .int .i64 0, .bool false, .bool false, .bool false] 40 (0, 0))) := hideW (HG2.out.kept.heap (heap_alloc_new wo _) (fun f => f))
      have HK2 : Hid (Kept (fun _ => False) wo W2) := hideW ((Kept.alloc _ _).trans HG2.out.kept (fun _ f => f.elim))
      have hnw0 : 0 < nw := by have := HNW.out; have := List.length_pos_iff.2 HWn.out; omega
      obtain ⟨g2, rfl, hg2, hcell2⟩ := HG2.out.cell hnw0
      have HC2 := hideW hcell2
      have hg3 : ¬ g2 = wo.heap.size := by simp at hg2; omega
      have HBF := hideW (Nat.le_refl wo.heap.size)
      have HLt := hideW (lt_of_block HSb.out)
      clear hcell2 hg2 HG2 xp
      obtain ⟨bf, hbf⟩ : ∃ bf, bf = wo.heap.size := ⟨_, rfl⟩
      rw [← hbf] at HX2 hg3 ⊢
      have HBF := hideW hbf
      clear hbf
      go_loopw [31] (fun v31 wr => ∃ (j : Nat) (fo st se : Bool), j ≤ nw ∧ v31 = .int .i64 j ∧ Hid (wr.heap[bf]? = some (.cells #[.string ⟨#[]⟩, .int .i64 0, .bool fo, .bool st, .bool se] 40 (0, 0))) ∧ Hid (fo = decide (wFold ∈ ws.take j) ∧ st = decide (wStop ∈ ws.take j) ∧ se = decide (wStem ∈ ws.take j)) ∧ Hid (Kept (fun k => k = bf) W2 wr)) (fun v31 _ => nw - (intOf v31).toNat)
      case atStart => exact ⟨0, false, false, false, by omega, rfl, HX2, hideW ⟨rfl, rfl, rfl⟩, Kept.refl _ _⟩
      case round =>
        obtain ⟨j, fo, st, se, hj, rfl, HX, HFl, KJ⟩ := hrel
        by_cases hjl : j < nw
        · have hjl2 : j < ws.length := by rw [← HNW.out]; exact hjl
          have hjj : (j : Int) < (nw : Int) := by omega
          have xw := KJ.out.cell (HC2.out j _ (txs_at ws j hjl2)) hg3
          obtain ⟨⟨y0, y1, y2, y3, y4⟩, z0, z1, z2, z3, z4⟩ := fbox2 HX.out
          have HMf := hideW (mem_take_succ hjl2 wFold)
          have HMs := hideW (mem_take_succ hjl2 wStop)
          have HMe := hideW (mem_take_succ hjl2 wStem)
          generalize ws[j] = T at *
          have HE1 := hideW (bstr_eq T [102, 111, 108, 100])
          have HE2 := hideW (bstr_eq T [115, 116, 111, 112])
          have HE3 := hideW (bstr_eq T [115, 116, 101, 109])
          by_cases ef : T = wFold
          · skip
            have qf : ((bstr T).toList == [102, 111, 108, 100]) = true := HE1.out.trans (decide_eq_true ef)
            have HX' : Hid ((wr.setCell ⟨bf, 2, none⟩ (.bool true)).heap[bf]? = some (.cells #[.string ⟨#[]⟩, .int .i64 0, .bool true, .bool st, .bool se] 40 (0, 0))) := hideW (by rw [Go.heap_setCell_same wr bf 2 _ _ _ HX.out]; rfl)
            have HK' : Hid (Kept (fun k => k = bf) W2 (wr.setCell ⟨bf, 2, none⟩ (.bool true))) := hideW (KJ.out.trans (Kept.setCell _ _ _) (fun i hi => .inl hi))
            have ns : ¬ T = wStop := by rw [ef]; decide
            have ne : ¬ T = wStem := by rw [ef]; decide
            have HFl' : Hid (true = decide (wFold ∈ ws.take (j + 1)) ∧ st = decide (wStop ∈ ws.take (j + 1)) ∧ se = decide (wStem ∈ ws.take (j + 1))) := hideW ⟨by rw [HMf.out, decide_eq_true ef, Bool.or_true], by rw [HMs.out, decide_eq_false ns, Bool.or_false]; exact HFl.out.2.1, by rw [HMe.out, decide_eq_false ne, Bool.or_false]; exact HFl.out.2.2⟩
            clear HE1 HE2 HE3 HMf HMs HMe HFl HX KJ ns ne ef
            go_wp2
            go_roundw
            case rel => exact ⟨j + 1, _, _, _, hjl, by go_num, HX', HFl', HK'⟩
            case measure => simp [intOf]; omega
          · rename ¬ T = wFold => nf
            by_cases es : T = wStop
            · skip
              have qf : ((bstr T).toList == [102, 111, 108, 100]) = false := HE1.out.trans (decide_eq_false nf)
              have qs : ((bstr T).toList == [115, 116, 111, 112]) = true := HE2.out.trans (decide_eq_true es)
              have HX' : Hid ((wr.setCell ⟨bf, 3, none⟩ (.bool true)).heap[bf]? = some (.cells #[.string ⟨#[]⟩, .int .i64 0, .bool fo, .bool true, .bool se] 40 (0, 0))) := hideW (by rw [Go.heap_setCell_same wr bf 3 _ _ _ HX.out]; rfl)
              have HK' : Hid (Kept (fun k => k = bf) W2 (wr.setCell ⟨bf, 3, none⟩ (.bool true))) := hideW (KJ.out.trans (Kept.setCell _ _ _) (fun i hi => .inl hi))
              have ne : ¬ T = wStem := by rw [es]; decide
              have HFl' : Hid (fo = decide (wFold ∈ ws.take (j + 1)) ∧ true = decide (wStop ∈ ws.take (j + 1)) ∧ se = decide (wStem ∈ ws.take (j + 1))) := hideW ⟨by rw [HMf.out, decide_eq_false nf, Bool.or_false]; exact HFl.out.1, by rw [HMs.out, decide_eq_true es, Bool.or_true], by rw [HMe.out, decide_eq_false ne, Bool.or_false]; exact HFl.out.2.2⟩
              clear HE1 HE2 HE3 HMf HMs HMe HFl HX KJ nf ne es
              go_wp2
              go_roundw
              case rel => exact ⟨j + 1, _, _, _, hjl, by go_num, HX', HFl', HK'⟩
              case measure => simp [intOf]; omega
            · rename ¬ T = wStop => ns
              by_cases ee : T = wStem
              · skip
                have qf : ((bstr T).toList == [102, 111, 108, 100]) = false := HE1.out.trans (decide_eq_false nf)
                have qs : ((bstr T).toList == [115, 116, 111, 112]) = false := HE2.out.trans (decide_eq_false ns)
                have qe : ((bstr T).toList == [115, 116, 101, 109]) = true := HE3.out.trans (decide_eq_true ee)
                have HX' : Hid ((wr.setCell ⟨bf, 4, none⟩ (.bool true)).heap[bf]? = some (.cells #[.string ⟨#[]⟩, .int .i64 0, .bool fo, .bool st, .bool true] 40 (0, 0))) := hideW (by rw [Go.heap_setCell_same wr bf 4 _ _ _ HX.out]; rfl)
                have HK' : Hid (Kept (fun k => k = bf) W2 (wr.setCell ⟨bf, 4, none⟩ (.bool true))) := hideW (KJ.out.trans (Kept.setCell _ _ _) (fun i hi => .inl hi))
                have HFl' : Hid (fo = decide (wFold ∈ ws.take (j + 1)) ∧ st = decide (wStop ∈ ws.take (j + 1)) ∧ true = decide (wStem ∈ ws.take (j + 1))) := hideW ⟨by rw [HMf.out, decide_eq_false nf, Bool.or_false]; exact HFl.out.1, by rw [HMs.out, decide_eq_false ns, Bool.or_false]; exact HFl.out.2.1, by rw [HMe.out, decide_eq_true ee, Bool.or_true]⟩
                clear HE1 HE2 HE3 HMf HMs HMe HFl HX KJ nf ns ee
                go_wp2
                go_roundw
                case rel => exact ⟨j + 1, _, _, _, hjl, by go_num, HX', HFl', HK'⟩
                case measure => simp [intOf]; omega
              · rename ¬ T = wStem => ne
                have qf : ((bstr T).toList == [102, 111, 108, 100]) = false := HE1.out.trans (decide_eq_false nf)
                have qs : ((bstr T).toList == [115, 116, 111, 112]) = false := HE2.out.trans (decide_eq_false ns)
                have qe : ((bstr T).toList == [115, 116, 101, 109]) = false := HE3.out.trans (decide_eq_false ne)
                have HX' := HX
                have HK' := KJ
                have HFl' : Hid (fo = decide (wFold ∈ ws.take (j + 1)) ∧ st = decide (wStop ∈ ws.take (j + 1)) ∧ se = decide (wStem ∈ ws.take (j + 1))) := hideW ⟨by rw [HMf.out, decide_eq_false nf, Bool.or_false]; exact HFl.out.1, by rw [HMs.out, decide_eq_false ns, Bool.or_false]; exact HFl.out.2.1, by rw [HMe.out, decide_eq_false ne, Bool.or_false]; exact HFl.out.2.2⟩
                clear HE1 HE2 HE3 HMf HMs HMe HFl HX KJ nf ns ne
                go_wp2
                go_roundw
                case rel => exact ⟨j + 1, _, _, _, hjl, by go_num, HX', HFl', HK'⟩
                case measure => simp [intOf]; omega
        · obtain rfl : j = nw := by omega
          have hT : ws.take j = ws := List.take_of_length_le (by rw [HNW.out]; exact Nat.le_refl _)
          rw [hT] at HFl
          have hw0 : 0 < ws.length := by rw [← HNW.out]; exact hnw0
          have xw := KJ.out.cell (HC2.out 0 _ (txs_at ws 0 hw0)) hg3
          obtain ⟨⟨y0, y1, y2, y3, y4⟩, z0, z1, z2, z3, z4⟩ := fbox2 HX.out
          have hwl : ws[0].length ≤ 1280 := by have := HWb.out.2 _ (List.getElem_mem hw0); omega
          rw [headD_at hw0] at HGF
          generalize ws[0] = w0 at *
          have CH := fun w => hideW (rcut_l w0 58 58 w rfl hwl)
          have HHn := hideW (cut_ne (c := 58) w0)
          have HHb := hideW (cut_bound (c := 58) w0)
          generalize cutL 58 w0 = hs at *
          obtain ⟨nh, hnh⟩ : ∃ nh, nh = hs.length := ⟨_, rfl⟩
          rw [← hnh] at CH
          have HNH := hideW hnh
          have hh0 : 0 < hs.length := List.length_pos_iff.2 HHn.out
          have hnh0 : 0 < nh := by omega
          have hnh2 : nh ≤ 1281 := by have := HHb.out.1; omega
          rw [headD_at hh0] at HGF
          have hji : (0 : Int) < (j : Int) := by omega
          have hjn : ¬ (j : Int) ≤ 0 := by omega
          have hnh3 : (0 : Int) < (nh : Int) := by omega
          clear hnh HHn HHb hT HC2 HWb HWn
          generalize wr = wq at *
          go_wp2_with (go_at_call 19; refine (CH _).out.mono ?_; clear CH; rintro e W3 ⟨a3, c3, rfl, G3⟩; obtain ⟨g4, rfl, hg4, hcell4⟩ := G3.cell hnh0; have xh := hcell4 0 _ (txs_at hs 0 hh0); have HX3 := hideW (G3.kept.heap HX.out (fun f => f)); obtain ⟨⟨p0, p1, p2, p3, p4⟩, r0, r1, r2, r3, r4⟩ := fbox2 HX3.out; have HG3 := hideW G3; clear G3)
          have hwq : bf < wq.heap.size := lt_of_block HX.out
          have hg5 : ¬ g4 = bf := by omega
          have HX4 : Hid ((W3.setCell ⟨bf, 0, none⟩ (.string (bstr hs[0]))).heap[bf]? = some (.cells #[.string (bstr hs[0]), .int .i64 0, .bool fo, .bool st, .bool se] 40 (0, 0))) := hideW (by rw [Go.heap_setCell_same W3 bf 0 _ _ _ HX3.out]; rfl)
          have HC4 : Hid (∀ (h1 : 1 < hs.length), (W3.setCell ⟨bf, 0, none⟩ (.string (bstr hs[0]))).cell? ⟨g4, 1, none⟩ = some (.string (bstr hs[1]))) := hideW (fun h1 => (Kept.setCell _ _ _).cell (hcell4 1 _ (txs_at hs 1 h1)) hg5)
          have HZ : Hid (Kept (fun _ => False) wo (W3.setCell ⟨bf, 0, none⟩ (.string (bstr hs[0])))) := hideW (((HK2.out.trans KJ.out (fun i hi => .inr (by have := HBF.out; omega))).trans HG3.out.kept (fun _ f => f.elim)).trans (Kept.setCell _ _ _) (fun i hi => .inr (by have := HBF.out; simp only at hi; omega)))
          generalize W3.setCell ⟨bf, 0, none⟩ (.string (bstr hs[0])) = W4 at *
          have HH0 : Hid (hs[0] = hs[0]) := hideW rfl
          generalize bstr hs[0] = N0 at *
          clear xh hcell4 HG3 HX3 p0 p1 p2 p3 p4 r0 r1 r2 r3 r4 y0 y1 y2 y3 y4 z0 z1 z2 z3 z4 HX KJ HX2 HK2 xw HH0
          go_loopw [11] (fun v11 wr => ∃ (k : Nat) (kd : Int), k ≤ 3 ∧ v11 = .int .i64 ((k : Int) + 1) ∧ Hid (wr.heap[bf]? = some (.cells #[.string N0, .int .i64 kd, .bool fo, .bool st, .bool se] 40 (0, 0))) ∧ Hid (kd = kdN hs k) ∧ Hid (Kept (fun k => k = bf) W4 wr)) (fun v11 _ => 4 - (intOf v11).toNat)
          case atStart => exact ⟨0, 0, by omega, rfl, HX4, hideW rfl, Kept.refl _ _⟩
          case round =>
            obtain ⟨k, kd, hk, rfl, HXk, HKd, KK3⟩ := hrel
            by_cases hk3 : k < 3
            · obtain ⟨⟨y0, y1, y2, y3, y4⟩, z0, z1, z2, z3, z4⟩ := fbox2 HXk.out
              by_cases hl2 : nh = 2
              · have hl3 : 1 < hs.length := by rw [← HNH.out]; omega
                have xh := KK3.out.cell (HC4.out hl3) hg5
                have hq2 : ((nh : Int) == 2) = true := by rw [hl2]; rfl
                have hq3 : (nh == 2) = true := by rw [hl2]; rfl
                have hq4 : (1 : Int) < (nh : Int) := by omega
                have hg1' : hs[1]?.getD [] = hs[1] := by rw [List.getElem?_eq_getElem hl3]; rfl
                have hkc : ((k + 1 : Nat) : Int) = (k : Int) + 1 := rfl
                have HKs : Hid (kdN hs (k + 1) = if hs[1] = kW ((k : Int) + 1) then (k : Int) + 1 else kdN hs k) := hideW (by
                  rw [kdN, hg1', hkc]
                  have : hs.length = 2 := by rw [← HNH.out]; exact hl2
                  simp only [this, true_and])
                generalize hs[1] = h1 at *
                have CK := fun w => hideW (kindName_any ((k : Int) + 1) w)
                generalize kW ((k : Int) + 1) = KW at *
                have HQ : Hid (((bstr h1).toList == (bstr KW).toList) = decide (h1 = KW)) := hideW (by rw [bstr_l KW]; exact bstr_eq h1 KW)
                have hk4 : (k : Int) + 1 ≤ 3 := by omega
                generalize hb1 : bstr h1 = B1 at *
                generalize hb2 : bstr KW = B2 at *
                clear hg1' hl2 hkc hb1 hb2
                by_cases hm : h1 = KW
                · have hq5 : (B1.toList == B2.toList) = true := HQ.out.trans (decide_eq_true hm)
                  have HKn : Hid ((k : Int) + 1 = kdN hs (k + 1)) := hideW (by rw [HKs.out, if_pos hm])
                  clear HQ HKs HKd hm
                  go_wp2
                  go_quiet ((go_at_call 16; exact Calls.quiet_of_same (CK _).out))
                  have y1' : (wr.drewN nq).cell? ⟨bf, 1, none⟩ = some (.int .i64 kd) := y1
                  have z1' : (wr.drewN nq).frozen? ⟨bf, 1, none⟩ = false := z1
                  have HX5 : Hid ((wr.drewN nq).heap[bf]? = some (.cells #[.string N0, .int .i64 kd, .bool fo, .bool st, .bool se] 40 (0, 0))) := HXk
                  have HK5 : Hid (Kept (fun k => k = bf) W4 (wr.drewN nq)) := hideW (KK3.out.trans (Kept.drewN wr nq) (fun _ f => f.elim))
                  clear HXk KK3 y0 y1 y2 y3 y4 z0 z1 z2 z3 z4 xh
                  generalize wr.drewN nq = W5 at *
                  go_wp2
                  go_roundw
                  case rel => exact ⟨k + 1, (k : Int) + 1, by omega, by go_num, hideW (by rw [Go.heap_setCell_same W5 bf 1 _ _ _ HX5.out]; rfl), HKn, hideW (HK5.out.trans (Kept.setCell _ _ _) (fun i hi => .inl hi))⟩
                  case measure => simp [intOf]; omega
                · have hq5 : (B1.toList == B2.toList) = false := HQ.out.trans (decide_eq_false hm)
                  have HKn : Hid (kd = kdN hs (k + 1)) := hideW (by rw [HKs.out, if_neg hm]; exact HKd.out)
                  clear HQ HKs HKd hm
                  go_wp2
                  go_quiet ((go_at_call 16; exact Calls.quiet_of_same (CK _).out))
                  have HX5 : Hid ((wr.drewN nq).heap[bf]? = some (.cells #[.string N0, .int .i64 kd, .bool fo, .bool st, .bool se] 40 (0, 0))) := HXk
                  have HK5 : Hid (Kept (fun k => k = bf) W4 (wr.drewN nq)) := hideW (KK3.out.trans (Kept.drewN wr nq) (fun _ f => f.elim))
                  clear HXk KK3 y0 y1 y2 y3 y4 z0 z1 z2 z3 z4 xh
                  generalize wr.drewN nq = W5 at *
                  go_wp2
                  go_roundw
                  case rel => exact ⟨k + 1, kd, by omega, by go_num, HX5, HKn, HK5⟩
                  case measure => simp [intOf]; omega
              · have hq2 : ((nh : Int) == 2) = false := by rw [beq_eq_false_iff_ne]; omega
                have hq3 : (nh == 2) = false := by rw [beq_eq_false_iff_ne]; omega
                have hk4 : (k : Int) + 1 ≤ 3 := by omega
                have HKn : Hid (kd = kdN hs (k + 1)) := hideW (by
                  have h2 : ¬ hs.length = 2 := by rw [← HNH.out]; exact hl2
                  rw [kdN, if_neg (fun e => h2 e.1)]
                  exact HKd.out)
                clear HKd
                go_wp2
                go_quiet (fail)
                have HX5 : Hid ((wr.drewN nq).heap[bf]? = some (.cells #[.string N0, .int .i64 kd, .bool fo, .bool st, .bool se] 40 (0, 0))) := HXk
                have HK5 : Hid (Kept (fun k => k = bf) W4 (wr.drewN nq)) := hideW (KK3.out.trans (Kept.drewN wr nq) (fun _ f => f.elim))
                clear HXk KK3 y0 y1 y2 y3 y4 z0 z1 z2 z3 z4
                generalize wr.drewN nq = W5 at *
                go_wp2
                go_roundw
                case rel => exact ⟨k + 1, kd, by omega, by go_num, HX5, HKn, HK5⟩
                case measure => simp [intOf]; omega
            · obtain rfl : k = 3 := by omega
              have HFe : Hid (gsF p = (⟨N0, kd, fo, st, se⟩ : Fd)) := hideW (by
                rw [HGF.out, ← kd_gk, ← HKd.out, ← HFl.out.1, ← HFl.out.2.1, ← HFl.out.2.2])
              have HZx : Hid (Kept (fun _ => False) wo wr) := hideW (HZ.out.trans KK3.out (fun i hi => .inr (by have := HBF.out; omega)))
              have HBx := hideW (HZx.out.heap HSb.out (fun f => f))
              have HOx := hideW (HZx.out.row HSo.out (fun _ _ f => f))
              have cb := cell_of_one HBx.out
              obtain ⟨⟨y0, y1, y2, y3, y4⟩, z0, z1, z2, z3, z4⟩ := fbox2 HXk.out
              obtain ⟨i0, hi0, hz0, hz1, hz2⟩ := info_parts Tryd.infoF
              have hsz : W1.heap.size ≤ wr.heap.size := Nat.le_trans KK.out.size HZx.out.size
              have HT2 : Hid ((P.take (i + 1)).map gsF = (P.take i).map gsF ++ [(⟨N0, kd, fo, st, se⟩ : Fd)]) := hideW (by rw [HT.out, HFe.out])
              clear HGF HKd HFl HZ HFe HT HNH HC4 KK3 z0 z1 z2 z3 z4
              generalize (P.take i).map gsF = F at *
              go_wp2_with (at_builtin; refine wpList_append_own _ rfl _ _ 22 rfl W1.heap.size 40 i0 _ 5 32 Tryd.underlying22 hi0 hz0 hz1 hz2 rfl (by decide) (.slice a i c) i (fcells F) rfl (HOx.out.alloc _) ⟨wr.heap.size, 0, none⟩ 1 1 [.string N0, .int .i64 kd, .bool fo, .bool st, .bool se] rfl rfl (row_news wr [.string N0, .int .i64 kd, .bool fo, .bool st, .bool se] 40) (fd_one ⟨N0, kd, fo, st, se⟩) (by unfold maxLen; omega) (by omega) (by simp; omega) ?_; intro v' W' ho hg _; obtain ⟨a', c', rfl⟩ := own_slice2 ho; obtain ⟨s1, s2, s3, s4, s5⟩ := sbox_step (f := ⟨N0, kd, fo, st, se⟩) HLw.out HSb.out HSo.out KK.out HZx.out ho hg; have HS3 := hideW s3; have HS4 := hideW s4; have HS5 := hideW s5; clear s3 s4 s5 ho hg)
              go_roundw
              case rel => exact ⟨i + 1, a', c', hlt, by go_num, HS3, hideW (by rw [HT2.out]; exact HS4.out), HS5⟩
              case measure => simp [intOf]; omega
    · obtain rfl : i = np := by omega
      have hT : P.take i = P := List.take_of_length_le (by rw [HNP.out]; exact Nat.le_refl _)
      rw [hT, ← HGS.out] at HSo
      have HLn : Hid ((gsS tl).length = i) := hideW (by rw [HGS.out, List.length_map, HNP.out])
      have HO : Hid (∀ f ∈ gsS tl, f.Ok) := hideW (fun f hf => by
        rw [HGS.out] at hf
        obtain ⟨p, hp, rfl⟩ := List.mem_map.1 hf
        exact gsF_ok p (Nat.le_trans (HB.out.2 p hp) htl))
      obtain ⟨F, hFe⟩ : ∃ F, F = gsS tl := ⟨_, rfl⟩
      rw [← hFe] at HSo HLn HO
      have HFq := hideW hFe
      clear hFe
      have HFs : Hid (FsAt wr a F) := hideW (fs_of_own (base := W1.heap.size) (c := c) (by rw [HLn.out]; exact HSo.out))
      have HRe : Hid (∀ b off, a = some ⟨b, off, none⟩ → ¬ b = br) := hideW (fun b off e hb => by
        have := (HSo.out.lt b (by rw [e]; rfl)).1
        have h1 := HLw.out
        have h2 := HBS.out
        omega)
      have CT := hideW (rtext_any F a c wr HFs.out HO.out)
      rw [HLn.out] at CT
      have cb := cell_of_one HSb.out
      have hrs : ¬ br = bs := by have := HBS.out; omega
      have HRw := hideW (KK.out.heap HR1.out hrs)
      have HKw : Hid (Kept (fun _ => False) w wr) := hideW (HK1.out.trans KK.out (fun i hi => .inr (by have := HBS.out; have := HBR.out; omega)))
      clear hT HGS HSo HO HNE HNP HB HR1 HS1 KK HGp HLw
      cases hG : gschema F with
      | false =>
        rw [hG, chkN_bad hG] at CT
        have HGf := hideW hG
        clear hG
        go_wp2_with (go_at_call 6; refine CT.out.mono ?_; clear CT; rintro e W5 ⟨rfl, K5⟩; have HR5 := hideW (K5.heap HRw.out (fun f => f)); have f5 := free_of_one HR5.out; have c5 := cell_of_one HR5.out; have HK5 := hideW K5; clear K5)
        have c6 : (W5.setCell ⟨br, 0, none⟩ (.slice none 0 0)).cell? ⟨br, 0, none⟩ = some (.slice none 0 0) := cell_of_one (one_setCell HR5.out)
        refine bodyPost_ret (v := .tuple #[.agg #[.slice none 0 0], .int .i64 11]) (by simp [results, Tryd.results9, go_sem, c6]) rfl ⟨?_, ?_⟩
        · exact (HKw.out.trans HK5.out (fun _ f => f.elim)).trans (Kept.setCell _ _ _) (fun i hi => .inr (by have := HBR.out; simp only at hi; omega))
        · rw [← HFq.out]
          exact rp_no (fun e => by rw [HGf.out] at e; cases e.1) rfl
      | true =>
        rw [hG, chkN_good hG] at CT
        simp only [if_true] at CT
        have HGf := hideW hG
        clear hG
        have HQ : Hid (((bstr (stx F)).toList == t.toList) = decide (stx F = tl)) := hideW (by rw [HTB.out, bstr_l tl]; exact bstr_eq _ _)
        generalize hbt : bstr (stx F) = BT at *
        clear hbt
        by_cases hm : stx F = tl
        · have hq : (BT.toList == t.toList) = true := HQ.out.trans (decide_eq_true hm)
          have hq2 : (BT.toList != t.toList) = false := by rw [bne, hq]; rfl
          have HM := hideW hm
          clear hm HQ
          go_wp2_with (go_at_call 6; refine CT.out.mono ?_; clear CT; rintro e W5 ⟨rfl, K5⟩; have HR5 := hideW (K5.heap HRw.out (fun f => f)); have f5 := free_of_one HR5.out; have c5 := cell_of_one HR5.out; have b5 := cell_of_one (K5.heap HSb.out (fun f => f)); have HF5 := hideW (HFs.out.kept K5); have HK5 := hideW K5; clear K5)
          have c6 : (W5.setCell ⟨br, 0, none⟩ (.slice a i c)).cell? ⟨br, 0, none⟩ = some (.slice a i c) := cell_of_one (one_setCell HR5.out)
          refine bodyPost_ret (v := .tuple #[.agg #[.slice a i c], .int .i64 0]) (by simp [results, Tryd.results9, go_sem, c6]) rfl ⟨?_, ?_⟩
          · exact (HKw.out.trans HK5.out (fun _ f => f.elim)).trans (Kept.setCell _ _ _) (fun i hi => .inr (by have := HBR.out; simp only at hi; omega))
          · rw [← HFq.out]
            exact rp_yes ⟨HGf.out, HM.out⟩ HLn.out rfl (HF5.out.put br HRe.out)
        · have hq : (BT.toList == t.toList) = false := HQ.out.trans (decide_eq_false hm)
          have hq2 : (BT.toList != t.toList) = true := by rw [bne, hq]; rfl
          have HM := hideW hm
          clear hm HQ
          go_wp2_with (go_at_call 6; refine CT.out.mono ?_; clear CT; rintro e W5 ⟨rfl, K5⟩; have HR5 := hideW (K5.heap HRw.out (fun f => f)); have f5 := free_of_one HR5.out; have c5 := cell_of_one HR5.out; have HK5 := hideW K5; clear K5)
          have c6 : (W5.setCell ⟨br, 0, none⟩ (.slice none 0 0)).cell? ⟨br, 0, none⟩ = some (.slice none 0 0) := cell_of_one (one_setCell HR5.out)
          refine bodyPost_ret (v := .tuple #[.agg #[.slice none 0 0], .int .i64 11]) (by simp [results, Tryd.results9, go_sem, c6]) rfl ⟨?_, ?_⟩
          · exact (HKw.out.trans HK5.out (fun _ f => f.elim)).trans (Kept.setCell _ _ _) (fun i hi => .inr (by have := HBR.out; simp only at hi; omega))
          · rw [← HFq.out]
            exact rp_no (fun e => HM.out e.2) rfl
end Go.Proofs.YthiamcopbgeedaaDoor
