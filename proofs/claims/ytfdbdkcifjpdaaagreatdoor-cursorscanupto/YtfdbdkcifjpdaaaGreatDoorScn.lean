import Derived.Test.YtfdbdkcifjpdaaaGreatDoorMrg7
namespace Go.Proofs.YtfdbdkcifjpdaaaGreatDoor
open Go.ChangeShapes Go.WideShapes Go.ChangeAt Go.RowKit

theorem Gro.cellset {w0 W : World} {e : TypeId} {sz : Nat} {v : Value} {n : Nat} {xs : List Value} (h : Gro w0 W e sz v n xs) (b o : Nat) (u : Value) (hb : w0.heap.size ≤ b) (hv : ∀ i, v.ownBlock = some i → i ≠ b) : Gro w0 (W.setCell ⟨b, o, none⟩ u) e sz v n xs :=
  ⟨(Kept.setCell W ⟨b, o, none⟩ u).row h.own (fun i hi f => hv i hi f), h.kept.trans (Kept.setCell W ⟨b, o, none⟩ u) (fun i hi => .inr (by simp only at hi; omega))⟩
theorem in40_brt (l : List Int) : In40 (l.map (brt 41)) := by
  intro x hx
  obtain ⟨y, _, rfl⟩ := List.mem_map.1 hx
  have := brt_lo (m := 41) (by decide) y
  have := brt_hi (m := 41) (by decide) y
  omega
theorem ctotal_any {W0 : Bs} (W : World) {cb bl : Nat} {P : List Po} {u : Nat} {mv nb : Int} {bv : Value} {pa : Option Addr} {pc : Nat} {ask : Bool} (h : CuAt W0 W cb bl P u mv nb bv pa pc ask) : Calls Tryz.prog 9 #[.pointer (some ⟨cb, 0, none⟩)] W fun e w' => e = .returned (.int .i64 ((tot P : Nat) : Int)) ∧ w' = W := by
  have CD := hideP (total_of bl P W h.opn)
  obtain ⟨-, -, -, c3, -, -, -, -⟩ := h.cells
  clear h
  generalize tot P = n at *
  go_enter Tryz.func9, Tryz.ntmps9
  go_wp2_with (go_at_call 23; refine CD.out.mono ?_; clear CD; rintro e W1 ⟨rfl, rfl⟩)
  go_ret
  exact ⟨rfl, rfl⟩
set_option maxRecDepth 20000 in
set_option maxHeartbeats 16000000 in
theorem scan_walk (hFx : ∀ (ad : Nat → Addr) (W : World), ErQ W ad → Calls Tryz.prog 4 #[] W fun e w' => e = .returned (.bool true) ∧ Kept (fun _ => False) W w') (Gp F T : List Int) (ga fa ta : Option Addr) (gc fc tc : Nat) (ad : Nat → Addr) (W : World) (hG : IntsAt W ga Gp) (hF : IntsAt W fa F) (hT : IntsAt W ta T) (hlg : Gp.length ≤ 1048576) (_hlf : F.length ≤ 1048576) (hlt : T.length ≤ 1048576) (hIT : IsInts T) (hE : ErQ W ad) :
    Calls Tryz.prog 3 #[.slice ga Gp.length gc, .slice fa F.length fc, .slice ta T.length tc] W fun e w' => e = .returned (.bool true) ∧ Kept (fun _ => False) W w' := by
  have CF := hideP (hFx ad W hE)
  have CI := hideP (fun W' (k : Kept (fun _ => False) W W') => ints40_any Gp ga gc W' (hG.kept k) hlg)
  have HE := hideP hE
  have HF := hideP hF
  have HT := hideP hT
  have HIT := hideP hIT
  obtain ⟨G, hGG⟩ : ∃ G, G = Gp.map (brt 41) := ⟨_, rfl⟩
  have H40 : Hid (In40 G) := hideP (by rw [hGG]; exact in40_brt Gp)
  rw [← hGG] at CI
  obtain ⟨N, hN⟩ : ∃ N, N = Gp.length := ⟨_, rfl⟩
  have HGN : Hid (N = G.length) := hideP (by rw [hGG, List.length_map, hN])
  obtain ⟨nF, hnF⟩ : ∃ nF, nF = F.length := ⟨_, rfl⟩
  obtain ⟨nT, hnT⟩ : ∃ nT, nT = T.length := ⟨_, rfl⟩
  have HNF := hideP hnF
  have HNT := hideP hnT
  rw [← hN] at CI hlg ⊢
  rw [← hnF] at _hlf ⊢
  rw [← hnT] at hlt ⊢
  clear hFx hG hF hT hIT hE hGG hN hnF hnT
  go_enter Tryz.func3, Tryz.ntmps3
  go_wp2_with (go_at_call 4; refine StpQ.go ?_)
  refine ⟨?_⟩
  refine CF.out.mono ?_
  clear CF
  rintro e W1 ⟨rfl, k1⟩
  have CI1 := hideP (CI.out W1 k1)
  have HK1 := hideP k1
  clear k1 CI
  go_wp2_with (go_at_call 5; refine StpQ.go ?_)
  refine ⟨?_⟩
  refine CI1.out.mono ?_
  clear CI1
  rintro e W2 ⟨a2, c2, rfl, hI2, k2⟩
  have HI2 := hideP hI2
  have HK2 := hideP (HK1.out.trans k2 (fun _ f => f.elim))
  have HF2 := hideP (HF.out.kept HK2.out)
  clear hI2 k2 HK1 HF
  go_wp2
  go_loopw [7, 8, 9, 35] (fun s7 s8 s9 s35 wr => ∃ (k : Nat) (FL : List Pg) (sa : Option Addr) (sc tt : Nat) (dd : Int), k ≤ N ∧ tt ≤ 5242880 ∧ -1 ≤ dd ∧ dd ≤ 43000000 ∧ s35 = .int .i64 k ∧ s7 = .slice sa k sc ∧ s8 = .int .i64 dd ∧ s9 = .int .i64 tt ∧ Hid (dd = dcl G k) ∧ Hid (tt = tot (scl G F k)) ∧ Hid (pol FL = scl G F k) ∧ Hid (Gps (fun _ => False) W2 wr (.slice sa k sc) k FL)) (fun _ _ _ s35 _ => N - (intOf s35).toNat)
  case atStart => exact ⟨0, [], none, 0, 0, -1, by omega, by omega, by omega, by omega, rfl, rfl, rfl, rfl, hideP rfl, hideP rfl, hideP rfl, hideP ⟨⟨rfl, .inl ⟨rfl, rfl⟩⟩, Kept.refl _ _, fun g hg => (by cases hg), fun g hg => (by cases hg)⟩⟩
  case round =>
    rename World => V0
    obtain ⟨k, FL, sa, sc, tt, dd, hk, htt, hd1, hd2, rfl, rfl, rfl, rfl, HDD, HTT, HPF, HGP⟩ := hrel
    by_cases hkN : k < N
    · have hkk : (k : Int) < (N : Int) := by omega
      have hkG : k < G.length := by rw [← HGN.out]; exact hkN
      obtain ⟨ab, ao, rfl, hac⟩ := HI2.out (by intro e; rw [e] at hkG; simp at hkG)
      have y0 := HGP.out.kept.cell (hac k hkG) (fun f => f)
      obtain ⟨g1, g2⟩ := H40.out.at k
      obtain ⟨g, hg⟩ : ∃ g, g = G[k]?.getD 0 := ⟨_, rfl⟩
      rw [← hg] at y0 g1 g2
      have HG0 := hideP hg
      have HD1 : Hid (dd + (1 + g) = dcl G (k + 1)) := hideP (by rw [dcl, ← HDD.out, ← hg])
      obtain ⟨D, hD⟩ : ∃ D, D = dd + (1 + g) := ⟨_, rfl⟩
      have HDE : Hid (D = dcl G (k + 1)) := hideP (by rw [hD]; exact HD1.out)
      have hdl := dcl_le H40.out (k + 1)
      have d3 : -1 ≤ D := by omega
      have d4 : D ≤ 43000000 := by rw [HDE.out]; omega
      have hDr : dd + (1 + g) = D := hD.symm
      obtain ⟨nf, hnf⟩ : ∃ nf, nf = nfr F k := ⟨_, rfl⟩
      obtain ⟨n1, n2⟩ := nfr_pos F k
      rw [← hnf] at n1 n2
      have HNFR := hideP hnf
      clear hac hg hD hdl hnf HD1
      have hFk : (∃ x, Hid (F[k]? = some x) ∧ k < nF ∧ (V0.alloc (.cells #[.int .i64 D, .slice none 0 0] 27)).cell? ⟨(fa.getD ⟨0, 0, none⟩).block, (fa.getD ⟨0, 0, none⟩).off + k, none⟩ = some (.int .i64 x) ∧ fa = some ⟨(fa.getD ⟨0, 0, none⟩).block, (fa.getD ⟨0, 0, none⟩).off, none⟩) ∨ (¬ k < nF) := by
        by_cases hf : k < nF
        · have hfl : k < F.length := by rw [← HNF.out]; exact hf
          obtain ⟨fb, fo, rfl, hfc⟩ := HF2.out (by intro e; rw [e] at hfl; simp at hfl)
          refine .inl ⟨F[k], hideP (List.getElem?_eq_getElem hfl), hf, ?_, rfl⟩
          have z := hfc k hfl
          rw [List.getElem?_eq_getElem hfl] at z
          exact (Kept.alloc V0 _).cell (HGP.out.kept.cell z (fun f => f)) (fun f => f)
        · exact .inr hf
      rcases hFk with ⟨x, HX, hxk, y1, hfa⟩ | hf
      · as_aux_lemma =>
          obtain ⟨B, hB⟩ : ∃ B, B = brt 5 x := ⟨_, rfl⟩
          have b1 := brt_lo (m := 5) (by decide) x
          have b2 := brt_hi (m := 5) (by decide) x
          have e3 : (IntKind.u64.wrap x).tmod 5 = B := by rw [hB, Int.tmod_eq_emod_of_nonneg (by rw [IntKind.wrap_u64]; omega)]; rfl
          rw [← hB] at b1 b2
          have e4 : 1 + B = (nf : Int) := by
            have h := HNFR.out
            unfold nfr at h
            rw [HX.out] at h
            simp only [← hB] at h
            omega
          have hff : (k : Int) < (nF : Int) := by omega
          obtain ⟨fb, hfb⟩ : ∃ fb, fb = (fa.getD ⟨0, 0, none⟩).block := ⟨_, rfl⟩
          obtain ⟨fo, hfo⟩ : ∃ fo, fo = (fa.getD ⟨0, 0, none⟩).off := ⟨_, rfl⟩
          rw [← hfb, ← hfo] at y1 hfa
          clear hfb hfo hB
          subst hfa
          have HPB : Hid ((V0.alloc (.cells #[.int .i64 D, .slice none 0 0] 27)).heap[V0.heap.size]? = some (.cells #[.int .i64 D, .slice none 0 0] 27 (0, 0))) := hideP (heap_alloc_new V0 _)
          have HKV := hideP (Kept.alloc V0 (.cells #[.int .i64 D, .slice none 0 0] 27))
          go_wp2
          generalize hpb : V0.heap.size = pb at HPB ⊢
          have HPBN : Hid (V0.heap.size ≤ pb) := hideP (by omega)
          clear hpb
          generalize V0.alloc (.cells #[.int .i64 D, .slice none 0 0] 27) = V1 at *
          go_loopw [14] (fun s14 w2 => ∃ (j : Nat) (pa : Option Addr) (pc : Nat), j ≤ nf ∧ s14 = .int .i64 j ∧ Hid (Gro V0 w2 3 1 (.slice pa j pc) j (is (posl g j))) ∧ Hid (w2.heap[pb]? = some (.cells #[.int .i64 D, .slice pa j pc] 27 (0, 0))) ∧ Hid (∀ i, (Value.slice pa j pc).ownBlock = some i → i ≠ pb)) (fun s14 _ => nf - (intOf s14).toNat)
          case atStart => exact ⟨0, none, 0, by omega, rfl, hideP ((gro_nil V0 _ _).later HKV.out), HPB, hideP (fun i hi => by cases hi)⟩
          case round =>
            obtain ⟨j, pa, pc, hj, rfl, HGj, HPj, HOj⟩ := hrel
            have v0 : wr.cell? ⟨pb, 0, none⟩ = some (.int .i64 D) := by rw [cell_of_row _ pb 0 _ _ _ HPj.out]; rfl
            have v1 : wr.cell? ⟨pb, 1, none⟩ = some (.slice pa j pc) := by rw [cell_of_row _ pb 1 _ _ _ HPj.out]; rfl
            by_cases hjn : j < nf
            · as_aux_lemma =>
                have hjj : (j : Int) < (nf : Int) := by omega
                have hpbw : pb < wr.heap.size := lt_of_block HPj.out
                have HPW := hideP hpbw
                clear hpbw
                go_wp2_with (at_builtin; refine StpQ.go ?_)
                refine ⟨?_⟩
                refine wpList_pushN rfl (.tmp 65) (.tmp 70) rfl (.slice pa j pc) j (posl g j) (7 * (j : Int) + g) (by rfl) HGj wr.heap.size rfl (by rfl) (by omega) ?_
                intro g5 c5 W5 HG5 HS5
                rw [← posl_step] at HG5
                have hpb5 : W5.heap[pb]? = some (.cells #[.int .i64 D, .slice pa j pc] 27 (0, 0)) := HS5.out.kept.heap HPj.out (fun f => HOj.out pb f rfl)
                have hne5 : g5 ≠ pb := by
                  rcases HS5.out.new g5 rfl with q | q
                  · exact HOj.out g5 q
                  · have := HPW.out; omega
                have p1 : W5.cell? ⟨pb, 1, none⟩ = some (.slice pa j pc) := by rw [cell_of_row _ pb 1 _ _ _ hpb5]; rfl
                have f1 : W5.frozen? ⟨pb, 1, none⟩ = false := by simp [World.frozen?, hpb5]
                have HPB6 : Hid ((W5.setCell ⟨pb, 1, none⟩ (.slice (some ⟨g5, 0, none⟩) (j + 1) c5)).heap[pb]? = some (.cells #[.int .i64 D, .slice (some ⟨g5, 0, none⟩) (j + 1) c5] 27 (0, 0))) := hideP (heap_setCell_same W5 pb 1 _ _ _ hpb5)
                have HG6 := hideP (HG5.out.cellset pb 1 (.slice (some ⟨g5, 0, none⟩) (j + 1) c5) HPBN.out (fun i hi => by
                  simp [Value.ownBlock] at hi
                  rw [← hi]
                  exact hne5))
                have HO6 : Hid (∀ i, (Value.slice (some ⟨g5, 0, none⟩) (j + 1) c5).ownBlock = some i → i ≠ pb) := hideP (fun i hi => by
                  simp [Value.ownBlock] at hi
                  rw [← hi]
                  exact hne5)
                clear HG5 HS5 hpb5 hne5 v0 v1 HGj HPj HOj
                go_wp2
                go_roundw
                case rel => exact ⟨j + 1, some ⟨g5, 0, none⟩, c5, by omega, by go_num, HG6, HPB6, HO6⟩
                case measure => simp [intOf]; omega
            · as_aux_lemma =>
                obtain rfl : j = nf := by omega
                have hKV := HGj.out.kept
                have HGPw := hideP (HGP.out.step hKV (fun _ f => f.elim))
                have GW := hideP HGPw.out.own
                have s4 : W2.heap.size ≤ wr.heap.size := HGPw.out.kept.size
                have hpn : Hid (j = (posl g j).length) := hideP (by rw [posl_len])
                have HIw : Hid (IntsAt wr pa (posl g j)) := hideP (by
                  obtain ⟨g7, rfl, -, -⟩ := HGj.out.cell n1
                  exact gro_intsC HGj.out hpn.out)
                have HFar : Hid (∃ b off, pa = some ⟨b, off, none⟩ ∧ W2.heap.size ≤ b ∧ b < wr.heap.size ∧ Value.ownBlock (.slice sa k sc) ≠ some b) := hideP (by
                  obtain ⟨g7, rfl, -, -⟩ := HGj.out.cell n1
                  have h7 := HGj.out.own.lt g7 rfl
                  refine ⟨g7, 0, rfl, Nat.le_trans HGP.out.kept.size h7.1, h7.2, fun e => ?_⟩
                  have h8 := (HGP.out.own.lt g7 e).2
                  omega)
                have htt2 : tt + j ≤ 5242880 := by
                  have h1 := HTT.out
                  have h2 := scl_tot G F k
                  omega
                have HTT2 : Hid (tt + j = tot (scl G F (k + 1))) := hideP (by rw [scl, tot_append, ← HTT.out]; simp only [tot, posl_len]; rw [← HNFR.out]; rfl)
                clear hKV HKV HPB
                go_wp2_with (at_builtin; refine wpList_pushG rfl _ _ rfl _ k (pcs FL) ⟨D, pa, pc, posl g j⟩ j hpn.out rfl GW s4 _ (by first | rfl | simp) rfl (by omega) ?_; intro gb c' W5 O5 K5 A5)
                have HG5 := hideP (HGPw.out.more O5.out K5.out A5.out (M := [⟨D, pa, pc, posl g j⟩]) (fun g' hg' => by
                  rw [List.mem_singleton] at hg'
                  subst hg'
                  exact HIw.out) (fun g' hg' _ => by
                  rw [List.mem_singleton] at hg'
                  subst hg'
                  exact HFar.out))
                have HP5 : Hid (pol (FL ++ [⟨D, pa, pc, posl g j⟩]) = scl G F (k + 1)) := hideP (by
                  rw [scl, ← HPF.out, ← HDE.out, ← HG0.out, ← HNFR.out]
                  simp [pol, Pg.po])
                generalize (FL ++ [⟨D, pa, pc, posl g j⟩] : List Pg) = FL5 at *
                clear O5 K5 A5 GW HGPw HIw HFar s4
                go_wp2
                go_roundw
                case rel => exact ⟨k + 1, FL5, _, c', tt + j, D, by omega, by omega, by omega, by omega, by go_num, rfl, rfl, by first | go_num | (rw [E4.out]; go_num), HDE, HTT2, HP5, HG5⟩
                case measure => simp [intOf]; omega

      · as_aux_lemma =>
          have e4 : nf = 1 := by
            have h := HNFR.out
            unfold nfr at h
            rw [List.getElem?_eq_none (by rw [← HNF.out]; omega)] at h
            exact h
          have hff : ¬ (k : Int) < (nF : Int) := by omega
          have HPB : Hid ((V0.alloc (.cells #[.int .i64 D, .slice none 0 0] 27)).heap[V0.heap.size]? = some (.cells #[.int .i64 D, .slice none 0 0] 27 (0, 0))) := hideP (heap_alloc_new V0 _)
          have HKV := hideP (Kept.alloc V0 (.cells #[.int .i64 D, .slice none 0 0] 27))
          go_wp2
          generalize hpb : V0.heap.size = pb at HPB ⊢
          have HPBN : Hid (V0.heap.size ≤ pb) := hideP (by omega)
          clear hpb
          generalize V0.alloc (.cells #[.int .i64 D, .slice none 0 0] 27) = V1 at *
          go_loopw [14] (fun s14 w2 => ∃ (j : Nat) (pa : Option Addr) (pc : Nat), j ≤ nf ∧ s14 = .int .i64 j ∧ Hid (Gro V0 w2 3 1 (.slice pa j pc) j (is (posl g j))) ∧ Hid (w2.heap[pb]? = some (.cells #[.int .i64 D, .slice pa j pc] 27 (0, 0))) ∧ Hid (∀ i, (Value.slice pa j pc).ownBlock = some i → i ≠ pb)) (fun s14 _ => nf - (intOf s14).toNat)
          case atStart => exact ⟨0, none, 0, by omega, rfl, hideP ((gro_nil V0 _ _).later HKV.out), HPB, hideP (fun i hi => by cases hi)⟩
          case round =>
            obtain ⟨j, pa, pc, hj, rfl, HGj, HPj, HOj⟩ := hrel
            have v0 : wr.cell? ⟨pb, 0, none⟩ = some (.int .i64 D) := by rw [cell_of_row _ pb 0 _ _ _ HPj.out]; rfl
            have v1 : wr.cell? ⟨pb, 1, none⟩ = some (.slice pa j pc) := by rw [cell_of_row _ pb 1 _ _ _ HPj.out]; rfl
            by_cases hjn : j < nf
            · as_aux_lemma =>
                have hjj : (j : Int) < 1 := by omega
                have hpbw : pb < wr.heap.size := lt_of_block HPj.out
                have HPW := hideP hpbw
                clear hpbw
                go_wp2_with (at_builtin; refine StpQ.go ?_)
                refine ⟨?_⟩
                refine wpList_pushN rfl (.tmp 65) (.tmp 70) rfl (.slice pa j pc) j (posl g j) (7 * (j : Int) + g) (by rfl) HGj wr.heap.size rfl (by rfl) (by omega) ?_
                intro g5 c5 W5 HG5 HS5
                rw [← posl_step] at HG5
                have hpb5 : W5.heap[pb]? = some (.cells #[.int .i64 D, .slice pa j pc] 27 (0, 0)) := HS5.out.kept.heap HPj.out (fun f => HOj.out pb f rfl)
                have hne5 : g5 ≠ pb := by
                  rcases HS5.out.new g5 rfl with q | q
                  · exact HOj.out g5 q
                  · have := HPW.out; omega
                have p1 : W5.cell? ⟨pb, 1, none⟩ = some (.slice pa j pc) := by rw [cell_of_row _ pb 1 _ _ _ hpb5]; rfl
                have f1 : W5.frozen? ⟨pb, 1, none⟩ = false := by simp [World.frozen?, hpb5]
                have HPB6 : Hid ((W5.setCell ⟨pb, 1, none⟩ (.slice (some ⟨g5, 0, none⟩) (j + 1) c5)).heap[pb]? = some (.cells #[.int .i64 D, .slice (some ⟨g5, 0, none⟩) (j + 1) c5] 27 (0, 0))) := hideP (heap_setCell_same W5 pb 1 _ _ _ hpb5)
                have HG6 := hideP (HG5.out.cellset pb 1 (.slice (some ⟨g5, 0, none⟩) (j + 1) c5) HPBN.out (fun i hi => by
                  simp [Value.ownBlock] at hi
                  rw [← hi]
                  exact hne5))
                have HO6 : Hid (∀ i, (Value.slice (some ⟨g5, 0, none⟩) (j + 1) c5).ownBlock = some i → i ≠ pb) := hideP (fun i hi => by
                  simp [Value.ownBlock] at hi
                  rw [← hi]
                  exact hne5)
                clear HG5 HS5 hpb5 hne5 v0 v1 HGj HPj HOj
                go_wp2
                go_roundw
                case rel => exact ⟨j + 1, some ⟨g5, 0, none⟩, c5, by omega, by go_num, HG6, HPB6, HO6⟩
                case measure => simp [intOf]; omega
            · as_aux_lemma =>
                have hjj : ¬ (j : Int) < 1 := by omega
                obtain rfl : j = nf := by omega
                have E4 := hideP e4
                clear e4
                have hKV := HGj.out.kept
                have HGPw := hideP (HGP.out.step hKV (fun _ f => f.elim))
                have GW := hideP HGPw.out.own
                have s4 : W2.heap.size ≤ wr.heap.size := HGPw.out.kept.size
                have hpn : Hid (j = (posl g j).length) := hideP (by rw [posl_len])
                have HIw : Hid (IntsAt wr pa (posl g j)) := hideP (by
                  obtain ⟨g7, rfl, -, -⟩ := HGj.out.cell n1
                  exact gro_intsC HGj.out hpn.out)
                have HFar : Hid (∃ b off, pa = some ⟨b, off, none⟩ ∧ W2.heap.size ≤ b ∧ b < wr.heap.size ∧ Value.ownBlock (.slice sa k sc) ≠ some b) := hideP (by
                  obtain ⟨g7, rfl, -, -⟩ := HGj.out.cell n1
                  have h7 := HGj.out.own.lt g7 rfl
                  refine ⟨g7, 0, rfl, Nat.le_trans HGP.out.kept.size h7.1, h7.2, fun e => ?_⟩
                  have h8 := (HGP.out.own.lt g7 e).2
                  omega)
                have htt2 : tt + j ≤ 5242880 := by
                  have h1 := HTT.out
                  have h2 := scl_tot G F k
                  omega
                have HTT2 : Hid (tt + j = tot (scl G F (k + 1))) := hideP (by rw [scl, tot_append, ← HTT.out]; simp only [tot, posl_len]; rw [← HNFR.out]; rfl)
                clear hKV HKV HPB
                go_wp2_with (at_builtin; refine wpList_pushG rfl _ _ rfl _ k (pcs FL) ⟨D, pa, pc, posl g j⟩ j hpn.out rfl GW s4 _ (by first | rfl | simp) rfl (by omega) ?_; intro gb c' W5 O5 K5 A5)
                have HG5 := hideP (HGPw.out.more O5.out K5.out A5.out (M := [⟨D, pa, pc, posl g j⟩]) (fun g' hg' => by
                  rw [List.mem_singleton] at hg'
                  subst hg'
                  exact HIw.out) (fun g' hg' _ => by
                  rw [List.mem_singleton] at hg'
                  subst hg'
                  exact HFar.out))
                have HP5 : Hid (pol (FL ++ [⟨D, pa, pc, posl g j⟩]) = scl G F (k + 1)) := hideP (by
                  rw [scl, ← HPF.out, ← HDE.out, ← HG0.out, ← HNFR.out]
                  simp [pol, Pg.po])
                generalize (FL ++ [⟨D, pa, pc, posl g j⟩] : List Pg) = FL5 at *
                clear O5 K5 A5 GW HGPw HIw HFar s4
                go_wp2
                go_roundw
                case rel => exact ⟨k + 1, FL5, _, c', tt + j, D, by omega, by omega, by omega, by omega, by go_num, rfl, rfl, by first | go_num | (rw [E4.out]; go_num), HDE, HTT2, HP5, HG5⟩
                case measure => simp [intOf]; omega
    · as_aux_lemma =>
        obtain rfl : k = N := by omega
        have hPs := HGP.out.at
        have HPs := hideP hPs.1
        have HFL := hideP hPs.2.1
        have HSC := hideP hPs.2.2
        clear hPs
        obtain ⟨P, hP⟩ : ∃ P, P = scl G F k := ⟨_, rfl⟩
        have HPP : Hid (pol FL = P) := hideP (by rw [hP]; exact HPF.out)
        have HGD : Hid (gdl (-1) P) := hideP (by rw [hP]; exact scl_good H40.out k hlg)
        have HPL : Hid (P.length = k) := hideP (by rw [hP]; exact scl_len G F k)
        have HTP : Hid (tt = tot P) := hideP (by rw [hP]; exact HTT.out)
        have HIL : Hid ((img P).length ≤ 1073741824) := hideP (img_leS HGD.out (by rw [HPL.out]; exact hlg) (by rw [← HTP.out]; exact htt))
        have HKW := hideP (HK2.out.trans HGP.out.kept (fun _ f => f.elim))
        have HEr := hideP (HE.out.kept HKW.out)
        have CE := hideP (encode_good FL sa sc ad V0 HPs.out (by rw [HPP.out]; exact HGD.out) (by rw [← HFL.out]; omega) (by rw [← HFL.out]; exact HSC.out) (by rw [HPP.out, ← HTP.out]; omega) HEr.out)
        rw [HPP.out, ← HFL.out] at CE
        clear hP HPF HDD HTT HGP HI2 HF2 HK2 H40 HGN HE
        obtain ⟨il, hil⟩ : ∃ il, il = (img P).length := ⟨_, rfl⟩
        rw [← hil] at CE
        have HILE := hideP hil
        clear hil
        go_wp2_with (go_at_call 6; refine StpQ.go ?_)
        refine ⟨?_⟩
        refine CE.out.mono ?_
        clear CE
        rintro e W4 ⟨gb, hgb, rfl, hrow, k4⟩
        have hB4 : BytesAt W4 (some ⟨gb, 0, none⟩) (img P) := by
          have h := hrow
          rw [HILE.out] at h
          exact bytesAt_own h
        have HK4 := hideP (HKW.out.trans k4 (fun _ f => f.elim))
        have HE4 := hideP (HEr.out.kept k4)
        have CO := hideP (copen_good P (some ⟨gb, 0, none⟩) il ad W4 hB4 HGD.out HIL.out HE4.out)
        rw [← HILE.out] at CO
        have HB4 := hideP hB4
        have HPs4 := hideP (HPs.out.kept k4)
        clear hrow hB4 k4 HKW HEr hgb HPs
        go_wp2_with (go_at_call 7; refine StpQ.go ?_)
        refine ⟨?_⟩
        refine CO.out.mono ?_
        clear CO
        rintro e W5 ⟨ca, la, X0, rfl, hA5, hca, kx5, k5⟩
        have HA5 := hideP hA5
        have HX5 := hideP kx5
        have HK5 := hideP (HK4.out.trans k5 (fun _ f => f.elim))
        have HCA : Hid (W4.heap.size ≤ ca) := hideP hca
        have CO := hideP (copen_good P (some ⟨gb, 0, none⟩) il ad W5 (HB4.out.kept k5) HGD.out HIL.out (HE4.out.kept k5))
        rw [← HILE.out] at CO
        have HCAL : Hid (ca < W5.heap.size) := hideP hA5.raw.lt
        clear hA5 hca kx5 HB4
        go_wp2_with (go_at_call 7; refine StpQ.go ?_)
        refine ⟨?_⟩
        refine CO.out.mono ?_
        clear CO
        rintro e W6 ⟨cn, ln, Y0, rfl, hA6, hcn, ky6, k6⟩
        have HSA := hideP (HA5.out.later k6)
        have HTW := hideP (two_start HA5.out HCA.out HX5.out k5 hA6 hcn ky6 k6)
        have HOK : Hid (Okp P) := hideP ⟨HGD.out, HIL.out, by rw [HPL.out]; exact hlg, by rw [← HTP.out]; exact htt⟩
        have CDa := hideP (cdocs_any W6 HSA.out)
        have CTa := hideP (ctotal_any W6 HSA.out)
        rw [HPL.out] at CDa
        rw [← HTP.out] at CTa
        clear hA6 hcn ky6 k6 k5 HK5 HCAL HSA HX5 HCA HA5 HILE HSC HIL HGD
        go_wp2_with (first
          | (go_at_call 8; refine CDa.out.mono ?_; clear CDa; rintro e W7 ⟨rfl, rfl⟩)
          | (go_at_call 9; refine CTa.out.mono ?_; clear CTa; rintro e W7 ⟨rfl, rfl⟩))

        go_loopw [20, 127] (fun s20 s127 wr => ∃ (m at_ ma mn : Nat) (aa an : Bool), m ≤ nT ∧ at_ ≤ k + 1 ∧ s127 = .int .i64 m ∧ s20 = .int .i64 at_ ∧ Hid (TwoC W4 ca la cn ln P wr at_ ma aa at_ mn an)) (fun _ s127 _ => nT - (intOf s127).toNat)
        case atStart => exact ⟨0, 0, 0, 0, false, false, by omega, by omega, rfl, rfl, HTW⟩
        case round =>
          rename World => V3
          obtain ⟨m, at_, ma, mn, aa, an, hm, hat, rfl, rfl, H2⟩ := hrel
          by_cases hmn : m < nT
          · have hmm : (m : Int) < (nT : Int) := by omega
            have hmT : m < T.length := by rw [← HNT.out]; exact hmn
            obtain ⟨tb, to_, rfl, htc⟩ := HT.out (by intro e; rw [e] at hmT; simp at hmT)
            have y0 := (HK4.out.trans H2.out.kept (fun _ f => f.elim)).cell (htc m hmT) (fun f => f)
            obtain ⟨g1, g2⟩ := HIT.out.at hmT
            obtain ⟨t, ht⟩ : ∃ t, t = T[m]?.getD 0 := ⟨_, rfl⟩
            rw [← ht] at y0 g1 g2
            clear ht htc
            by_cases h0 : t < 0
            · as_aux_lemma =>
                obtain ⟨r, hr⟩ : ∃ r, r = t.tmod 3 := ⟨_, rfl⟩
                have r1 : -2 ≤ r ∧ r ≤ 0 := by
                  have h1 : (-t).tmod 3 = (-t) % 3 := Int.tmod_eq_emod_of_nonneg (by omega)
                  rw [Int.neg_tmod] at h1
                  omega
                obtain ⟨dA, hdA⟩ : ∃ d, d = docU P at_ := ⟨_, rfl⟩
                have hdb := docU_bd HOK.out.hg at_
                rw [← hdA] at hdb
                obtain ⟨hdb1, hdb2, -⟩ := hdb
                obtain ⟨t2, ht2⟩ : ∃ t2, t2 = dA + 1 - r := ⟨_, rfl⟩
                have e3 : t.tmod 3 = r := hr.symm
                have e4 : dA + 1 - r = t2 := ht2.symm
                have CD := hideP (two_docA V3 H2.out)
                rw [← hdA] at CD
                clear hr ht2 hdA
                obtain ⟨v, hv⟩ : ∃ v, v = advU P at_ t2 := ⟨_, rfl⟩
                obtain ⟨hv1, hv2⟩ := advU_le (t := t2) HOK.out.hg (show at_ ≤ P.length + 1 by rw [HPL.out]; exact hat)
                rw [← hv, HPL.out] at hv2
                rw [← hv] at hv1
                obtain ⟨dv, hdv⟩ : ∃ dv, dv = docU P v := ⟨_, rfl⟩
                have CM := hideP (two_movesA V3 H2.out)
                have CA := hideP (two_advA V3 t2 ad H2.out (by rw [HPL.out]; exact hat) HOK.out HE4.out)
                rw [← hv, ← hdv] at CA
                have HV := hideP hv
                have HDV := hideP hdv
                clear hv hdv
                go_wp2_with (first
                  | (go_at_call 10; refine CD.out.mono ?_; clear CD; rintro e W7 ⟨rfl, rfl⟩)
                  | (go_at_call 11; refine CM.out.mono ?_; clear CM; rintro e W7 ⟨rfl, rfl⟩)
                  | (go_at_call 12; refine StpQ.go ?_))
                refine ⟨?_⟩
                refine CA.out.mono ?_
                clear CA
                rintro e W8 ⟨rfl, m2, b2, hm2, h8⟩
                have H8 := hideP h8
                clear h8
                go_wp2
                go_loopw [20] (fun s20 w2 => ∃ (x mx : Nat) (bx : Bool), at_ ≤ x ∧ x ≤ v ∧ s20 = .int .i64 x ∧ Hid (TwoC W4 ca la cn ln P w2 v m2 b2 x mx bx)) (fun s20 _ => v - (intOf s20).toNat)
                case atStart => exact ⟨at_, mn, an, Nat.le_refl _, hv1, rfl, H8⟩
                case round =>
                  rename World => V4
                  obtain ⟨x, mx, bx, hx1, hx2, rfl, H9⟩ := hrel
                  obtain ⟨dx, hdx⟩ : ∃ dx, dx = docU P x := ⟨_, rfl⟩
                  have CDn := hideP (two_docN V4 H9.out)
                  rw [← hdx] at CDn
                  by_cases hxv : x < v
                  · as_aux_lemma =>
                      obtain ⟨q1, q2, q3⟩ := advU_on (t := t2) HOK.out.hg (by rw [← HV.out]; exact hxv) hx1
                      rw [← hdx] at q1 q2
                      have q4 : (dx != 2147483647) = true := by rw [bne_iff_ne]; exact q2
                      have CN := hideP (two_nextN V4 ad H9.out q3 HOK.out HE4.out)
                      rw [HPL.out] at q3
                      clear hdx
                      go_wp2_with (first
                        | (go_at_call 10; refine CDn.out.mono ?_; rintro e W7 ⟨rfl, rfl⟩)
                        | (go_at_call 13; refine StpQ.go ?_))
                      refine ⟨?_⟩
                      refine CN.out.mono ?_
                      clear CN CDn q1 q2 q4
                      rintro e W10 ⟨rfl, h10⟩
                      have H10 := hideP h10
                      clear h10
                      obtain ⟨dy, hdy⟩ : ∃ dy, dy = docU P (x + 1) := ⟨_, rfl⟩
                      have CDy : Hid (∀ j, Calls Tryz.prog 10 #[.pointer (some ⟨cn, 0, none⟩)] (W10.drewN j) fun e w'' => e = .returned (.int .i64 dy) ∧ ∃ m, w'' = W10.drewN m) := hideP (fun j => (two_docN (W10.drewN j) (H10.out.later (Kept.drewN W10 j))).mono (fun _ _ q => ⟨by rw [hdy]; exact q.1, j, q.2⟩))
                      have r1 : ¬ (k : Int) + 1 < (x : Int) + 1 := by omega
                      have r1b : ¬ (k : Int) < (x : Int) := by omega
                      have r1c : ¬ k < x := by omega
                      by_cases hxk : x + 1 ≤ k
                      · as_aux_lemma =>
                          have r2 : (x : Int) + 1 ≤ (k : Int) := by omega
                          have r2b : (x : Int) < (k : Int) := by omega
                          have r2c : x < k := by omega
                          have r3 : (dy != dy) = false := by simp
                          obtain ⟨pb, po, ga, gc, rfl, z0, z1, z2⟩ := ps_at (HPs4.out.kept H10.out.kept) HPP.out (i := x) (by rw [HPL.out]; omega)
                          rw [← hdy] at z0
                          clear z1 z2 hdy
                          go_wp2_with fail
                          go_quiet ((exact CDy.out _))
                          go_wp2
                          go_roundw
                          case rel => exact ⟨x + 1, mx + 1, false, by omega, by omega, by go_num, hideP (H10.out.later (Kept.drewN W10 nq))⟩
                          case measure => simp [intOf]; omega
                      · as_aux_lemma =>
                          have r2 : ¬ (x : Int) + 1 ≤ (k : Int) := by omega
                          have r2b : decide ((x : Int) + 1 ≤ (k : Int)) = false := decide_eq_false r2
                          have r2c : decide ((x : Int) < (k : Int)) = false := decide_eq_false (by omega)
                          have r2d : decide (x < k) = false := decide_eq_false (by omega)
                          clear hdy
                          go_wp2_with fail
                          go_quiet ((exact CDy.out _))
                          go_wp2
                          go_roundw
                          case rel => exact ⟨x + 1, mx + 1, false, by omega, by omega, by go_num, hideP (H10.out.later (Kept.drewN W10 nq))⟩
                          case measure => simp [intOf]; omega
                  · as_aux_lemma =>
                      obtain rfl : x = v := by omega
                      have q5 := advU_end (P := P) (u := at_) (t := t2) (by rw [HPL.out]; exact hat)
                      rw [← HV.out, ← hdx] at q5
                      rcases Decidable.em (dx < t2) with q6 | q6
                      · as_aux_lemma =>
                          have q7 : (dx != 2147483647) = false := by
                            rw [bne_eq_false_iff_eq]
                            exact Decidable.byContradiction (fun e => q5 ⟨q6, e⟩)
                          obtain rfl : dx = dv := by rw [hdx, HDV.out]
                          obtain ⟨pl, hpl⟩ : ∃ pl, pl = (posU P x).length := ⟨_, rfl⟩
                          have CDa := hideP (two_docA V4 H9.out)
                          have CFa := hideP (two_freqA V4 H9.out)
                          have CFn := hideP (two_freqN V4 H9.out)
                          have CMa := hideP (two_movesA V4 H9.out)
                          have CPa := hideP (two_posA V4 H9.out (by rw [HPL.out]; exact hv2) HOK.out)
                          rw [← hdx] at CDa
                          rw [← hpl] at CFa CFn CPa
                          have hplb : pl ≤ 5242880 := by
                            have h1 := posU_le P x
                            have h2 := HOK.out.ht
                            omega
                          have s1 : (dx != dx) = false := by simp
                          have s2 : ((pl : Int) != (pl : Int)) = false := by simp
                          have s3 : ¬ (m2 : Int) < (ma : Int) := by omega
                          clear hdx H8
                          go_wp2_with (first
                            | (go_at_call 10; refine CDn.out.mono ?_; rintro e W7 ⟨rfl, rfl⟩)
                            | (go_at_call 10; refine CDa.out.mono ?_; rintro e W7 ⟨rfl, rfl⟩)
                            | (go_at_call 14; refine CFa.out.mono ?_; rintro e W7 ⟨rfl, rfl⟩)
                            | (go_at_call 14; refine CFn.out.mono ?_; rintro e W7 ⟨rfl, rfl⟩)
                            | (go_at_call 11; refine CMa.out.mono ?_; rintro e W7 ⟨rfl, rfl⟩)
                            | (go_at_call 15; refine StpQ.go ?_))
                          refine ⟨?_⟩
                          refine CPa.out.mono ?_
                          clear CPa CDn CDa CFa CFn CMa
                          rintro e W11 ⟨xa, xc, m3, rfl, hI11, hf11, h11⟩
                          have HI11 := hideP hI11
                          have HF11 := hideP hf11
                          have CPn := hideP (two_posN W11 h11 (by rw [HPL.out]; exact hv2) HOK.out)
                          rw [← hpl] at CPn
                          clear hI11 hf11 h11
                          go_wp2_with (go_at_call 15; refine StpQ.go ?_)
                          refine ⟨?_⟩
                          refine CPn.out.mono ?_
                          clear CPn
                          rintro e W12 ⟨ya, yc, m4, rfl, hI12, k12, h12⟩
                          have HIy := hideP hI12
                          have HIx : Hid (IntsAt W12 xa (posU P x)) := hideP (ints_step HI11.out k12 (fun hn => by
                            obtain ⟨g7, e7, h7⟩ := HF11.out hn
                            exact ⟨g7, 0, e7, fun e => by omega⟩))
                          have H12 := hideP h12
                          have CFa := hideP (two_freqA W12 h12)
                          rw [← hpl] at CFa
                          clear hI12 k12 h12 HI11 HF11
                          go_wp2_with (go_at_call 14; refine CFa.out.mono ?_; clear CFa; rintro e W7 ⟨rfl, h7⟩; obtain rfl := h7.symm; clear h7)
                          go_loopw [242] (fun s242 w2 => ∃ i : Nat, i ≤ pl ∧ s242 = .int .i64 i ∧ Hid (Kept (fun _ => False) W12 w2)) (fun s242 _ => pl - (intOf s242).toNat)
                          case atStart => exact ⟨0, Nat.zero_le _, rfl, hideP (Kept.refl _ _)⟩
                          case round =>
                            rename World => V5
                            obtain ⟨i, hi, rfl, HKi⟩ := hrel
                            by_cases hil : i < pl
                            · as_aux_lemma =>
                                have hii : (i : Int) < (pl : Int) := by omega
                                have hne : posU P x ≠ [] := by intro e; rw [e] at hpl; simp at hpl; omega
                                obtain ⟨hxa, hxb⟩ := posU_in hne
                                obtain ⟨w, hw⟩ : ∃ w, w = x - 1 := ⟨_, rfl⟩
                                obtain ⟨pb, po, ga, gc, rfl, z0, z1, z2⟩ := ps_at ((HPs4.out.kept H12.out.kept).kept HKi.out) HPP.out (i := w) (by omega)
                                rw [show w + 1 = x by omega] at z1 z2
                                rw [← hpl] at z1
                                rw [HPL.out] at hxb
                                obtain ⟨xb, xo, rfl, hxc⟩ := HIx.out hne
                                obtain ⟨yb, yo, rfl, hyc⟩ := HIy.out hne
                                obtain ⟨gb, go_, rfl, hgc⟩ := z2 hne
                                have c1 := HKi.out.cell (hxc i (by omega)) (fun f => f)
                                have c2 := HKi.out.cell (hyc i (by omega)) (fun f => f)
                                have c3 := hgc i (by omega)
                                obtain ⟨z, hz⟩ : ∃ z, z = (posU P x)[i]?.getD 0 := ⟨_, rfl⟩
                                rw [← hz] at c1 c2 c3
                                have s4 : (z != z) = false := by simp
                                have s5 : ¬ (x : Int) < 1 := by omega
                                have s6 : ¬ (k : Int) < (x : Int) := by omega
                                have s6c : ¬ k < x := by omega
                                have s5c : ¬ x = 0 := by omega
                                have s5d : decide ((x : Int) < 1) = false := decide_eq_false s5
                                have s5e : decide (x < 1) = false := decide_eq_false (by omega)
                                have s7 : (x : Int) - 1 = (w : Int) := by omega
                                clear hz hxc hyc hgc z0 hw
                                go_wp2_with fail
                                go_quiet (fail)
                                go_wp2
                                go_roundw
                                case rel => exact ⟨i + 1, by omega, by go_num, hideP (HKi.out.trans (Kept.drewN V5 nq) (fun _ f => f.elim))⟩
                                case measure => simp [intOf]; omega
                            · as_aux_lemma =>
                                have hii : ¬ (i : Int) < (pl : Int) := by omega
                                go_wp2
                                go_roundw
                                case rel => exact ⟨m + 1, x, m3, m4, true, true, by omega, by omega, by go_num, rfl, hideP (H12.out.later HKi.out)⟩
                                case measure => simp [intOf]; omega
                      · as_aux_lemma =>
                          obtain rfl : dx = dv := by rw [hdx, HDV.out]
                          obtain ⟨pl, hpl⟩ : ∃ pl, pl = (posU P x).length := ⟨_, rfl⟩
                          have CDa := hideP (two_docA V4 H9.out)
                          have CFa := hideP (two_freqA V4 H9.out)
                          have CFn := hideP (two_freqN V4 H9.out)
                          have CMa := hideP (two_movesA V4 H9.out)
                          have CPa := hideP (two_posA V4 H9.out (by rw [HPL.out]; exact hv2) HOK.out)
                          rw [← hdx] at CDa
                          rw [← hpl] at CFa CFn CPa
                          have hplb : pl ≤ 5242880 := by
                            have h1 := posU_le P x
                            have h2 := HOK.out.ht
                            omega
                          have s1 : (dx != dx) = false := by simp
                          have s2 : ((pl : Int) != (pl : Int)) = false := by simp
                          have s3 : ¬ (m2 : Int) < (ma : Int) := by omega
                          clear hdx H8
                          go_wp2_with (first
                            | (go_at_call 10; refine CDn.out.mono ?_; rintro e W7 ⟨rfl, rfl⟩)
                            | (go_at_call 10; refine CDa.out.mono ?_; rintro e W7 ⟨rfl, rfl⟩)
                            | (go_at_call 14; refine CFa.out.mono ?_; rintro e W7 ⟨rfl, rfl⟩)
                            | (go_at_call 14; refine CFn.out.mono ?_; rintro e W7 ⟨rfl, rfl⟩)
                            | (go_at_call 11; refine CMa.out.mono ?_; rintro e W7 ⟨rfl, rfl⟩)
                            | (go_at_call 15; refine StpQ.go ?_))
                          refine ⟨?_⟩
                          refine CPa.out.mono ?_
                          clear CPa CDn CDa CFa CFn CMa
                          rintro e W11 ⟨xa, xc, m3, rfl, hI11, hf11, h11⟩
                          have HI11 := hideP hI11
                          have HF11 := hideP hf11
                          have CPn := hideP (two_posN W11 h11 (by rw [HPL.out]; exact hv2) HOK.out)
                          rw [← hpl] at CPn
                          clear hI11 hf11 h11
                          go_wp2_with (go_at_call 15; refine StpQ.go ?_)
                          refine ⟨?_⟩
                          refine CPn.out.mono ?_
                          clear CPn
                          rintro e W12 ⟨ya, yc, m4, rfl, hI12, k12, h12⟩
                          have HIy := hideP hI12
                          have HIx : Hid (IntsAt W12 xa (posU P x)) := hideP (ints_step HI11.out k12 (fun hn => by
                            obtain ⟨g7, e7, h7⟩ := HF11.out hn
                            exact ⟨g7, 0, e7, fun e => by omega⟩))
                          have H12 := hideP h12
                          have CFa := hideP (two_freqA W12 h12)
                          rw [← hpl] at CFa
                          clear hI12 k12 h12 HI11 HF11
                          go_wp2_with (go_at_call 14; refine CFa.out.mono ?_; clear CFa; rintro e W7 ⟨rfl, h7⟩; obtain rfl := h7.symm; clear h7)
                          go_loopw [242] (fun s242 w2 => ∃ i : Nat, i ≤ pl ∧ s242 = .int .i64 i ∧ Hid (Kept (fun _ => False) W12 w2)) (fun s242 _ => pl - (intOf s242).toNat)
                          case atStart => exact ⟨0, Nat.zero_le _, rfl, hideP (Kept.refl _ _)⟩
                          case round =>
                            rename World => V5
                            obtain ⟨i, hi, rfl, HKi⟩ := hrel
                            by_cases hil : i < pl
                            · as_aux_lemma =>
                                have hii : (i : Int) < (pl : Int) := by omega
                                have hne : posU P x ≠ [] := by intro e; rw [e] at hpl; simp at hpl; omega
                                obtain ⟨hxa, hxb⟩ := posU_in hne
                                obtain ⟨w, hw⟩ : ∃ w, w = x - 1 := ⟨_, rfl⟩
                                obtain ⟨pb, po, ga, gc, rfl, z0, z1, z2⟩ := ps_at ((HPs4.out.kept H12.out.kept).kept HKi.out) HPP.out (i := w) (by omega)
                                rw [show w + 1 = x by omega] at z1 z2
                                rw [← hpl] at z1
                                rw [HPL.out] at hxb
                                obtain ⟨xb, xo, rfl, hxc⟩ := HIx.out hne
                                obtain ⟨yb, yo, rfl, hyc⟩ := HIy.out hne
                                obtain ⟨gb, go_, rfl, hgc⟩ := z2 hne
                                have c1 := HKi.out.cell (hxc i (by omega)) (fun f => f)
                                have c2 := HKi.out.cell (hyc i (by omega)) (fun f => f)
                                have c3 := hgc i (by omega)
                                obtain ⟨z, hz⟩ : ∃ z, z = (posU P x)[i]?.getD 0 := ⟨_, rfl⟩
                                rw [← hz] at c1 c2 c3
                                have s4 : (z != z) = false := by simp
                                have s5 : ¬ (x : Int) < 1 := by omega
                                have s6 : ¬ (k : Int) < (x : Int) := by omega
                                have s6c : ¬ k < x := by omega
                                have s5c : ¬ x = 0 := by omega
                                have s5d : decide ((x : Int) < 1) = false := decide_eq_false s5
                                have s5e : decide (x < 1) = false := decide_eq_false (by omega)
                                have s7 : (x : Int) - 1 = (w : Int) := by omega
                                clear hz hxc hyc hgc z0 hw
                                go_wp2_with fail
                                go_quiet (fail)
                                go_wp2
                                go_roundw
                                case rel => exact ⟨i + 1, by omega, by go_num, hideP (HKi.out.trans (Kept.drewN V5 nq) (fun _ f => f.elim))⟩
                                case measure => simp [intOf]; omega
                            · as_aux_lemma =>
                                have hii : ¬ (i : Int) < (pl : Int) := by omega
                                go_wp2
                                go_roundw
                                case rel => exact ⟨m + 1, x, m3, m4, true, true, by omega, by omega, by go_num, rfl, hideP (H12.out.later HKi.out)⟩
                                case measure => simp [intOf]; omega
            · as_aux_lemma =>
                obtain ⟨t2, ht2⟩ : ∃ t2, t2 = t.tmod (42 * (k : Int) + 3) := ⟨_, rfl⟩
                have e3 : t.tmod (42 * (k : Int) + 3) = t2 := ht2.symm
                have t2b : 0 ≤ t2 ∧ t2 < 42 * (k : Int) + 3 := by
                  rw [ht2, Int.tmod_eq_emod_of_nonneg (by omega)]
                  exact ⟨Int.emod_nonneg _ (by omega), Int.emod_lt_of_pos _ (by omega)⟩
                clear ht2
                obtain ⟨v, hv⟩ : ∃ v, v = advU P at_ t2 := ⟨_, rfl⟩
                obtain ⟨hv1, hv2⟩ := advU_le (t := t2) HOK.out.hg (show at_ ≤ P.length + 1 by rw [HPL.out]; exact hat)
                rw [← hv, HPL.out] at hv2
                rw [← hv] at hv1
                obtain ⟨dv, hdv⟩ : ∃ dv, dv = docU P v := ⟨_, rfl⟩
                have CM := hideP (two_movesA V3 H2.out)
                have CA := hideP (two_advA V3 t2 ad H2.out (by rw [HPL.out]; exact hat) HOK.out HE4.out)
                rw [← hv, ← hdv] at CA
                have HV := hideP hv
                have HDV := hideP hdv
                clear hv hdv
                go_wp2_with (first
                  | (go_at_call 10; refine CD.out.mono ?_; clear CD; rintro e W7 ⟨rfl, rfl⟩)
                  | (go_at_call 11; refine CM.out.mono ?_; clear CM; rintro e W7 ⟨rfl, rfl⟩)
                  | (go_at_call 12; refine StpQ.go ?_))
                refine ⟨?_⟩
                refine CA.out.mono ?_
                clear CA
                rintro e W8 ⟨rfl, m2, b2, hm2, h8⟩
                have H8 := hideP h8
                clear h8
                go_wp2
                go_loopw [20] (fun s20 w2 => ∃ (x mx : Nat) (bx : Bool), at_ ≤ x ∧ x ≤ v ∧ s20 = .int .i64 x ∧ Hid (TwoC W4 ca la cn ln P w2 v m2 b2 x mx bx)) (fun s20 _ => v - (intOf s20).toNat)
                case atStart => exact ⟨at_, mn, an, Nat.le_refl _, hv1, rfl, H8⟩
                case round =>
                  rename World => V4
                  obtain ⟨x, mx, bx, hx1, hx2, rfl, H9⟩ := hrel
                  obtain ⟨dx, hdx⟩ : ∃ dx, dx = docU P x := ⟨_, rfl⟩
                  have CDn := hideP (two_docN V4 H9.out)
                  rw [← hdx] at CDn
                  by_cases hxv : x < v
                  · as_aux_lemma =>
                      obtain ⟨q1, q2, q3⟩ := advU_on (t := t2) HOK.out.hg (by rw [← HV.out]; exact hxv) hx1
                      rw [← hdx] at q1 q2
                      have q4 : (dx != 2147483647) = true := by rw [bne_iff_ne]; exact q2
                      have CN := hideP (two_nextN V4 ad H9.out q3 HOK.out HE4.out)
                      rw [HPL.out] at q3
                      clear hdx
                      go_wp2_with (first
                        | (go_at_call 10; refine CDn.out.mono ?_; rintro e W7 ⟨rfl, rfl⟩)
                        | (go_at_call 13; refine StpQ.go ?_))
                      refine ⟨?_⟩
                      refine CN.out.mono ?_
                      clear CN CDn q1 q2 q4
                      rintro e W10 ⟨rfl, h10⟩
                      have H10 := hideP h10
                      clear h10
                      obtain ⟨dy, hdy⟩ : ∃ dy, dy = docU P (x + 1) := ⟨_, rfl⟩
                      have CDy : Hid (∀ j, Calls Tryz.prog 10 #[.pointer (some ⟨cn, 0, none⟩)] (W10.drewN j) fun e w'' => e = .returned (.int .i64 dy) ∧ ∃ m, w'' = W10.drewN m) := hideP (fun j => (two_docN (W10.drewN j) (H10.out.later (Kept.drewN W10 j))).mono (fun _ _ q => ⟨by rw [hdy]; exact q.1, j, q.2⟩))
                      have r1 : ¬ (k : Int) + 1 < (x : Int) + 1 := by omega
                      have r1b : ¬ (k : Int) < (x : Int) := by omega
                      have r1c : ¬ k < x := by omega
                      by_cases hxk : x + 1 ≤ k
                      · as_aux_lemma =>
                          have r2 : (x : Int) + 1 ≤ (k : Int) := by omega
                          have r2b : (x : Int) < (k : Int) := by omega
                          have r2c : x < k := by omega
                          have r3 : (dy != dy) = false := by simp
                          obtain ⟨pb, po, ga, gc, rfl, z0, z1, z2⟩ := ps_at (HPs4.out.kept H10.out.kept) HPP.out (i := x) (by rw [HPL.out]; omega)
                          rw [← hdy] at z0
                          clear z1 z2 hdy
                          go_wp2_with fail
                          go_quiet ((exact CDy.out _))
                          go_wp2
                          go_roundw
                          case rel => exact ⟨x + 1, mx + 1, false, by omega, by omega, by go_num, hideP (H10.out.later (Kept.drewN W10 nq))⟩
                          case measure => simp [intOf]; omega
                      · as_aux_lemma =>
                          have r2 : ¬ (x : Int) + 1 ≤ (k : Int) := by omega
                          have r2b : decide ((x : Int) + 1 ≤ (k : Int)) = false := decide_eq_false r2
                          have r2c : decide ((x : Int) < (k : Int)) = false := decide_eq_false (by omega)
                          have r2d : decide (x < k) = false := decide_eq_false (by omega)
                          clear hdy
                          go_wp2_with fail
                          go_quiet ((exact CDy.out _))
                          go_wp2
                          go_roundw
                          case rel => exact ⟨x + 1, mx + 1, false, by omega, by omega, by go_num, hideP (H10.out.later (Kept.drewN W10 nq))⟩
                          case measure => simp [intOf]; omega
                  · as_aux_lemma =>
                      obtain rfl : x = v := by omega
                      have q5 := advU_end (P := P) (u := at_) (t := t2) (by rw [HPL.out]; exact hat)
                      rw [← HV.out, ← hdx] at q5
                      have q6 : ¬ dx < t2 := fun e => q5 ⟨e, by omega⟩

                      obtain rfl : dx = dv := by rw [hdx, HDV.out]
                      obtain ⟨pl, hpl⟩ : ∃ pl, pl = (posU P x).length := ⟨_, rfl⟩
                      have CDa := hideP (two_docA V4 H9.out)
                      have CFa := hideP (two_freqA V4 H9.out)
                      have CFn := hideP (two_freqN V4 H9.out)
                      have CMa := hideP (two_movesA V4 H9.out)
                      have CPa := hideP (two_posA V4 H9.out (by rw [HPL.out]; exact hv2) HOK.out)
                      rw [← hdx] at CDa
                      rw [← hpl] at CFa CFn CPa
                      have hplb : pl ≤ 5242880 := by
                        have h1 := posU_le P x
                        have h2 := HOK.out.ht
                        omega
                      have s1 : (dx != dx) = false := by simp
                      have s2 : ((pl : Int) != (pl : Int)) = false := by simp
                      have s3 : ¬ (m2 : Int) < (ma : Int) := by omega
                      clear hdx H8
                      go_wp2_with (first
                        | (go_at_call 10; refine CDn.out.mono ?_; rintro e W7 ⟨rfl, rfl⟩)
                        | (go_at_call 10; refine CDa.out.mono ?_; rintro e W7 ⟨rfl, rfl⟩)
                        | (go_at_call 14; refine CFa.out.mono ?_; rintro e W7 ⟨rfl, rfl⟩)
                        | (go_at_call 14; refine CFn.out.mono ?_; rintro e W7 ⟨rfl, rfl⟩)
                        | (go_at_call 11; refine CMa.out.mono ?_; rintro e W7 ⟨rfl, rfl⟩)
                        | (go_at_call 15; refine StpQ.go ?_))
                      refine ⟨?_⟩
                      refine CPa.out.mono ?_
                      clear CPa CDn CDa CFa CFn CMa
                      rintro e W11 ⟨xa, xc, m3, rfl, hI11, hf11, h11⟩
                      have HI11 := hideP hI11
                      have HF11 := hideP hf11
                      have CPn := hideP (two_posN W11 h11 (by rw [HPL.out]; exact hv2) HOK.out)
                      rw [← hpl] at CPn
                      clear hI11 hf11 h11
                      go_wp2_with (go_at_call 15; refine StpQ.go ?_)
                      refine ⟨?_⟩
                      refine CPn.out.mono ?_
                      clear CPn
                      rintro e W12 ⟨ya, yc, m4, rfl, hI12, k12, h12⟩
                      have HIy := hideP hI12
                      have HIx : Hid (IntsAt W12 xa (posU P x)) := hideP (ints_step HI11.out k12 (fun hn => by
                        obtain ⟨g7, e7, h7⟩ := HF11.out hn
                        exact ⟨g7, 0, e7, fun e => by omega⟩))
                      have H12 := hideP h12
                      have CFa := hideP (two_freqA W12 h12)
                      rw [← hpl] at CFa
                      clear hI12 k12 h12 HI11 HF11
                      go_wp2_with (go_at_call 14; refine CFa.out.mono ?_; clear CFa; rintro e W7 ⟨rfl, h7⟩; obtain rfl := h7.symm; clear h7)
                      go_loopw [242] (fun s242 w2 => ∃ i : Nat, i ≤ pl ∧ s242 = .int .i64 i ∧ Hid (Kept (fun _ => False) W12 w2)) (fun s242 _ => pl - (intOf s242).toNat)
                      case atStart => exact ⟨0, Nat.zero_le _, rfl, hideP (Kept.refl _ _)⟩
                      case round =>
                        rename World => V5
                        obtain ⟨i, hi, rfl, HKi⟩ := hrel
                        by_cases hil : i < pl
                        · as_aux_lemma =>
                            have hii : (i : Int) < (pl : Int) := by omega
                            have hne : posU P x ≠ [] := by intro e; rw [e] at hpl; simp at hpl; omega
                            obtain ⟨hxa, hxb⟩ := posU_in hne
                            obtain ⟨w, hw⟩ : ∃ w, w = x - 1 := ⟨_, rfl⟩
                            obtain ⟨pb, po, ga, gc, rfl, z0, z1, z2⟩ := ps_at ((HPs4.out.kept H12.out.kept).kept HKi.out) HPP.out (i := w) (by omega)
                            rw [show w + 1 = x by omega] at z1 z2
                            rw [← hpl] at z1
                            rw [HPL.out] at hxb
                            obtain ⟨xb, xo, rfl, hxc⟩ := HIx.out hne
                            obtain ⟨yb, yo, rfl, hyc⟩ := HIy.out hne
                            obtain ⟨gb, go_, rfl, hgc⟩ := z2 hne
                            have c1 := HKi.out.cell (hxc i (by omega)) (fun f => f)
                            have c2 := HKi.out.cell (hyc i (by omega)) (fun f => f)
                            have c3 := hgc i (by omega)
                            obtain ⟨z, hz⟩ : ∃ z, z = (posU P x)[i]?.getD 0 := ⟨_, rfl⟩
                            rw [← hz] at c1 c2 c3
                            have s4 : (z != z) = false := by simp
                            have s5 : ¬ (x : Int) < 1 := by omega
                            have s6 : ¬ (k : Int) < (x : Int) := by omega
                            have s6c : ¬ k < x := by omega
                            have s5c : ¬ x = 0 := by omega
                            have s5d : decide ((x : Int) < 1) = false := decide_eq_false s5
                            have s5e : decide (x < 1) = false := decide_eq_false (by omega)
                            have s7 : (x : Int) - 1 = (w : Int) := by omega
                            clear hz hxc hyc hgc z0 hw
                            go_wp2_with fail
                            go_quiet (fail)
                            go_wp2
                            go_roundw
                            case rel => exact ⟨i + 1, by omega, by go_num, hideP (HKi.out.trans (Kept.drewN V5 nq) (fun _ f => f.elim))⟩
                            case measure => simp [intOf]; omega
                        · as_aux_lemma =>
                            have hii : ¬ (i : Int) < (pl : Int) := by omega
                            go_wp2
                            go_roundw
                            case rel => exact ⟨m + 1, x, m3, m4, true, true, by omega, by omega, by go_num, rfl, hideP (H12.out.later HKi.out)⟩
                            case measure => simp [intOf]; omega
          · as_aux_lemma =>
              have hmm : ¬ (m : Int) < (nT : Int) := by omega
              go_wp2
              go_loopw [20] (fun s20 w2 => ∃ (x mx : Nat) (bx : Bool), x ≤ k + 1 ∧ s20 = .int .i64 x ∧ Hid (TwoC W4 ca la cn ln P w2 at_ ma aa x mx bx)) (fun s20 _ => k + 1 - (intOf s20).toNat)
              case atStart => exact ⟨at_, mn, an, hat, rfl, H2⟩
              case round =>
                rename World => V6
                obtain ⟨x, mx, bx, hx1, rfl, H6⟩ := hrel
                by_cases hxk : x ≤ k
                · have hxx : (x : Int) ≤ (k : Int) := by omega
                  obtain ⟨dy, hdy⟩ : ∃ dy, dy = docU P (x + 1) := ⟨_, rfl⟩
                  have CN := hideP (two_nextN V6 ad H6.out (by rw [HPL.out]; exact hxk) HOK.out HE4.out)
                  rw [← hdy] at CN
                  have s1 : (dy != dy) = false := by simp
                  by_cases hx2 : x < k
                  · as_aux_lemma =>
                      have hxy : (x : Int) < (k : Int) := by omega
                      obtain ⟨pb, po, ga, gc, rfl, z0, z1, z2⟩ := ps_at (HPs4.out.kept H6.out.kept) HPP.out (i := x) (by rw [HPL.out]; exact hx2)
                      rw [← hdy] at z0
                      clear z1 z2 hdy
                      go_wp2_with (go_at_call 13; refine StpQ.go ?_)
                      refine ⟨?_⟩
                      refine CN.out.mono ?_
                      clear CN
                      rintro e W13 ⟨rfl, h13⟩
                      have CP := hideP (two_posN W13 h13 (by rw [HPL.out]; omega) HOK.out)
                      clear h13
                      go_wp2_with (go_at_call 15; refine StpQ.go ?_)
                      refine ⟨?_⟩
                      refine CP.out.mono ?_
                      clear CP
                      rintro e W14 ⟨ya, yc, m4, rfl, hI14, k14, h14⟩
                      have H14 := hideP h14
                      clear h14 hI14 k14
                      go_wp2
                      go_roundw
                      case rel => exact ⟨x + 1, m4, true, by omega, by go_num, H14⟩
                      case measure => simp [intOf]; omega
                  · as_aux_lemma =>
                      have hxy : ¬ (x : Int) < (k : Int) := by omega
                      obtain rfl : dy = 2147483647 := by rw [hdy]; exact docU_last (by rw [HPL.out]; omega)
                      clear hdy
                      go_wp2_with (go_at_call 13; refine StpQ.go ?_)
                      refine ⟨?_⟩
                      refine CN.out.mono ?_
                      clear CN
                      rintro e W13 ⟨rfl, h13⟩
                      have CP := hideP (two_posN W13 h13 (by rw [HPL.out]; omega) HOK.out)
                      clear h13
                      go_wp2_with (go_at_call 15; refine StpQ.go ?_)
                      refine ⟨?_⟩
                      refine CP.out.mono ?_
                      clear CP
                      rintro e W14 ⟨ya, yc, m4, rfl, hI14, k14, h14⟩
                      have H14 := hideP h14
                      clear h14 hI14 k14
                      go_wp2
                      go_roundw
                      case rel => exact ⟨x + 1, m4, true, by omega, by go_num, H14⟩
                      case measure => simp [intOf]; omega
                · as_aux_lemma =>
                    obtain ⟨hxe, hxi⟩ : x = k + 1 ∧ ¬ (x : Int) ≤ (k : Int) := ⟨by omega, by omega⟩
                    have CM := hideP (two_movesN V6 H6.out)
                    have CE := hideP (two_endN V6 H6.out (by rw [HPL.out]; exact hxe) HOK.out)
                    go_wp2_with (first
                      | (go_at_call 11; refine CM.out.mono ?_; clear CM; rintro e W7 ⟨rfl, rfl⟩)
                      | (go_at_call 13; refine StpQ.go ?_))
                    refine ⟨?_⟩
                    refine CE.out.mono ?_
                    clear CE
                    rintro e W15 ⟨rfl, h15⟩
                    have B1 := h15.bn.all (by rw [HPL.out]; omega)
                    have B2 := h15.ba.all (by rw [HPL.out]; omega)
                    rw [HPL.out, ← HTP.out] at B1 B2
                    have CMn := hideP (two_movesN W15 h15)
                    have CMa := hideP (two_movesA W15 h15)
                    have CA := hideP (two_advA W15 2147483647 ad h15 (by rw [HPL.out]; exact hat) HOK.out HE4.out)
                    rw [advU_top HOK.out.hg (by rw [HPL.out]; exact hat), docU_end] at CA
                    have s1 : ((mx : Int) == (mx : Int)) = true := by simp
                    have s2 : (mx : Int) ≤ 2 * (k : Int) + 1 + (tt : Int) := by omega
                    have s3 : (ma : Int) ≤ 2 * (k : Int) + 1 + (tt : Int) := by omega
                    clear h15
                    go_wp2_with (first
                      | (go_at_call 11; refine CMn.out.mono ?_; rintro e W7 ⟨rfl, rfl⟩)
                      | (go_at_call 11; refine CMa.out.mono ?_; rintro e W7 ⟨rfl, rfl⟩)
                      | (go_at_call 12; refine StpQ.go ?_))
                    refine ⟨?_⟩
                    refine CA.out.mono ?_
                    clear CA CMa CMn
                    rintro e W16 ⟨rfl, m5, b5, hm5, h16⟩
                    have B3 := h16.ba.all (Nat.le_refl _)
                    rw [HPL.out, ← HTP.out] at B3
                    have s4 : (m5 : Int) ≤ 2 * (k : Int) + 1 + (tt : Int) := by omega
                    have CMa := hideP (two_movesA W16 h16)
                    have HKE := hideP (HK4.out.trans h16.kept (fun _ f => f.elim))
                    clear h16
                    go_wp2_with (go_at_call 11; refine CMa.out.mono ?_; clear CMa; rintro e W7 ⟨rfl, rfl⟩)
                    go_ret
                    exact ⟨rfl, HKE.out⟩
end Go.Proofs.YtfdbdkcifjpdaaaGreatDoor
