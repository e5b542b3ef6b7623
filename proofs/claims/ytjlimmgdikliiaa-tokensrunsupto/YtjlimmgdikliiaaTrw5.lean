import Derived.Test.YtjlimmgdikliiaaRuw
namespace Go.Proofs.Ytjlimmgdikliiaa
open Go.ChangeShapes Go.WideShapes Go.ChangeAt Go.RowKit

theorem wrds_cons {l : List UInt8} {a : Nat} {f : Bool} {p : Nat × Nat} {r : List (Nat × Nat)} (h : Wrds l a f (p :: r)) : Wrd l a p.1 p.2 ∧ (f = false → a < p.1) ∧ Wrds l p.2 false r := by
  cases h with
  | cons a s e f r h hf t => exact ⟨h, hf, t⟩
theorem wrds_nil {l : List UInt8} {a : Nat} {f : Bool} (h : Wrds l a f []) : ∀ j, a ≤ j → j < l.length → wb (l.getD j 0) = false := by
  cases h with
  | nil a f h => exact h
set_option maxRecDepth 20000 in
set_option maxHeartbeats 4000000 in
theorem runs_walk (l : List UInt8) (w : World) (hl : l.length ≤ 1099511627776) :
    Calls Try.prog 4 #[.string (bq l)] w fun e w' => e = .returned (.bool true) ∧ Kept (fun _ => False) w w' := by
  have CL := fun w => hideV (livesT_any w)
  have CW := fun w => hideV (words_any l w hl)
  have HB := hideV (fun c w => lwordByte_u c w)
  have hwl : (words l).length ≤ 1099511627776 := by
    have : (words l).length ≤ l.length := by rw [words_F]; exact wF_len l _ 0 (Nat.le_refl _)
    omega
  have HWR := hideV (words_wrds l)
  have HWA := hideV (fun t w (h : t.length ≤ 1099511627776) => words_any t w h)
  obtain ⟨ws, hws⟩ : ∃ ws, ws = words l := ⟨_, rfl⟩
  rw [← hws] at CW hwl HWR
  clear hws
  rw [tks_wtk] at CW
  obtain ⟨n, hn⟩ : ∃ n, n = ws.length := ⟨_, rfl⟩
  rw [← hn] at CW hwl
  have HN := hideV hn
  clear hn
  have hz : (bq l).size = l.length := bq_size l
  have hz' : ((bq l).size : Int) = (l.length : Int) := by rw [hz]
  have HX : Hid (∀ k (h2 : k < (bq l).size), (bq l)[k].toNat = (l.getD k 0).toNat) := hideV (fun k h2 => by rw [getD_at l k (by rw [bq_size] at h2; exact h2)]; rfl)
  have HXE : Hid (∀ s e, (bq l).extract s e = bq (wtx l (s, e))) := hideV (fun s e => bq_extract l s e)
  obtain ⟨S, hS⟩ : ∃ S, S = bq l := ⟨_, rfl⟩
  rw [← hS] at CW hz hz' HXE ⊢
  have HX2 : Hid (∀ k (h2 : k < S.size), S[k].toNat = (l.getD k 0).toNat) := hideV (by subst hS; exact HX.out)
  clear hS HX
  go_enter Try.func4, Try.ntmps4
  go_wp2_with (first
    | (go_at_call 5; refine (CL _).out.mono ?_; clear CL; rintro e W0 ⟨rfl, K0⟩)
    | (go_at_call 7; refine (CW _).out.mono ?_; clear CW; rintro e W1 ⟨a, c, rfl, G⟩; have K1 := hideV (K0.trans G.kept (fun _ f => f.elim)); have G := hideV G))
  go_loopw [3, 12] (fun at_ i wr => ∃ (k p : Nat), k ≤ n ∧ p ≤ l.length ∧ i = .int .i64 k ∧ at_ = .int .i64 p ∧ Hid (Wrds l p (decide (k = 0)) (ws.drop k)) ∧ Hid (Kept (fun _ => False) W1 wr)) (fun _ i _ => n - (intOf i).toNat)
  case atStart => exact ⟨0, 0, by omega, by omega, rfl, rfl, HWR, Kept.refl _ _⟩
  case round =>
    obtain ⟨k, p, hk, hp, rfl, rfl, HR, KK⟩ := hrel
    clear HWR
    by_cases hlt : k < n
    · have hlt2 : k < ws.length := by rw [← HN.out]; exact hlt
      obtain ⟨g, rfl⟩ := G.out.some (by omega)
      obtain ⟨x0, x1, x2, x3, x4⟩ := (G.out.later KK.out).tok (k := k) (by rw [wtk_len]; exact hlt2)
      rw [wtk_get l 0 k ws hlt2] at x0 x1 x2 x3 x4
      simp only [Nat.zero_add] at x0 x1 x2 x3 x4
      have hd : ws.drop k = ws[k] :: ws.drop (k + 1) := List.drop_eq_getElem_cons hlt2
      have HR2 := HR.out
      rw [hd] at HR2
      obtain ⟨hW, hlt3, hT⟩ := wrds_cons HR2
      generalize ws[k] = q at *
      obtain ⟨s, e⟩ := q
      simp only at x0 x1 x2 x3 x4 hW hlt3 hT
      have hse := hW.lt
      have hel := hW.len
      have hps := hW.le
      obtain ⟨m, hm⟩ : ∃ m, e = s + m + 1 := ⟨e - s - 1, by omega⟩
      have y1 := HXE.out s e
      have tlen : (wtx l (s, e)).length = m + 1 := by rw [wtx_len hel]; omega
      have tz : (bq (wtx l (s, e))).size = m + 1 := by rw [bq_size]; exact tlen
      have tz' : ((bq (wtx l (s, e))).size : Int) = (m : Int) + 1 := by rw [tz]; push_cast; rfl
      have t0 : 0 < (bq (wtx l (s, e))).size := by omega
      have t1 : m < (bq (wtx l (s, e))).size := by omega
      have hTat : ∀ j (h : j < (bq (wtx l (s, e))).size), (bq (wtx l (s, e)))[j].toNat = (l.getD (s + j) 0).toNat := fun j h => by
        rw [← wtx_at (e := e) (by omega), getD_at _ j (by omega)]; rfl
      have c0 := hTat 0 t0
      have c1 := hTat m t1
      rw [Nat.add_zero] at c0
      have B0 := fun w => hideV (HB.out (l.getD s 0) w)
      have B1 := fun w => hideV (HB.out (l.getD (s + m) 0) w)
      rw [hW.fst] at B0
      have hl1 := hW.lst
      rw [show e - 1 = s + m by omega] at hl1
      rw [hl1] at B1
      have CA : ∀ w, Hid (Calls Try.prog 7 #[.string (bq (wtx l (s, e)))] w fun r w' => ∃ g c, r = .returned (.slice (some ⟨g, 0, none⟩) 1 c) ∧ w'.cell? ⟨g, 0, none⟩ = some (.string (bq (wtx l (s, e)))) ∧ Kept (fun _ => False) w w') := fun w => by
        refine (HWA.out (wtx l (s, e)) w (by omega)).mono ?_
        rintro r w' ⟨a, c, rfl, G⟩
        rw [hW.alone, tks_wtk] at G
        rw [hW.alone]
        obtain ⟨g, rfl⟩ := G.some Nat.zero_lt_one
        obtain ⟨z0, _⟩ := G.tok (k := 0) (by rw [wtk_len]; exact Nat.zero_lt_one)
        refine ⟨g, c, rfl, ?_, G.kept⟩
        rw [z0]
        show some (Value.string (bq (wtx (wtx l (s, e)) (0, e - s)))) = _
        rw [wtx_own _ _ (by rw [tlen]; omega)]
      have HGap := hideV hW.gap
      have HT := hideV hT
      have hsi : ¬ (s : Int) < (p : Int) := by omega
      have hei : ¬ (e : Int) ≤ (s : Int) := by omega
      have hli : ¬ (l.length : Int) < (e : Int) := by omega
      have hse' : (s : Int) ≤ (e : Int) := by omega
      have hel' : (e : Int) ≤ (l.length : Int) := by omega
      have hki : (k : Int) < (n : Int) := by omega
      have hkk : ((k : Int) != (k : Int)) = false := by simp
      have htt : ((bq (wtx l (s, e))).toList != (bq (wtx l (s, e))).toList) = false := by simp
      have hkp : ¬ k = 0 → ((s : Int) == (p : Int)) = false := fun h => by
        rw [beq_eq_false_iff_ne]
        have := hlt3 (decide_eq_false h)
        omega
      have w1 : IntKind.i64.wrap ((m : Int) + 1 - 1) = (m : Int) := by rw [IntKind.wrap_i64]; omega
      have w2 : (m : Int) + 1 - 1 = (m : Int) := by omega
      have w3 : IntKind.i64.wrap (m : Int) = (m : Int) := by rw [IntKind.wrap_i64]; omega
      have HM := hideV hm
      clear hTat HR2 hW hlt3 hT hl1 HR hd HWA tlen hm
      generalize hT0 : bq (wtx l (s, e)) = T at *
      generalize l.getD s 0 = ch0 at *
      generalize l.getD (s + m) 0 = ch1 at *
      go_wp2
      go_quiet (fail)
      have D0 : ((wr.alloc (.cells #[.string T, .int .i64 0, .int .i64 (k : Int), .int .i64 (s : Int), .int .i64 (e : Int)] 28)).drewN nq).cell? ⟨wr.heap.size, 0, none⟩ = some (.string T) := by show (wr.alloc _).cell? _ = _; simp
      have D3 : ((wr.alloc (.cells #[.string T, .int .i64 0, .int .i64 (k : Int), .int .i64 (s : Int), .int .i64 (e : Int)] 28)).drewN nq).cell? ⟨wr.heap.size, 3, none⟩ = some (.int .i64 (s : Int)) := by show (wr.alloc _).cell? _ = _; simp
      have D4 : ((wr.alloc (.cells #[.string T, .int .i64 0, .int .i64 (k : Int), .int .i64 (s : Int), .int .i64 (e : Int)] 28)).drewN nq).cell? ⟨wr.heap.size, 4, none⟩ = some (.int .i64 (e : Int)) := by show (wr.alloc _).cell? _ = _; simp
      have KW : Kept (fun _ => False) wr ((wr.alloc (.cells #[.string T, .int .i64 0, .int .i64 (k : Int), .int .i64 (s : Int), .int .i64 (e : Int)] 28)).drewN nq) := by
        have k := Kept.alloc wr (.cells #[.string T, .int .i64 0, .int .i64 (k : Int), .int .i64 (s : Int), .int .i64 (e : Int)] 28)
        exact ⟨k.os, k.tape, k.output, k.size, k.block⟩
      have KW := hideV KW
      generalize (wr.alloc (.cells #[.string T, .int .i64 0, .int .i64 (k : Int), .int .i64 (s : Int), .int .i64 (e : Int)] 28)).drewN nq = W6 at D0 D3 D4 KW ⊢
      generalize wr.heap.size = g5 at *
      have HSt : Hid (k = 0 ∨ ((0 : Int) < (k : Int) ∧ ((s : Int) == (p : Int)) = false)) := hideV (by
        by_cases h : k = 0
        · exact Or.inl h
        · exact Or.inr ⟨by omega, hkp h⟩)
      clear hkp x0 x1 x2 x3 x4
      rcases HSt.out with h0 | ⟨hk0, hsp⟩
      · have hk0 : ¬ (0 : Int) < (k : Int) := by omega
        clear h0 HSt
        go_wp2_with (go_at_call 9; first | (refine (B0 _).out.mono ?_; clear B0; rintro e W5 ⟨rfl, e5⟩; replace e5 := e5.symm; subst e5) | (refine (B1 _).out.mono ?_; clear B1; rintro e W5 ⟨rfl, e5⟩; replace e5 := e5.symm; subst e5))
        go_loopw [3] (fun at_ w2 => ∃ (j : Nat), p ≤ j ∧ j ≤ s ∧ at_ = .int .i64 j ∧ w2 = W6) (fun at_ _ => s - (intOf at_).toNat)
        case atStart => exact ⟨p, Nat.le_refl _, hps, rfl, rfl⟩
        case round =>
          obtain ⟨j, hj1, hj2, rfl, rfl⟩ := hrel
          by_cases hjs : j < s
          · have hji : (j : Int) < (s : Int) := by omega
            have hjS : j < S.size := by omega
            have cj := HX2.out j hjS
            have BJ := fun w => hideV (HB.out (l.getD j 0) w)
            rw [HGap.out j hj1 hjs] at BJ
            have hjl : (j : Int) < (l.length : Int) := by omega
            generalize l.getD j 0 = cj0 at *
            clear CA HX2 HXE HB HGap
            go_wp2_with (go_at_call 9; refine (BJ _).out.mono ?_; clear BJ; rintro e W5 ⟨rfl, e5⟩; replace e5 := e5.symm; subst e5)
            go_roundw
            case rel => exact ⟨j + 1, by omega, by omega, by go_num, trivial⟩
            case measure => simp [intOf]; omega
          · have hji : ¬ (j : Int) < (s : Int) := by omega
            clear HX2 HXE HB HGap
            go_wp2_with (go_at_call 7; refine (CA _).out.mono ?_; clear CA; rintro e W7 ⟨g7, c7, rfl, y7, K7⟩; have D07 := K7.cell D0 (fun f => f); have D47 := K7.cell D4 (fun f => f); have K7 := hideV K7)
            go_region
            go_wp2
            go_roundw
            case rel => exact ⟨k + 1, e, by omega, hel, by go_num, rfl, by rw [decide_eq_false (by omega : ¬ k + 1 = 0)]; exact HT, ((KK.out.trans KW.out (fun _ f => f.elim)).trans K7.out (fun _ f => f.elim)).trans (Kept.drew _) (fun _ f => f.elim)⟩
            case measure => simp [intOf]; omega
      · clear HSt
        go_wp2_with (go_at_call 9; first | (refine (B0 _).out.mono ?_; clear B0; rintro e W5 ⟨rfl, e5⟩; replace e5 := e5.symm; subst e5) | (refine (B1 _).out.mono ?_; clear B1; rintro e W5 ⟨rfl, e5⟩; replace e5 := e5.symm; subst e5))
        go_loopw [3] (fun at_ w2 => ∃ (j : Nat), p ≤ j ∧ j ≤ s ∧ at_ = .int .i64 j ∧ w2 = W6) (fun at_ _ => s - (intOf at_).toNat)
        case atStart => exact ⟨p, Nat.le_refl _, hps, rfl, rfl⟩
        case round =>
          obtain ⟨j, hj1, hj2, rfl, rfl⟩ := hrel
          by_cases hjs : j < s
          · have hji : (j : Int) < (s : Int) := by omega
            have hjS : j < S.size := by omega
            have cj := HX2.out j hjS
            have BJ := fun w => hideV (HB.out (l.getD j 0) w)
            rw [HGap.out j hj1 hjs] at BJ
            have hjl : (j : Int) < (l.length : Int) := by omega
            generalize l.getD j 0 = cj0 at *
            clear CA HX2 HXE HB HGap
            go_wp2_with (go_at_call 9; refine (BJ _).out.mono ?_; clear BJ; rintro e W5 ⟨rfl, e5⟩; replace e5 := e5.symm; subst e5)
            go_roundw
            case rel => exact ⟨j + 1, by omega, by omega, by go_num, trivial⟩
            case measure => simp [intOf]; omega
          · have hji : ¬ (j : Int) < (s : Int) := by omega
            clear HX2 HXE HB HGap
            go_wp2_with (go_at_call 7; refine (CA _).out.mono ?_; clear CA; rintro e W7 ⟨g7, c7, rfl, y7, K7⟩; have D07 := K7.cell D0 (fun f => f); have D47 := K7.cell D4 (fun f => f); have K7 := hideV K7)
            go_region
            go_wp2
            go_roundw
            case rel => exact ⟨k + 1, e, by omega, hel, by go_num, rfl, by rw [decide_eq_false (by omega : ¬ k + 1 = 0)]; exact HT, ((KK.out.trans KW.out (fun _ f => f.elim)).trans K7.out (fun _ f => f.elim)).trans (Kept.drew _) (fun _ f => f.elim)⟩
            case measure => simp [intOf]; omega
    · obtain rfl : k = n := by omega
      have HE : Hid (∀ j, p ≤ j → j < l.length → wb (l.getD j 0) = false) := hideV (by
        have h := HR.out
        rw [List.drop_of_length_le (by rw [HN.out]; exact Nat.le_refl _)] at h
        exact wrds_nil h)
      clear HR HWA HXE G
      go_wp2
      go_loopw [3] (fun at_ w2 => ∃ (j : Nat), p ≤ j ∧ j ≤ l.length ∧ at_ = .int .i64 j ∧ w2 = wr) (fun at_ _ => l.length - (intOf at_).toNat)
      case atStart => exact ⟨p, Nat.le_refl _, hp, rfl, rfl⟩
      case round =>
        obtain ⟨j, hj1, hj2, rfl, rfl⟩ := hrel
        by_cases hjs : j < l.length
        · have hji : (j : Int) < (l.length : Int) := by omega
          have hjS : j < S.size := by omega
          have cj := HX2.out j hjS
          have BJ := fun w => hideV (HB.out (l.getD j 0) w)
          rw [HE.out j hj1 hjs] at BJ
          generalize l.getD j 0 = cj0 at *
          clear HX2 HB HE
          go_wp2_with (go_at_call 9; refine (BJ _).out.mono ?_; clear BJ; rintro e W5 ⟨rfl, e5⟩; replace e5 := e5.symm; subst e5)
          go_roundw
          case rel => exact ⟨j + 1, by omega, by omega, by go_num, trivial⟩
          case measure => simp [intOf]; omega
        · have hji : ¬ (j : Int) < (l.length : Int) := by omega
          go_wp2
          go_ret
          exact ⟨rfl, K1.out.trans KK.out (fun _ f => f.elim)⟩
end Go.Proofs.Ytjlimmgdikliiaa
