import Derived.Test.YtgngcppmmmchiaaDoorLxj
namespace Go.Proofs.YtgngcppmmmchiaaDoor
open Go.ChangeShapes Go.WideShapes Go.ChangeAt Go.RowKit

theorem ptF_next (G : List Sg) (k : Nat) (h : k < G.length) (o : List UInt8) (ho : o = ptF [] ((G.take k).map sgB)) : ptF [] ((G.take (k + 1)).map sgB) = o ++ if isW (sgB G[k]) then [G[k].c] else pl o.isEmpty G[k].c := by
  rw [List.take_succ_eq_append_getElem h, List.map_append, ptF, List.foldl_append, ho]
  rfl
theorem ptF_empty (G : List Sg) (k : Nat) (h : k ≤ G.length) (o : List UInt8) (ho : o = ptF [] ((G.take k).map sgB)) : o.isEmpty = decide (k = 0) := by
  have h1 := ptF_len ((G.take k).map sgB) []
  rw [← ho, List.length_map, List.length_take, Nat.min_eq_left h] at h1
  cases o with
  | nil => simp at h1; simp [h1]
  | cons a r =>
    by_cases hk : k = 0
    · subst hk; simp at h1
    · simp [hk]
theorem takeW_next (G : List Sg) (k : Nat) (h : k < G.length) : (G.take (k + 1)).any (fun x => isW (sgB x)) = ((G.take k).any (fun x => isW (sgB x)) || isW (sgB G[k])) := by
  rw [List.take_succ_eq_append_getElem h, List.any_append]
  simp
theorem patF_none (l : List UInt8) (h : (sgn l).any isE = true) : patF l = [] := by unfold patF; rw [h]; simp
theorem patF_some (l : List UInt8) (h : (sgn l).any isE = false) : patF l = if (sgn l).any isW then ptF [] (sgn l) else [] := by unfold patF; rw [h]; cases (sgn l).any isW <;> rfl
set_option maxRecDepth 20000 in
set_option maxHeartbeats 4000000 in
theorem rpattern_any (l : List UInt8) (w : World) (hl : l.length ≤ 400000000000) :
    Calls Tryd.prog 9 #[.string (bq l)] w fun e w' => e = .returned (.string (bq (patF l))) ∧ Kept (fun _ => False) w w' := by
  have CA := hideL (canon_any l w hl)
  by_cases hE : (sgn l).any isE = true
  · rw [patF_none l hE]
    rw [hE] at CA
    generalize bq l = s at *
    clear hE hl
    go_enter Tryd.func9, Tryd.ntmps9
    go_wp2_with (go_at_call 15; refine CA.out.mono ?_; clear CA; rintro e w5 ⟨⟨v5, rfl⟩, k5⟩)
    go_ret
    exact ⟨rfl, k5⟩
  · have hE : (sgn l).any isE = false := by simpa using hE
    rw [patF_some l hE]
    rw [hE] at CA
    have HM := hideL (sgp_sgn l.length 0 l (Nat.le_refl _))
    rw [← HM.out, any_map]
    have HL := hideL (sgp_len 0 l)
    have CS := hideL (fun W => signs_any l W hl)
    have CW := hideL (fun (c : UInt8) W => rwild_any c W)
    have CE := hideL (fun (c : UInt8) (f : Bool) W => escaped_any c f W)
    have HB := hideL (fun W => gb_empty W)
    clear HM hE
    generalize sgp 0 l = G at *
    have hnb : G.length ≤ 400000000000 := Nat.le_trans HL.out hl
    obtain ⟨N, hN⟩ : ∃ N, N = G.length := ⟨_, rfl⟩
    unfold sgPost at CS
    rw [← hN] at hnb CS
    have HN := hideL hN
    obtain ⟨R, hR⟩ : ∃ R, R = if G.any (fun x => isW (sgB x)) then ptF [] (G.map sgB) else [] := ⟨_, rfl⟩
    rw [← hR]
    have HRR := hideL hR
    generalize bq l = s at *
    clear HL hl hN hR
    go_enter Tryd.func9, Tryd.ntmps9
    go_wp2_with (first
      | (go_at_call 15; refine CA.out.mono ?_; clear CA; rintro e w5 ⟨⟨v5, rfl⟩, k5⟩; have HBw := hideL (HB.out w5); clear HB; have K5 := hideL k5; clear k5)
      | (go_at_call 16; refine (CS.out _).mono ?_; clear CS; rintro e W9 ⟨a9, c9, rfl, G9⟩; have HS : Hid (Bs13 w5 W9 (some ⟨w5.heap.size, 0, none⟩) 0 0 [] a9 c9 N G) := hideL ⟨HBw.out.later G9.gro.kept, ⟨⟨⟨G9.gro.own.1, by rcases G9.gro.own.2 with h | ⟨g, cap, cur, e, hb, hr⟩; exact .inl h; exact .inr ⟨g, cap, cur, e, Nat.le_trans HBw.out.gro.kept.size hb, hr⟩⟩, HBw.out.gro.kept.trans G9.gro.kept (fun _ f => f.elim)⟩, G9.len⟩⟩; clear HBw G9))
    generalize w5.heap.size = b0 at *
    go_loopw [5, 6, 20] (fun sw v i wr => ∃ (k m : Nat) (a : Option Addr) (c : Nat) (o : List UInt8) (st : Bool), k ≤ N ∧ m ≤ 2 * k ∧ i = .int .i64 k ∧ v = .slice a m c ∧ sw = .bool st ∧ Hid (Bs13 w5 wr a c m o a9 c9 N G) ∧ Hid (o = ptF [] ((G.take k).map sgB)) ∧ Hid (st = (G.take k).any (fun x => isW (sgB x)))) (fun _ _ i _ => N - (intOf i).toNat)
    case atStart => exact ⟨0, 0, _, _, _, _, by omega, by omega, rfl, rfl, rfl, HS, hideL rfl, hideL rfl⟩
    case round =>
      obtain ⟨k, m, a, c0, o, st, hk, hmk, rfl, rfl, rfl, HR, HO, HST⟩ := hrel
      clear HS
      by_cases hlt : k < N
      · have hkg : k < G.length := by rw [← HN.out]; exact hlt
        have hkz : (k : Int) < (N : Int) := by omega
        obtain ⟨g9, e9, x0, x1, x2, x3⟩ := HR.out.g.cell k hkg
        subst e9
        have HO2 := hideL (ptF_next G k hkg o HO.out)
        have hoe := ptF_empty G k (by omega) o HO.out
        have HS2 := hideL (takeW_next G k hkg)
        rw [← HST.out] at HS2
        have C1 := hideL (fun W => CW.out G[k].c W)
        have C2 := hideL (fun W => CE.out G[k].c o.isEmpty W)
        have hp2 := pl_len o.isEmpty G[k].c
        generalize G[k] = X at x0 x1 x2 x3 HO2 HS2 C1 C2 hp2
        obtain ⟨xc, xl, xp, xz⟩ := X
        dsimp only at x0 x1 x2 x3 hp2
        have HE : Hid (isW (sgB ⟨xc, xl, xp, xz⟩) = (!xl && wdB xc)) := hideL rfl
        rw [HE.out] at HO2 HS2
        have D1 : Hid (∀ W, Calls Tryd.prog 17 #[.int .u8 (xc.toNat : Int)] W fun e w' => e = .returned (.bool (wdB xc)) ∧ w' = W) := C1
        have D2 : Hid (∀ W, Calls Tryd.prog 12 #[.int .u8 (xc.toNat : Int), .bool o.isEmpty] W (esPost W (pl o.isEmpty xc))) := C2
        have HO4 : Hid (ptF [] ((G.take (k + 1)).map sgB) = o ++ if (!xl && wdB xc) = true then [xc] else pl o.isEmpty xc) := HO2
        clear C1 C2 HO2
        obtain ⟨q, hq⟩ : ∃ q, q = xc.toNat := ⟨_, rfl⟩
        have hqb : q < 256 := by rw [hq]; exact xc.toNat_lt
        have HQ0 : Hid ((q : Int) = (xc.toNat : Int)) := hideL (by rw [hq])
        have HV : Hid (Bs13 w5 (nsg wr q xp xz xl) a c0 m o (some ⟨g9, 0, none⟩) c9 N G) := hideL (HR.out.later (Kept.alloc _ _))
        rw [← hq] at x0 D1 D2
        unfold esPost at D2
        generalize hoe2 : o.isEmpty = f at *
        have hf2 : ((k : Int) == 0) = f := by rw [hoe, Bool.eq_iff_iff, beq_iff_eq, decide_eq_true_eq]; omega
        generalize pl f xc = p at *
        obtain ⟨pn, hpn⟩ : ∃ pn, pn = p.length := ⟨_, rfl⟩
        have HPN := hideL hpn
        rw [← hpn] at D2 hp2
        generalize wdB xc = wv at *
        clear hq HE CW CE hpn hoe hoe2 HR
        cases xl with
        | false =>
          cases wv with
          | true =>
            have HO3 : Hid (o ++ [xc] = ptF [] ((G.take (k + 1)).map sgB)) := hideL HO4.out.symm
            have HS3 : Hid (true = (G.take (k + 1)).any (fun x => isW (sgB x))) := hideL (by rw [HS2.out]; simp)
            clear HO4 HS2 D2 HST HO
            go_wp2_with (first
              | (go_at_call 17; refine (D1.out _).mono ?_; clear D1; rintro e w6 ⟨rfl, e6⟩; subst e6)
              | (at_builtin; refine wpList_pushC rfl _ _ rfl _ _ m _ xc _ rfl (hideL HV.out.b) _ (by first | rfl | simp) rfl HQ0 (by omega) ?_; intro a4 c4 W4 G4 K4; have H4 := hideL (HV.out.push G4.out K4.out); clear HV G4 K4))
            go_roundw
            case rel => exact ⟨k + 1, m + 1, a4, c4, _, true, by omega, by omega, by go_num, rfl, rfl, H4, HO3, HS3⟩
            case measure => simp [intOf] <;> omega
          | false =>
            have HO3 : Hid (o ++ p = ptF [] ((G.take (k + 1)).map sgB)) := hideL HO4.out.symm
            have HS3 : Hid (st = (G.take (k + 1)).any (fun x => isW (sgB x))) := hideL (by rw [HS2.out]; simp)
            clear HO4 HS2 HST HO
            go_wp2_with (first
              | (go_at_call 17; refine (D1.out _).mono ?_; clear D1; rintro e w6 ⟨rfl, e6⟩; subst e6)
              | (go_at_call 12; refine (D2.out _).mono ?_; clear D2; rintro e w7 ⟨g7, rfl, r7, k7⟩; have R7 := hideL r7; have H7 := hideL (HV.out.later k7); clear HV r7 k7)
              | (at_builtin; refine wpList_pushQ rfl _ _ rfl _ _ m _ p pn _ rfl (hideL H7.out.b) rfl HPN R7 (by omega) ?_; intro a4 c4 W4 G4 K4; have H4 := hideL (H7.out.push G4.out K4.out); clear H7 G4 K4))
            go_roundw
            case rel => exact ⟨k + 1, m + pn, a4, c4, _, st, by omega, by omega, by go_num, rfl, rfl, H4, HO3, HS3⟩
            case measure => simp [intOf] <;> omega
        | true =>
          have HO3 : Hid (o ++ p = ptF [] ((G.take (k + 1)).map sgB)) := hideL HO4.out.symm
          have HS3 : Hid (st = (G.take (k + 1)).any (fun x => isW (sgB x))) := hideL (by rw [HS2.out]; simp)
          clear HO4 HS2 HST HO D1
          go_wp2_with (first
            | (go_at_call 12; refine (D2.out _).mono ?_; clear D2; rintro e w7 ⟨g7, rfl, r7, k7⟩; have R7 := hideL r7; have H7 := hideL (HV.out.later k7); clear HV r7 k7)
            | (at_builtin; refine wpList_pushQ rfl _ _ rfl _ _ m _ p pn _ rfl (hideL H7.out.b) rfl HPN R7 (by omega) ?_; intro a4 c4 W4 G4 K4; have H4 := hideL (H7.out.push G4.out K4.out); clear H7 G4 K4))
          go_roundw
          case rel => exact ⟨k + 1, m + pn, a4, c4, _, st, by omega, by omega, by go_num, rfl, rfl, H4, HO3, HS3⟩
          case measure => simp [intOf] <;> omega
      · obtain rfl : k = N := by omega
        have ho := HO.out
        have hs := HST.out
        rw [List.take_of_length_le (by rw [HN.out]; exact Nat.le_refl _)] at ho hs
        have hR := HRR.out
        rw [← ho, ← hs] at hR
        have hb := gro_string HR.out.b.gro HR.out.b.len
        have HK := hideL (K5.out.trans HR.out.b.gro.kept (fun _ f => f.elim))
        have hb2 : (convert 25 9 (.slice a m c0)).run Tryd.prog wr = .ok (.string (bq o)) wr := hb
        clear hb HR HO HST ho hs CW CE HRR
        cases st with
        | true =>
          obtain rfl : R = o := hR
          go_wp2
          go_ret
          exact ⟨rfl, HK.out⟩
        | false =>
          obtain rfl : R = [] := hR
          go_wp2
          go_ret
          exact ⟨rfl, HK.out⟩
end Go.Proofs.YtgngcppmmmchiaaDoor
