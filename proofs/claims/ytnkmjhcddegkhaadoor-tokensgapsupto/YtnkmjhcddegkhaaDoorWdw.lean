import Derived.Test.YtnkmjhcddegkhaaDoorWdm
import Derived.Test.YtnkmjhcddegkhaaDoorSen
import Derived.Test.YtnkmjhcddegkhaaDoorSsh
namespace Go.Proofs.YtnkmjhcddegkhaaDoor
open Go.ChangeShapes Go.WideShapes Go.ChangeAt Go.RowKit

theorem digit_any (c : Int) (w : World) : Calls Tryd.prog 28 #[.int .u8 c] w fun e w' => e = .returned (.bool (decide (48 ≤ c) && decide (c ≤ 57))) ∧ w' = w := by
  by_cases h1 : 48 ≤ c
  · go_enter Tryd.func28, Tryd.ntmps28
    go_wp2
    go_ret
    exact ⟨congrArg (fun b => Ending.returned (.bool b)) (by rw [decide_eq_true h1, Bool.true_and]), rfl⟩
  · go_enter Tryd.func28, Tryd.ntmps28
    go_wp2
    go_ret
    exact ⟨congrArg (fun b => Ending.returned (.bool b)) (by rw [decide_eq_false (by omega : ¬ (48 : Int) ≤ c), Bool.false_and]), rfl⟩
theorem dg_int (c : UInt8) : (decide ((48 : Int) ≤ (c.toNat : Int)) && decide ((c.toNat : Int) ≤ 57)) = isDg c := by
  unfold isDg
  congr 1
  · exact decide_eq_decide.2 (by omega)
  · exact decide_eq_decide.2 (by omega)
theorem cp_int (c : UInt8) : capB (c.toNat : Int) = isCp c := by
  unfold isCp capB
  congr 1
  · exact decide_eq_decide.2 (by omega)
  · exact decide_eq_decide.2 (by omega)
theorem digit_u (c : UInt8) (w : World) : Calls Tryd.prog 28 #[.int .u8 (c.toNat : Int)] w fun e w' => e = .returned (.bool (isDg c)) ∧ w' = w := by
  have := digit_any (c.toNat : Int) w
  rwa [dg_int] at this
theorem small_u (c : UInt8) (w : World) : Calls Tryd.prog 31 #[.int .u8 (c.toNat : Int)] w fun e w' => e = .returned (.bool (isSm c)) ∧ w' = w := by
  have := small_any (c.toNat : Int) w
  rwa [sm_int] at this
theorem capital_u (c : UInt8) (w : World) : Calls Tryd.prog 16 #[.int .u8 (c.toNat : Int)] w fun e w' => e = .returned (.bool (isCp c)) ∧ w' = w := by
  have := capital_any (c.toNat : Int) w
  rwa [cp_int] at this
set_option maxRecDepth 20000 in
set_option maxHeartbeats 2000000 in
theorem wordByte_u (c : UInt8) (w : World) : Calls Tryd.prog 27 #[.int .u8 (c.toNat : Int)] w fun e w' => e = .returned (.bool (wb c)) ∧ w' = w := by
  have C1 := fun w => hideV (small_u c w)
  have C2 := fun w => hideV (capital_u c w)
  have C3 := fun w => hideV (digit_u c w)
  have h4 : ((c.toNat : Int) == 95) = (c == 95) := beq_u8 c 95
  have h5 : decide ((128 : Int) ≤ (c.toNat : Int)) = isHi c := by unfold isHi; exact decide_eq_decide.2 (by omega)
  have hB : wb c = (isSm c || (isCp c || (isDg c || (c == 95 || isHi c)))) := rfl
  rw [hB]
  clear hB
  generalize isSm c = a at *
  generalize isCp c = b at *
  generalize isDg c = d at *
  generalize isHi c = g at *
  generalize (c == 95) = f at *
  cases a <;> cases b <;> cases d <;> cases f
  all_goals
    go_enter Tryd.func27, Tryd.ntmps27
    go_wp2_with (first
      | (go_at_call 31; refine (C1 _).out.mono ?_; rintro e W ⟨rfl, rfl⟩)
      | (go_at_call 16; refine (C2 _).out.mono ?_; rintro e W ⟨rfl, rfl⟩)
      | (go_at_call 28; refine (C3 _).out.mono ?_; rintro e W ⟨rfl, rfl⟩))
    go_ret
    exact ⟨rfl, rfl⟩
set_option maxRecDepth 20000 in
set_option maxHeartbeats 4000000 in
theorem inWord_any (l : List UInt8) (k : Nat) (w : World) (hl : l.length ≤ 1099511627776) (hk : k < l.length) :
    Calls Tryd.prog 13 #[.string (bq l), .int .i64 k] w fun e w' => e = .returned (.bool (inw l k)) ∧ Kept (fun _ => False) w w' := by
  obtain ⟨s, hs⟩ : ∃ s, s = bq l := ⟨_, rfl⟩
  have hz : s.size = l.length := by rw [hs]; exact bq_size l
  have hz' : (s.size : Int) = (l.length : Int) := by rw [hz]
  have HX : Hid (∀ k (h : k < l.length) (h2 : k < s.size), s[k].toNat = (l.getD k 0).toNat) := hideV (fun k h h2 => by subst hs; rw [getD_at l k h]; rfl)
  rw [← hs]
  clear hs
  have hks : k < s.size := by omega
  have c0 := HX.out k hk hks
  have HB : Hid (inw l k = (wb (l.getD k 0) || (decide (0 < k) && decide (k + 1 < l.length) && mk (l.getD (k - 1) 0) (l.getD k 0) (l.getD (k + 1) 0)))) := hideV rfl
  have C1 := fun w => hideV (wordByte_u (l.getD k 0) w)
  generalize inw l k = B at *
  cases hw : wb (l.getD k 0) with
  | true =>
    have HQ : Hid (true = B) := hideV (by rw [HB.out, hw]; rfl)
    rw [hw] at C1
    generalize l.getD k 0 = c at *
    clear HB HX hw
    go_enter Tryd.func13, Tryd.ntmps13
    go_wp2_with (go_at_call 27; refine (C1 _).out.mono ?_; rintro e W ⟨rfl, rfl⟩)
    go_ret
    exact ⟨retb HQ.out, Kept.refl _ _⟩
  | false =>
    rw [hw] at C1
    by_cases h0 : k = 0
    · have HQ : Hid (false = B) := hideV (by rw [HB.out, hw, decide_eq_false (by omega : ¬ 0 < k)]; rfl)
      have z0 : ((k : Int) == 0) = true := by simp [h0]
      generalize l.getD k 0 = c at *
      clear HB HX hw h0
      go_enter Tryd.func13, Tryd.ntmps13
      go_wp2_with (go_at_call 27; refine (C1 _).out.mono ?_; rintro e W ⟨rfl, rfl⟩)
      go_ret
      exact ⟨retb HQ.out, Kept.refl _ _⟩
    · have z0 : ((k : Int) == 0) = false := by rw [beq_eq_false_iff_ne]; omega
      have w1 : IntKind.i64.wrap ((l.length : Int) - 1) = (l.length : Int) - 1 := by rw [IntKind.wrap_i64]; omega
      by_cases h1 : k + 1 = l.length
      · have HQ : Hid (false = B) := hideV (by rw [HB.out, hw, decide_eq_false (by omega : ¬ k + 1 < l.length), Bool.and_false]; rfl)
        have z1 : ((k : Int) == (l.length : Int) - 1) = true := by rw [beq_iff_eq]; omega
        generalize l.getD k 0 = c at *
        clear HB HX hw h0 h1
        go_enter Tryd.func13, Tryd.ntmps13
        go_wp2_with (go_at_call 27; refine (C1 _).out.mono ?_; rintro e W ⟨rfl, rfl⟩)
        go_ret
        exact ⟨retb HQ.out, Kept.refl _ _⟩
      · have z1 : ((k : Int) == (l.length : Int) - 1) = false := by rw [beq_eq_false_iff_ne]; omega
        obtain ⟨j, rfl⟩ : ∃ j, k = j + 1 := ⟨k - 1, by omega⟩
        have b1 : j < s.size := by omega
        have b2 : j + 1 + 1 < s.size := by omega
        have c1 := HX.out j (by omega) b1
        have c2 := HX.out (j + 1 + 1) (by omega) b2
        have HQ : Hid (mk (l.getD j 0) (l.getD (j + 1) 0) (l.getD (j + 1 + 1) 0) = B) := hideV (by rw [HB.out, hw, decide_eq_true (by omega : 0 < j + 1), decide_eq_true (by omega : j + 1 + 1 < l.length)]; rfl)
        have D1 := fun w => hideV (wordByte_u (l.getD j 0) w)
        have D2 := fun w => hideV (wordByte_u (l.getD (j + 1 + 1) 0) w)
        have E1 := fun w => hideV (digit_u (l.getD j 0) w)
        have E2 := fun w => hideV (digit_u (l.getD (j + 1 + 1) 0) w)
        have v1 : (j : Int) + 1 - 1 = (j : Int) := by omega
        have v2 : IntKind.i64.wrap (j : Int) = (j : Int) := by rw [IntKind.wrap_i64]; omega
        have v3 : IntKind.i64.wrap ((j : Int) + 1 + 1) = (j : Int) + 1 + 1 := by rw [IntKind.wrap_i64]; omega
        have z2 : ((j : Int) + 1 == 0) = false := by rw [beq_eq_false_iff_ne]; omega
        have z3 : ((j : Int) + 1 == (l.length : Int) - 1) = false := by rw [beq_eq_false_iff_ne]; omega
        have z4 : ¬ (j : Int) + 1 = (l.length : Int) - 1 := by omega
        clear z0 z1
        have v7 : (0 : Int) ≤ (j : Int) + 1 + 1 := by omega
        have v8 : ((j : Int) + 1 + 1).toNat = j + 1 + 1 := by omega
        have v4 : (j : Int) < (l.length : Int) := by omega
        have v5 : (j : Int) + 1 + 1 < (l.length : Int) := by omega
        have v6 : (j : Int) + 1 < (l.length : Int) := by omega
        generalize l.getD j 0 = a at *
        generalize l.getD (j + 1 + 1) 0 = b at *
        clear HB HX h0 h1
        by_cases hq : l.getD (j + 1) 0 = 39
        · have HR : Hid ((wb a && wb b) = B) := hideV (by rw [← HQ.out, hq]; simp [mk])
          have c3 : s[j + 1].toNat = 39 := by rw [c0, hq]; rfl
          have C1' : ∀ w, Hid (Calls Tryd.prog 27 #[.int .u8 39] w fun e w' => e = .returned (.bool false) ∧ w' = w) := by rw [hq] at C1; exact C1
          clear C1 c0 HQ hw hq E1 E2
          generalize wb a = A at *
          generalize wb b = Bb at *
          cases A
          all_goals
            go_enter Tryd.func13, Tryd.ntmps13
            go_wp2_with (go_at_call 27; refine (C1' _).out.mono ?_; clear C1'; rintro e W ⟨rfl, rfl⟩)
            go_region
            go_wp2_with (go_at_call 27; first | (refine (D1 _).out.mono ?_; clear D1; rintro e W ⟨rfl, rfl⟩) | (refine (D2 _).out.mono ?_; clear D2; rintro e W ⟨rfl, rfl⟩))
            go_ret
            exact ⟨retb HR.out, Kept.drew _⟩
        · have n39 : (((l.getD (j + 1) 0).toNat : Int) == 39) = false := u8_ne hq
          by_cases hq2 : l.getD (j + 1) 0 = 46
          · have HR : Hid ((isDg a && isDg b) = B) := hideV (by rw [← HQ.out, hq2]; simp [mk])
            have c3 : s[j + 1].toNat = 46 := by rw [c0, hq2]; rfl
            have C1' : ∀ w, Hid (Calls Tryd.prog 27 #[.int .u8 46] w fun e w' => e = .returned (.bool false) ∧ w' = w) := by rw [hq2] at C1; exact C1
            clear C1 c0 HQ hw hq hq2 D1 D2 n39
            generalize isDg a = A at *
            generalize isDg b = Bb at *
            cases A
            all_goals
              go_enter Tryd.func13, Tryd.ntmps13
              go_wp2_with (go_at_call 27; refine (C1' _).out.mono ?_; clear C1'; rintro e W ⟨rfl, rfl⟩)
              go_region
              go_wp2_with (go_at_call 28; first | (refine (E1 _).out.mono ?_; clear E1; rintro e W ⟨rfl, rfl⟩) | (refine (E2 _).out.mono ?_; clear E2; rintro e W ⟨rfl, rfl⟩))
              go_ret
              exact ⟨retb HR.out, Kept.drew _⟩
          · have n46 : (((l.getD (j + 1) 0).toNat : Int) == 46) = false := u8_ne hq2
            have HR : Hid (false = B) := hideV (by
              rw [← HQ.out]
              unfold mk
              rw [beq_eq_false_iff_ne.2 hq, beq_eq_false_iff_ne.2 hq2]; rfl)
            generalize l.getD (j + 1) 0 = c at *
            clear HQ hw hq hq2 D1 D2 E1 E2
            go_enter Tryd.func13, Tryd.ntmps13
            go_wp2_with (go_at_call 27; refine (C1 _).out.mono ?_; clear C1; rintro e W ⟨rfl, rfl⟩)
            go_region
            go_wp2
            go_ret
            exact ⟨retb HR.out, Kept.drew _⟩
set_option maxRecDepth 20000 in
set_option maxHeartbeats 2000000 in
theorem wordEnd_any (l : List UInt8) (k0 : Nat) (w : World) (hl : l.length ≤ 1099511627776) (hk0 : k0 ≤ l.length) :
    Calls Tryd.prog 14 #[.string (bq l), .int .i64 k0] w fun e w' => e = .returned (.int .i64 (wE l k0)) ∧ Kept (fun _ => False) w w' := by
  have HI := hideV (fun k w (h : k < l.length) => inWord_any l k w hl h)
  have hz : (bq l).size = l.length := bq_size l
  have hz' : ((bq l).size : Int) = (l.length : Int) := by rw [hz]
  generalize bq l = s at *
  obtain ⟨E, hE⟩ : ∃ E, E = wE l k0 := ⟨_, rfl⟩
  have HE := hideV hE
  rw [← hE]
  clear hE
  go_enter Tryd.func14, Tryd.ntmps14
  go_wp2
  go_loopw [5] (fun i wr => ∃ (k : Nat), k ≤ l.length ∧ i = .int .i64 k ∧ Hid (E = wE l k) ∧ Hid (Kept (fun _ => False) w wr)) (fun i _ => l.length - (intOf i).toNat)
  case atStart => exact ⟨k0, hk0, rfl, HE, Kept.refl _ _⟩
  case round =>
    obtain ⟨k, hk, rfl, HK, KK⟩ := hrel
    clear HE
    by_cases hlt : k < l.length
    · have hki : (k : Int) < (l.length : Int) := by omega
      have CI := fun w => hideV (HI.out k w hlt)
      cases hi : inw l k with
      | true =>
        have HQ : Hid (E = wE l (k + 1)) := hideV (HK.out.trans (wE_step l k hlt hi))
        rw [hi] at CI
        clear hi HK HI
        go_wp2_with (go_at_call 13; refine (CI _).out.mono ?_; clear CI; rintro e W ⟨rfl, K2⟩)
        go_roundw
        case rel => exact ⟨k + 1, by omega, by go_num, HQ, KK.out.trans K2 (fun _ f => f.elim)⟩
        case measure => simp [intOf]; omega
      | false =>
        have HQ : Hid (k = E) := hideV (HK.out.trans (wE_stop l k (fun h => by rw [hi] at h; exact absurd h.2 (by decide)))).symm
        rw [hi] at CI
        have e := HQ.out
        subst e
        clear hi HK HI HQ
        go_wp2_with (go_at_call 13; refine (CI _).out.mono ?_; clear CI; rintro e W ⟨rfl, K2⟩)
        go_ret
        exact ⟨rfl, KK.out.trans K2 (fun _ f => f.elim)⟩
    · have HQ : Hid (k = E) := hideV (HK.out.trans (wE_stop l k (fun h => hlt h.1))).symm
      have e := HQ.out
      subst e
      have hki : ¬ (k : Int) < (l.length : Int) := by omega
      clear HK HI HQ
      go_wp2
      go_ret
      exact ⟨rfl, KK.out⟩
end Go.Proofs.YtnkmjhcddegkhaaDoor
