import Derived.Test.YtmfdoohnladohaaPle
namespace Go.Proofs.Ytmfdoohnladohaa
open Go.ChangeShapes Go.WideShapes Go.ChangeAt Go.RowKit

theorem beq_nil (l : List UInt8) : ((bq l).toList == ([] : List UInt8)) = decide (l = []) := by
  rw [bq_list]
  cases l <;> rfl
theorem beq_self (s : ByteArray) : (s.toList == s.toList) = true := by simp
set_option maxRecDepth 20000 in
set_option maxHeartbeats 1000000 in
theorem plurals_walk (l : List UInt8) (w : World) (hl : l.length ≤ 281474976700000) :
    Calls Try.prog 4 #[.string (bq l)] w fun e w' => e = .returned (.bool true) ∧ Kept (fun _ => False) w w' := by
  have CL := fun w => hideV (livesT_any w)
  have CS := fun w => hideV (stem_any l w (by omega))
  have CO := fun w => hideV (stem_any (l ++ [39, 115]) w (by rw [List.length_append]; simp only [List.length_cons, List.length_nil]; omega))
  have CM := fun w => hideV (stem_any (l ++ [115]) w (by rw [List.length_append]; simp only [List.length_cons, List.length_nil]; omega))
  have E1 := fun w => hideV (lends_any l [115] w (by omega) (by decide))
  have E2 := fun w => hideV (lends_any l [105, 101] w (by omega) (by decide))
  have E3 := fun w => hideV (lends_any l [115, 115, 101] w (by omega) (by decide))
  have HO := hideV (stem_own l)
  have HM := hideV (stem_more l)
  have HF := hideV (stem_few l)
  obtain ⟨T1, hT1⟩ : ∃ T, T = bq (l ++ [39, 115]) := ⟨_, rfl⟩
  obtain ⟨T2, hT2⟩ : ∃ T, T = bq (l ++ [115]) := ⟨_, rfl⟩
  have a1 : bq l ++ ⟨#[39, 115]⟩ = T1 := by rw [hT1]; exact bq_append l [39, 115]
  have a2 : bq l ++ ⟨#[115]⟩ = T2 := by rw [hT2]; exact bq_append l [115]
  rw [← hT1] at CO
  rw [← hT2] at CM
  clear hT1 hT2
  obtain ⟨s, hs⟩ : ∃ s, s = bq l := ⟨_, rfl⟩
  have z1 : s.size = l.length := by rw [hs]; exact bq_size l
  have z1' : (s.size : Int) = (l.length : Int) := by rw [z1]
  have HX : Hid (∀ k (h : k < l.length) (h2 : k < s.size), s[k].toNat = l[k].toNat) := hideV (fun k h h2 => by subst hs; rfl)
  have HE : Hid (s = bq l) := hideV hs
  have z2 : (bq (stem l)).size = (stem l).length := bq_size _
  have z2' : ((bq (stem l)).size : Int) = ((stem l).length : Int) := by rw [z2]
  have z3 : ¬ (l.length : Int) < ((stem l).length : Int) := by have := stem_le l; omega
  have n1 : ((bq (stem l)).toList == ([] : List UInt8)) = decide (l = []) := by rw [beq_nil]; exact decide_eq_decide.2 (stem_empty l)
  have n2 : (s.toList == ([] : List UInt8)) = decide (l = []) := by rw [hs]; exact beq_nil l
  have n3 : (decide (l = []) != decide (l = [])) = false := by simp
  rw [← hs] at CS E1 E2 E3 a1 a2 ⊢
  clear hs
  obtain ⟨Z, hZ⟩ : ∃ Z, Z = bq (stem l) := ⟨_, rfl⟩
  rw [← hZ] at CS z2 z2' n1
  have HZ := hideV hZ
  clear hZ
  generalize decide (l = []) = b0 at *
  generalize (stem l).length = sl at *
  go_enter Try.func4, Try.ntmps4
  go_wp2_with (first
    | (go_at_call 5; refine (CL _).out.mono ?_; rintro e W1 ⟨rfl, K1⟩)
    | (go_at_call 6; refine (CS _).out.mono ?_; rintro e W2 ⟨rfl, K2⟩))
  have KK := hideV (K1.trans K2 (fun _ f => f.elim))
  clear K1 K2 CL CS n1 n2 n3
  go_loopw [4] (fun i wr => ∃ (k : Nat), k ≤ l.length ∧ i = .int .i64 k ∧ Hid ((l.take k).all isSm = true) ∧ wr = W2) (fun i _ => l.length - (intOf i).toNat)
  case atStart => exact ⟨0, by omega, rfl, rfl, rfl⟩
  case round =>
    obtain ⟨k, hk, rfl, HA, rfl⟩ := hrel
    by_cases hlt : k < l.length
    · have hlt2 : k < s.size := by omega
      have hc3 := HX.out k hlt hlt2
      have HN := hideV (allS_at l k hlt)
      have hki : (k : Int) < (l.length : Int) := by omega
      generalize l[k] = c at HN hc3
      clear HX CO CM E1 E2 E3 HO HM HF
      by_cases h1 : c.toNat < 97
      · have g1 : (c.toNat : Int) < 97 := by omega
        go_wp2
        go_ret
        exact ⟨rfl, KK.out⟩
      · have g1 : ¬ (c.toNat : Int) < 97 := by omega
        by_cases h2 : 122 < c.toNat
        · have g2 : (122 : Int) < (c.toNat : Int) := by omega
          go_wp2
          go_ret
          exact ⟨rfl, KK.out⟩
        · have g2 : ¬ (122 : Int) < (c.toNat : Int) := by omega
          have HQ : Hid ((l.take (k + 1)).all isSm = true) := hideV (by
            rw [HN.out, HA.out]
            unfold isSm
            rw [decide_eq_true (by omega), decide_eq_true (by omega)]; rfl)
          clear HN HA
          go_wp2
          go_roundw
          case rel => exact ⟨k + 1, by omega, by go_num, HQ, trivial⟩
          case measure => simp [intOf]; omega
    · obtain rfl : k = l.length := by omega
      have hall : l.all isSm = true := by have := HA.out; rwa [List.take_of_length_le (Nat.le_refl _)] at this
      clear HA HX hlt hk
      by_cases h3 : l.length < 3
      · have g3 : (l.length : Int) < 3 := by omega
        have e : Z = s := by rw [HZ.out, HF.out h3]; exact HE.out.symm
        subst e
        clear CO CM E1 E2 E3 HO HM HF HE HZ
        go_wp2
        go_ret
        exact ⟨rfl, KK.out⟩
      · have g3 : ¬ (l.length : Int) < 3 := by omega
        rw [HO.out hall (by omega), ← HZ.out] at CO
        have hne : (Z.toList != Z.toList) = false := by simp
        cases b1 : sfx l [115] with
        | true =>
          rw [b1] at E1
          clear CM E2 E3 HO HM HF HE HZ
          go_wp2_with (first
            | (go_at_call 6; refine (CO _).out.mono ?_; rintro e W3 ⟨rfl, K3⟩)
            | (go_at_call 8; refine (E1 _).out.mono ?_; rintro e W ⟨rfl, rfl⟩))
          go_ret
          exact ⟨rfl, KK.out.trans K3 (fun _ f => f.elim)⟩
        | false =>
          rw [b1] at E1
          cases b2 : sfx l [105, 101] with
          | true =>
            rw [b2] at E2
            clear CM E3 HO HM HF HE HZ
            go_wp2_with (first
              | (go_at_call 6; refine (CO _).out.mono ?_; rintro e W3 ⟨rfl, K3⟩)
              | (go_at_call 8; first | (refine (E1 _).out.mono ?_; clear E1; rintro e W ⟨rfl, rfl⟩) | (refine (E2 _).out.mono ?_; clear E2; rintro e W ⟨rfl, rfl⟩)))
            go_ret
            exact ⟨rfl, KK.out.trans K3 (fun _ f => f.elim)⟩
          | false =>
            rw [b2] at E2
            cases b3 : sfx l [115, 115, 101] with
            | true =>
              rw [b3] at E3
              clear CM HO HM HF HE HZ
              go_wp2_with (first
                | (go_at_call 6; refine (CO _).out.mono ?_; rintro e W3 ⟨rfl, K3⟩)
                | (go_at_call 8; first | (refine (E1 _).out.mono ?_; clear E1; rintro e W ⟨rfl, rfl⟩) | (refine (E2 _).out.mono ?_; clear E2; rintro e W ⟨rfl, rfl⟩) | (refine (E3 _).out.mono ?_; clear E3; rintro e W ⟨rfl, rfl⟩)))
              go_ret
              exact ⟨rfl, KK.out.trans K3 (fun _ f => f.elim)⟩
            | false =>
              rw [b3] at E3
              rw [HM.out hall (by omega) b1 b2 b3, ← HZ.out] at CM
              have hself := beq_self Z
              clear HO HM HF HE HZ
              go_wp2_with (first
                | (go_at_call 6; first | (refine (CO _).out.mono ?_; clear CO; rintro e W3 ⟨rfl, K3⟩) | (refine (CM _).out.mono ?_; clear CM; rintro e W4 ⟨rfl, K4⟩))
                | (go_at_call 8; first | (refine (E1 _).out.mono ?_; clear E1; rintro e W ⟨rfl, rfl⟩) | (refine (E2 _).out.mono ?_; clear E2; rintro e W ⟨rfl, rfl⟩) | (refine (E3 _).out.mono ?_; clear E3; rintro e W ⟨rfl, rfl⟩)))
              go_ret
              exact ⟨rfl, (KK.out.trans K3 (fun _ f => f.elim)).trans K4 (fun _ f => f.elim)⟩
end Go.Proofs.Ytmfdoohnladohaa
