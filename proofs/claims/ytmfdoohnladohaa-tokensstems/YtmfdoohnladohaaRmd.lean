import Derived.Test.YtmfdoohnladohaaRdb5
namespace Go.Proofs.Ytmfdoohnladohaa
open Go.ChangeShapes Go.WideShapes Go.ChangeAt Go.RowKit

set_option maxRecDepth 20000 in
set_option maxHeartbeats 8000000 in
theorem rmended_any (l : List UInt8) (w : World) (hl : l.length ≤ 140737488355000) :
    Calls Try.prog 35 #[.string (bq l)] w fun e w' => e = .returned (.string (bq (mend l))) ∧ Kept (fun _ => False) w w' := by
  have E1 := fun w => hideV (rends_any l [97, 116] w (by omega) (by decide))
  have E2 := fun w => hideV (rends_any l [98, 108] w (by omega) (by decide))
  have E3 := fun w => hideV (rends_any l [105, 122] w (by omega) (by decide))
  have E4 := fun w => hideV (rends_any l [108] w (by omega) (by decide))
  have E5 := fun w => hideV (rends_any l [115] w (by omega) (by decide))
  have E6 := fun w => hideV (rends_any l [122] w (by omega) (by decide))
  have CD := fun w => hideV (rdouble_any l w (by omega))
  have CM := fun w => hideV (rmeasure_any l w (by omega))
  have CS := fun w => hideV (rshort_any l w (by omega))
  have MI := Nat.le_trans (meas_le l) hl
  have hz : (bq l).size = l.length := bq_size l
  have hz' : ((bq l).size : Int) = (l.length : Int) := by rw [hz]
  have HD : Hid (dbl l = true → 1 ≤ l.length) := hideV (fun h => by
    unfold dbl at h
    rw [Bool.and_eq_true, Bool.and_eq_true, decide_eq_true_eq] at h
    omega)
  have x1 := ext_take l (l.length - 1)
  have HF : Hid (bq (mend l) = if sfx l [97, 116] || (sfx l [98, 108] || sfx l [105, 122]) then bq l ++ ⟨#[101]⟩ else if dbl l && !(sfx l [108] || (sfx l [115] || sfx l [122])) then bq (l.take (l.length - 1)) else if decide (meas l = 1) && sht l then bq l ++ ⟨#[101]⟩ else bq l) := hideV (by
    have e : bq l ++ (⟨#[101]⟩ : ByteArray) = bq (l ++ [101]) := bq_append l [101]
    rw [e]
    unfold mend
    split
    · rfl
    · split
      · rfl
      · split <;> rfl)
  generalize sfx l [97, 116] = A1 at *
  generalize sfx l [98, 108] = A2 at *
  generalize sfx l [105, 122] = A3 at *
  generalize sfx l [108] = C1 at *
  generalize sfx l [115] = C2 at *
  generalize sfx l [122] = C3 at *
  generalize dbl l = B at *
  generalize meas l = mm at *
  generalize sht l = sh at *
  generalize bq (mend l) = Z at *
  by_cases hA : (A1 || (A2 || A3)) = true
  · have HG : Hid (bq l ++ ⟨#[101]⟩ = Z) := hideV (by rw [HF.out, hA]; rfl)
    clear HF CD CM CS HD x1 E4 E5 E6
    generalize bq l = s at *
    cases A1
    · cases A2
      · obtain rfl : A3 = true := hA
        go_enter Try.func35, Try.ntmps35
        go_wp2_with (go_at_call 14; first | (refine (E1 _).out.mono ?_; clear E1; rintro e W ⟨rfl, rfl⟩) | (refine (E2 _).out.mono ?_; clear E2; rintro e W ⟨rfl, rfl⟩) | (refine (E3 _).out.mono ?_; clear E3; rintro e W ⟨rfl, rfl⟩))
        go_ret
        exact ⟨rets HG.out, Kept.refl _ _⟩
      · clear hA
        go_enter Try.func35, Try.ntmps35
        go_wp2_with (go_at_call 14; first | (refine (E1 _).out.mono ?_; clear E1; rintro e W ⟨rfl, rfl⟩) | (refine (E2 _).out.mono ?_; clear E2; rintro e W ⟨rfl, rfl⟩))
        go_ret
        exact ⟨rets HG.out, Kept.refl _ _⟩
    · clear hA
      go_enter Try.func35, Try.ntmps35
      go_wp2_with (go_at_call 14; refine (E1 _).out.mono ?_; clear E1; rintro e W ⟨rfl, rfl⟩)
      go_ret
      exact ⟨rets HG.out, Kept.refl _ _⟩
  · obtain ⟨rfl, rfl, rfl⟩ : A1 = false ∧ A2 = false ∧ A3 = false := by cases A1 <;> cases A2 <;> cases A3 <;> simp_all
    clear hA
    by_cases hBC : (B && !(C1 || (C2 || C3))) = true
    · obtain ⟨rfl, rfl, rfl, rfl⟩ : B = true ∧ C1 = false ∧ C2 = false ∧ C3 = false := by cases B <;> cases C1 <;> cases C2 <;> cases C3 <;> simp_all
      have hl1 := HD.out rfl
      have HG : Hid (bq (l.take (l.length - 1)) = Z) := hideV (by rw [HF.out]; rfl)
      obtain ⟨r, hr⟩ : ∃ r, r = l.length - 1 := ⟨_, rfl⟩
      have r1 : (l.length : Int) - 1 = (r : Int) := by omega
      have r2 : r ≤ l.length := by omega
      have r3 : IntKind.i64.wrap (r : Int) = (r : Int) := by rw [IntKind.wrap_i64]; omega
      rw [← hr] at HG x1
      generalize bq (l.take r) = R at *
      generalize bq l = s at *
      clear HF CM CS HD hr hBC
      go_enter Try.func35, Try.ntmps35
      go_wp2_with (first
        | (go_at_call 14; first | (refine (E1 _).out.mono ?_; clear E1; rintro e W ⟨rfl, rfl⟩) | (refine (E2 _).out.mono ?_; clear E2; rintro e W ⟨rfl, rfl⟩) | (refine (E3 _).out.mono ?_; clear E3; rintro e W ⟨rfl, rfl⟩) | (refine (E4 _).out.mono ?_; clear E4; rintro e W4 ⟨rfl, e4⟩; subst e4) | (refine (E5 _).out.mono ?_; clear E5; rintro e W4 ⟨rfl, e4⟩; subst e4) | (refine (E6 _).out.mono ?_; clear E6; rintro e W4 ⟨rfl, e4⟩; subst e4))
        | (go_at_call 50; refine (CD _).out.mono ?_; rintro e W2 ⟨rfl, K2⟩))
      go_ret
      exact ⟨rets HG.out, K2⟩
    · have HG : Hid ((if decide (mm = 1) && sh then bq l ++ ⟨#[101]⟩ else bq l) = Z) := hideV (by
        rw [HF.out]
        rw [Bool.not_eq_true] at hBC
        rw [hBC]; rfl)
      clear HF HD x1
      generalize bq l = s at *
      have hs3 : (mm = 1 ∧ sh = true) ∨ (mm = 1 ∧ sh = false) ∨ mm ≠ 1 := by
        by_cases h1 : mm = 1
        · cases sh
          · exact Or.inr (Or.inl ⟨h1, rfl⟩)
          · exact Or.inl ⟨h1, rfl⟩
        · exact Or.inr (Or.inr h1)
      rcases hs3 with ⟨rfl, rfl⟩ | ⟨rfl, rfl⟩ | hm
      · have HH : Hid (s ++ ⟨#[101]⟩ = Z) := HG
        clear HG
        cases B <;> cases C1 <;> cases C2 <;> cases C3
        all_goals first
          | exact absurd rfl hBC
          | (clear hBC
             go_enter Try.func35, Try.ntmps35
             go_wp2_with (first
               | (go_at_call 14; first | (refine (E1 _).out.mono ?_; clear E1; rintro e W ⟨rfl, rfl⟩) | (refine (E2 _).out.mono ?_; clear E2; rintro e W ⟨rfl, rfl⟩) | (refine (E3 _).out.mono ?_; clear E3; rintro e W ⟨rfl, rfl⟩) | (refine (E4 _).out.mono ?_; clear E4; rintro e W4 ⟨rfl, e4⟩; subst e4) | (refine (E5 _).out.mono ?_; clear E5; rintro e W4 ⟨rfl, e4⟩; subst e4) | (refine (E6 _).out.mono ?_; clear E6; rintro e W4 ⟨rfl, e4⟩; subst e4))
               | (go_at_call 50; refine (CD _).out.mono ?_; rintro e W2 ⟨rfl, K2⟩)
               | (go_at_call 33; refine (CM _).out.mono ?_; rintro e W5 ⟨rfl, K5⟩)
               | (go_at_call 37; refine (CS _).out.mono ?_; rintro e W6 ⟨rfl, K6⟩))
             go_ret
             exact ⟨rets HH.out, (K2.trans K5 (fun _ f => f.elim)).trans K6 (fun _ f => f.elim)⟩)
      · have HH : Hid (s = Z) := HG
        clear HG
        cases B <;> cases C1 <;> cases C2 <;> cases C3
        all_goals first
          | exact absurd rfl hBC
          | (clear hBC
             go_enter Try.func35, Try.ntmps35
             go_wp2_with (first
               | (go_at_call 14; first | (refine (E1 _).out.mono ?_; clear E1; rintro e W ⟨rfl, rfl⟩) | (refine (E2 _).out.mono ?_; clear E2; rintro e W ⟨rfl, rfl⟩) | (refine (E3 _).out.mono ?_; clear E3; rintro e W ⟨rfl, rfl⟩) | (refine (E4 _).out.mono ?_; clear E4; rintro e W4 ⟨rfl, e4⟩; subst e4) | (refine (E5 _).out.mono ?_; clear E5; rintro e W4 ⟨rfl, e4⟩; subst e4) | (refine (E6 _).out.mono ?_; clear E6; rintro e W4 ⟨rfl, e4⟩; subst e4))
               | (go_at_call 50; refine (CD _).out.mono ?_; rintro e W2 ⟨rfl, K2⟩)
               | (go_at_call 33; refine (CM _).out.mono ?_; rintro e W5 ⟨rfl, K5⟩)
               | (go_at_call 37; refine (CS _).out.mono ?_; rintro e W6 ⟨rfl, K6⟩))
             go_ret
             exact ⟨rets HH.out, (K2.trans K5 (fun _ f => f.elim)).trans K6 (fun _ f => f.elim)⟩)
      · have HH : Hid (s = Z) := hideV (by have := HG.out; rwa [decide_eq_false hm] at this)
        have m3 : ((mm : Int) == 1) = false := by rw [beq_eq_false_iff_ne]; omega
        clear HG
        cases B <;> cases C1 <;> cases C2 <;> cases C3
        all_goals first
          | exact absurd rfl hBC
          | (clear hBC
             go_enter Try.func35, Try.ntmps35
             go_wp2_with (first
               | (go_at_call 14; first | (refine (E1 _).out.mono ?_; clear E1; rintro e W ⟨rfl, rfl⟩) | (refine (E2 _).out.mono ?_; clear E2; rintro e W ⟨rfl, rfl⟩) | (refine (E3 _).out.mono ?_; clear E3; rintro e W ⟨rfl, rfl⟩) | (refine (E4 _).out.mono ?_; clear E4; rintro e W4 ⟨rfl, e4⟩; subst e4) | (refine (E5 _).out.mono ?_; clear E5; rintro e W4 ⟨rfl, e4⟩; subst e4) | (refine (E6 _).out.mono ?_; clear E6; rintro e W4 ⟨rfl, e4⟩; subst e4))
               | (go_at_call 50; refine (CD _).out.mono ?_; rintro e W2 ⟨rfl, K2⟩)
               | (go_at_call 33; refine (CM _).out.mono ?_; rintro e W5 ⟨rfl, K5⟩))
             go_ret
             exact ⟨rets HH.out, K2.trans K5 (fun _ f => f.elim)⟩)
end Go.Proofs.Ytmfdoohnladohaa
