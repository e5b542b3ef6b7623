import Derived.Test.YtnkmjhcddegkhaaDoorSst
namespace Go.Proofs.YtnkmjhcddegkhaaDoor
open Go.ChangeShapes Go.WideShapes Go.ChangeAt Go.RowKit

set_option maxRecDepth 20000 in
set_option maxHeartbeats 8000000 in
theorem mended_any (l : List UInt8) (w : World) (hl : l.length ≤ 281474976710000) :
    Calls Tryd.prog 48 #[.string (bq l)] w fun e w' => e = .returned (.string (bq (mend l))) ∧ Kept (fun _ => False) w w' := by
  have CA := fun w => hideV (ends_new l [[97, 116], [98, 108], [105, 122]] w (by omega) (by decide) 3 rfl #[.string ⟨#[97, 116]⟩, .string ⟨#[98, 108]⟩, .string ⟨#[105, 122]⟩] rfl)
  have CB := fun w => hideV (ends_new l [[108], [115], [122]] w (by omega) (by decide) 3 rfl #[.string ⟨#[108]⟩, .string ⟨#[115]⟩, .string ⟨#[122]⟩] rfl)
  rw [any3] at CA CB
  have CD := fun w => hideV (endsDouble_any l w (by omega))
  have CM := fun w => hideV (measure_any l w (by omega))
  have CS := fun w => hideV (endsShort_any l w (by omega))
  have MI := Nat.le_trans (meas_le l) hl
  have hz : (bq l).size = l.length := bq_size l
  have hz' : ((bq l).size : Int) = (l.length : Int) := by rw [hz]
  have HD : Hid (dbl l = true → 1 ≤ l.length) := hideV (fun h => by
    unfold dbl at h
    rw [Bool.and_eq_true, Bool.and_eq_true, decide_eq_true_eq] at h
    omega)
  have x1 := ext_take l (l.length - 1)
  have HF : Hid (bq (mend l) = if sfx l [97, 116] || (sfx l [98, 108] || sfx l [105, 122]) then bq l ++ ⟨#[101]⟩ else if dbl l && !(sfx l [108] || (sfx l [115] || sfx l [122])) then bq (l.take (l.length - 1)) else if decide (meas l = 1) && sht l then bq l ++ ⟨#[101]⟩ else bq l) := hideV (by
    have e : bq l ++ (⟨#[101]⟩ : ByteArray) = bq (l ++ [101]) := bq_append l [101]
    rw [e]
    unfold mend
    split
    · rfl
    · split
      · rfl
      · split <;> rfl)
  generalize (sfx l [97, 116] || (sfx l [98, 108] || sfx l [105, 122])) = A at *
  generalize (sfx l [108] || (sfx l [115] || sfx l [122])) = C at *
  generalize dbl l = B at *
  generalize meas l = mm at *
  generalize sht l = sh at *
  generalize bq (mend l) = Z at *
  cases A with
  | true =>
    have HG : Hid (bq l ++ ⟨#[101]⟩ = Z) := hideV (by rw [HF.out]; rfl)
    clear HF CB CD CM CS HD x1
    generalize bq l = s at *
    go_enter Tryd.func48, Tryd.ntmps48
    go_wp2_with (go_at_call 50; refine (CA _).out.mono ?_; rintro e W ⟨rfl, K⟩)
    go_ret
    exact ⟨rets HG.out, K⟩
  | false =>
    by_cases hBC : B = true ∧ C = false
    · obtain ⟨rfl, rfl⟩ := hBC
      have hl1 := HD.out rfl
      have HG : Hid (bq (l.take (l.length - 1)) = Z) := hideV (by rw [HF.out]; rfl)
      obtain ⟨r, hr⟩ : ∃ r, r = l.length - 1 := ⟨_, rfl⟩
      have r1 : (l.length : Int) - 1 = (r : Int) := by omega
      have r2 : r ≤ l.length := by omega
      have r3 : IntKind.i64.wrap (r : Int) = (r : Int) := by rw [IntKind.wrap_i64]; omega
      rw [← hr] at HG x1
      generalize bq (l.take r) = R at *
      generalize bq l = s at *
      clear HF CM CS HD hr
      go_enter Tryd.func48, Tryd.ntmps48
      go_wp2_with (first
        | (go_at_call 50; first | (refine (CA _).out.mono ?_; clear CA; rintro e W ⟨rfl, K⟩) | (refine (CB _).out.mono ?_; clear CB; rintro e W3 ⟨rfl, K3⟩))
        | (go_at_call 58; refine (CD _).out.mono ?_; rintro e W2 ⟨rfl, K2⟩))
      go_ret
      exact ⟨rets HG.out, (K.trans K2 (fun _ f => f.elim)).trans K3 (fun _ f => f.elim)⟩
    · have HG : Hid ((if decide (mm = 1) && sh then bq l ++ ⟨#[101]⟩ else bq l) = Z) := hideV (by
        rw [HF.out]
        have : (B && !C) = false := by
          cases B <;> cases C <;> simp_all
        rw [this]; rfl)
      clear HF HD x1
      generalize bq l = s at *
      cases B with
      | false =>
        clear CB hBC
        by_cases hm : mm = 1
        · subst hm
          cases sh with
          | true =>
            have HH : Hid (s ++ ⟨#[101]⟩ = Z) := HG
            clear HG
            go_enter Tryd.func48, Tryd.ntmps48
            go_wp2_with (first
              | (go_at_call 50; refine (CA _).out.mono ?_; clear CA; rintro e W ⟨rfl, K⟩)
              | (go_at_call 58; refine (CD _).out.mono ?_; rintro e W2 ⟨rfl, K2⟩)
              | (go_at_call 45; refine (CM _).out.mono ?_; rintro e W4 ⟨rfl, K4⟩)
              | (go_at_call 52; refine (CS _).out.mono ?_; rintro e W5 ⟨rfl, K5⟩))
            go_ret
            exact ⟨rets HH.out, ((K.trans K2 (fun _ f => f.elim)).trans K4 (fun _ f => f.elim)).trans K5 (fun _ f => f.elim)⟩
          | false =>
            have HH : Hid (s = Z) := HG
            clear HG
            go_enter Tryd.func48, Tryd.ntmps48
            go_wp2_with (first
              | (go_at_call 50; refine (CA _).out.mono ?_; clear CA; rintro e W ⟨rfl, K⟩)
              | (go_at_call 58; refine (CD _).out.mono ?_; rintro e W2 ⟨rfl, K2⟩)
              | (go_at_call 45; refine (CM _).out.mono ?_; rintro e W4 ⟨rfl, K4⟩)
              | (go_at_call 52; refine (CS _).out.mono ?_; rintro e W5 ⟨rfl, K5⟩))
            go_ret
            exact ⟨rets HH.out, ((K.trans K2 (fun _ f => f.elim)).trans K4 (fun _ f => f.elim)).trans K5 (fun _ f => f.elim)⟩
        · have HH : Hid (s = Z) := hideV (by have := HG.out; rwa [decide_eq_false hm] at this)
          have m3 : ((mm : Int) == 1) = false := by rw [beq_eq_false_iff_ne]; omega
          clear HG
          go_enter Tryd.func48, Tryd.ntmps48
          go_wp2_with (first
            | (go_at_call 50; refine (CA _).out.mono ?_; clear CA; rintro e W ⟨rfl, K⟩)
            | (go_at_call 58; refine (CD _).out.mono ?_; rintro e W2 ⟨rfl, K2⟩)
            | (go_at_call 45; refine (CM _).out.mono ?_; rintro e W4 ⟨rfl, K4⟩))
          go_ret
          exact ⟨rets HH.out, (K.trans K2 (fun _ f => f.elim)).trans K4 (fun _ f => f.elim)⟩
      | true =>
        obtain rfl : C = true := by cases C <;> simp_all
        clear hBC
        by_cases hm : mm = 1
        · subst hm
          cases sh with
          | true =>
            have HH : Hid (s ++ ⟨#[101]⟩ = Z) := HG
            clear HG
            go_enter Tryd.func48, Tryd.ntmps48
            go_wp2_with (first
              | (go_at_call 50; first | (refine (CA _).out.mono ?_; clear CA; rintro e W ⟨rfl, K⟩) | (refine (CB _).out.mono ?_; clear CB; rintro e W3 ⟨rfl, K3⟩))
              | (go_at_call 58; refine (CD _).out.mono ?_; rintro e W2 ⟨rfl, K2⟩)
              | (go_at_call 45; refine (CM _).out.mono ?_; rintro e W4 ⟨rfl, K4⟩)
              | (go_at_call 52; refine (CS _).out.mono ?_; rintro e W5 ⟨rfl, K5⟩))
            go_ret
            exact ⟨rets HH.out, (((K.trans K2 (fun _ f => f.elim)).trans K3 (fun _ f => f.elim)).trans K4 (fun _ f => f.elim)).trans K5 (fun _ f => f.elim)⟩
          | false =>
            have HH : Hid (s = Z) := HG
            clear HG
            go_enter Tryd.func48, Tryd.ntmps48
            go_wp2_with (first
              | (go_at_call 50; first | (refine (CA _).out.mono ?_; clear CA; rintro e W ⟨rfl, K⟩) | (refine (CB _).out.mono ?_; clear CB; rintro e W3 ⟨rfl, K3⟩))
              | (go_at_call 58; refine (CD _).out.mono ?_; rintro e W2 ⟨rfl, K2⟩)
              | (go_at_call 45; refine (CM _).out.mono ?_; rintro e W4 ⟨rfl, K4⟩)
              | (go_at_call 52; refine (CS _).out.mono ?_; rintro e W5 ⟨rfl, K5⟩))
            go_ret
            exact ⟨rets HH.out, (((K.trans K2 (fun _ f => f.elim)).trans K3 (fun _ f => f.elim)).trans K4 (fun _ f => f.elim)).trans K5 (fun _ f => f.elim)⟩
        · have HH : Hid (s = Z) := hideV (by have := HG.out; rwa [decide_eq_false hm] at this)
          have m3 : ((mm : Int) == 1) = false := by rw [beq_eq_false_iff_ne]; omega
          clear HG
          go_enter Tryd.func48, Tryd.ntmps48
          go_wp2_with (first
            | (go_at_call 50; first | (refine (CA _).out.mono ?_; clear CA; rintro e W ⟨rfl, K⟩) | (refine (CB _).out.mono ?_; clear CB; rintro e W3 ⟨rfl, K3⟩))
            | (go_at_call 58; refine (CD _).out.mono ?_; rintro e W2 ⟨rfl, K2⟩)
            | (go_at_call 45; refine (CM _).out.mono ?_; rintro e W4 ⟨rfl, K4⟩))
          go_ret
          exact ⟨rets HH.out, ((K.trans K2 (fun _ f => f.elim)).trans K3 (fun _ f => f.elim)).trans K4 (fun _ f => f.elim)⟩
end Go.Proofs.YtnkmjhcddegkhaaDoor
