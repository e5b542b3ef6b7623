import Derived.Test.YtnkmjhcddegkhaaDoorSrp
namespace Go.Proofs.YtnkmjhcddegkhaaDoor
open Go.ChangeShapes Go.WideShapes Go.ChangeAt Go.RowKit

theorem rets {a b : ByteArray} (h : a = b) : Ending.returned (.string a) = .returned (.string b) := by rw [h]
theorem cutE_le (l e : List UInt8) : (cutE l e).length ≤ l.length := by unfold cutE; rw [List.length_take]; omega
theorem any3 (l a b c : List UInt8) : anyS l [a, b, c] = (sfx l a || (sfx l b || sfx l c)) := by simp [anyS]
theorem any2 (l a b : List UInt8) : anyS l [a, b] = (sfx l a || sfx l b) := by simp [anyS]
set_option maxRecDepth 20000 in
set_option maxHeartbeats 4000000 in
theorem step1c_any (l : List UInt8) (w : World) (hl : l.length ≤ 281474976710000) :
    Calls Tryd.prog 35 #[.string (bq l)] w fun e w' => e = .returned (.string (bq (st1c l))) ∧ Kept (fun _ => False) w w' := by
  have CC := fun w => hideV (cutSfx l [121] w (by omega))
  cases h1 : sfx l [121] with
  | true =>
    have CV := fun w => hideV (hasVowel_any (cutE l [121]) w (by have := cutE_le l [121]; omega))
    rw [h1, trim_yes h1] at CC
    have s1 : (bq (cutE l [121])).size ≤ 281474976710000 := by rw [bq_size]; have := cutE_le l [121]; omega
    cases h2 : hasV (cutE l [121]) with
    | true =>
      have HF : Hid (bq (cutE l [121]) ++ ⟨#[105]⟩ = bq (st1c l)) := hideV (by unfold st1c; rw [h1, h2]; exact bq_append _ _)
      rw [h2] at CV
      generalize bq (cutE l [121]) = R at *
      generalize bq (st1c l) = Z at *
      generalize bq l = s at *
      go_enter Tryd.func35, Tryd.ntmps35
      go_wp2_with (first
        | (go_at_call 46; refine (CC _).out.mono ?_; rintro e W ⟨rfl, rfl⟩)
        | (go_at_call 47; refine (CV _).out.mono ?_; rintro e W3 ⟨rfl, K3⟩))
      go_ret
      exact ⟨rets HF.out, K3⟩
    | false =>
      have HF : Hid (bq l = bq (st1c l)) := hideV (by unfold st1c; rw [h1, h2]; rfl)
      rw [h2] at CV
      generalize bq (cutE l [121]) = R at *
      generalize bq (st1c l) = Z at *
      generalize bq l = s at *
      go_enter Tryd.func35, Tryd.ntmps35
      go_wp2_with (first
        | (go_at_call 46; refine (CC _).out.mono ?_; rintro e W ⟨rfl, rfl⟩)
        | (go_at_call 47; refine (CV _).out.mono ?_; rintro e W3 ⟨rfl, K3⟩))
      go_ret
      exact ⟨rets HF.out, K3⟩
  | false =>
    rw [h1, trim_no h1] at CC
    have HF : Hid (bq l = bq (st1c l)) := hideV (by unfold st1c; rw [h1]; rfl)
    generalize bq (st1c l) = Z at *
    generalize bq l = s at *
    go_enter Tryd.func35, Tryd.ntmps35
    go_wp2_with (go_at_call 46; refine (CC _).out.mono ?_; rintro e W ⟨rfl, rfl⟩)
    go_ret
    exact ⟨rets HF.out, Kept.refl _ _⟩
set_option maxRecDepth 20000 in
set_option maxHeartbeats 4000000 in
theorem step5b_any (l : List UInt8) (w : World) (hl : l.length ≤ 281474976710000) :
    Calls Tryd.prog 40 #[.string (bq l)] w fun e w' => e = .returned (.string (bq (st5b l))) ∧ Kept (fun _ => False) w w' := by
  have CC := fun w => hideV (hasSfx l [108, 108] w (by omega))
  have CM := fun w => hideV (measure_any l w (by omega))
  have MI := Nat.le_trans (meas_le l) hl
  have hz : (bq l).size = l.length := bq_size l
  have hz' : ((bq l).size : Int) = (l.length : Int) := by rw [hz]
  cases h1 : sfx l [108, 108] with
  | true =>
    rw [h1] at CC
    have h2l := sfx_le h1
    simp only [List.length_cons, List.length_nil] at h2l
    by_cases h2 : 1 < meas l
    · have HF : Hid (bq (l.take (l.length - 1)) = bq (st5b l)) := hideV (by unfold st5b; rw [h1, decide_eq_true h2]; rfl)
      have x1 := ext_take l (l.length - 1)
      have m2 : (1 : Int) < (meas l : Int) := by omega
      obtain ⟨r, hr⟩ : ∃ r, r = l.length - 1 := ⟨_, rfl⟩
      have r1 : (l.length : Int) - 1 = (r : Int) := by omega
      have r2 : r ≤ l.length := by omega
      have r3 : IntKind.i64.wrap (r : Int) = (r : Int) := by rw [IntKind.wrap_i64]; omega
      rw [← hr] at HF x1
      generalize meas l = mm at *
      generalize bq (l.take r) = R at *
      generalize bq (st5b l) = Z at *
      generalize bq l = s at *
      clear h2 hr h1
      go_enter Tryd.func40, Tryd.ntmps40
      go_wp2_with (first
        | (go_at_call 49; refine (CC _).out.mono ?_; rintro e W ⟨rfl, rfl⟩)
        | (go_at_call 45; refine (CM _).out.mono ?_; rintro e W3 ⟨rfl, K3⟩))
      go_ret
      exact ⟨rets HF.out, K3⟩
    · have HF : Hid (bq l = bq (st5b l)) := hideV (by unfold st5b; rw [decide_eq_false h2, Bool.and_false]; rfl)
      have m2 : ¬ (1 : Int) < (meas l : Int) := by omega
      generalize meas l = mm at *
      generalize bq (st5b l) = Z at *
      generalize bq l = s at *
      clear h2 h1
      go_enter Tryd.func40, Tryd.ntmps40
      go_wp2_with (first
        | (go_at_call 49; refine (CC _).out.mono ?_; rintro e W ⟨rfl, rfl⟩)
        | (go_at_call 45; refine (CM _).out.mono ?_; rintro e W3 ⟨rfl, K3⟩))
      go_ret
      exact ⟨rets HF.out, K3⟩
  | false =>
    rw [h1] at CC
    have HF : Hid (bq l = bq (st5b l)) := hideV (by unfold st5b; rw [h1]; rfl)
    generalize bq (st5b l) = Z at *
    generalize bq l = s at *
    clear CM
    go_enter Tryd.func40, Tryd.ntmps40
    go_wp2_with (go_at_call 49; refine (CC _).out.mono ?_; rintro e W ⟨rfl, rfl⟩)
    go_ret
    exact ⟨rets HF.out, Kept.refl _ _⟩
set_option maxRecDepth 20000 in
set_option maxHeartbeats 4000000 in
theorem step5a_any (l : List UInt8) (w : World) (hl : l.length ≤ 281474976710000) :
    Calls Tryd.prog 39 #[.string (bq l)] w fun e w' => e = .returned (.string (bq (st5a l))) ∧ Kept (fun _ => False) w w' := by
  have CC := fun w => hideV (cutSfx l [101] w (by omega))
  have hle := cutE_le l [101]
  cases h1 : sfx l [101] with
  | true =>
    rw [h1, trim_yes h1] at CC
    have CM := fun w => hideV (measure_any (cutE l [101]) w (by omega))
    have CS := fun w => hideV (endsShort_any (cutE l [101]) w (by omega))
    have MI := Nat.le_trans (meas_le (cutE l [101])) (Nat.le_trans hle hl)
    have hF : st5a l = if decide (1 < meas (cutE l [101])) || (decide (meas (cutE l [101]) = 1) && !sht (cutE l [101])) then cutE l [101] else l := by unfold st5a; rw [h1]; rfl
    have HF : Hid (bq (st5a l) = if decide (1 < meas (cutE l [101])) || (decide (meas (cutE l [101]) = 1) && !sht (cutE l [101])) then bq (cutE l [101]) else bq l) := hideV (by rw [hF]; split <;> rfl)
    clear hF h1 hle
    generalize meas (cutE l [101]) = mm at *
    generalize sht (cutE l [101]) = sh at *
    generalize bq (cutE l [101]) = R at *
    generalize bq (st5a l) = Z at *
    generalize bq l = s at *
    by_cases h2 : 1 < mm
    · have HG : Hid (R = Z) := hideV (by rw [HF.out, decide_eq_true h2]; rfl)
      have m2 : (1 : Int) < (mm : Int) := by omega
      clear HF CS
      go_enter Tryd.func39, Tryd.ntmps39
      go_wp2_with (first
        | (go_at_call 46; refine (CC _).out.mono ?_; rintro e W ⟨rfl, rfl⟩)
        | (go_at_call 45; refine (CM _).out.mono ?_; rintro e W3 ⟨rfl, K3⟩))
      go_ret
      exact ⟨rets HG.out, K3⟩
    · have m2 : ¬ (1 : Int) < (mm : Int) := by omega
      by_cases h3 : mm = 1
      · subst h3
        cases sh with
        | true =>
          have HG : Hid (s = Z) := hideV (by rw [HF.out]; rfl)
          clear HF
          go_enter Tryd.func39, Tryd.ntmps39
          go_wp2_with (first
            | (go_at_call 46; refine (CC _).out.mono ?_; rintro e W ⟨rfl, rfl⟩)
            | (go_at_call 45; refine (CM _).out.mono ?_; rintro e W3 ⟨rfl, K3⟩)
            | (go_at_call 52; refine (CS _).out.mono ?_; rintro e W4 ⟨rfl, K4⟩))
          go_ret
          exact ⟨rets HG.out, K3.trans K4 (fun _ f => f.elim)⟩
        | false =>
          have HG : Hid (R = Z) := hideV (by rw [HF.out]; rfl)
          clear HF
          go_enter Tryd.func39, Tryd.ntmps39
          go_wp2_with (first
            | (go_at_call 46; refine (CC _).out.mono ?_; rintro e W ⟨rfl, rfl⟩)
            | (go_at_call 45; refine (CM _).out.mono ?_; rintro e W3 ⟨rfl, K3⟩)
            | (go_at_call 52; refine (CS _).out.mono ?_; rintro e W4 ⟨rfl, K4⟩))
          go_ret
          exact ⟨rets HG.out, K3.trans K4 (fun _ f => f.elim)⟩
      · have HG : Hid (s = Z) := hideV (by rw [HF.out, decide_eq_false h2, decide_eq_false h3]; rfl)
        have m3 : ((mm : Int) == 1) = false := by rw [beq_eq_false_iff_ne]; omega
        clear HF CS
        go_enter Tryd.func39, Tryd.ntmps39
        go_wp2_with (first
          | (go_at_call 46; refine (CC _).out.mono ?_; rintro e W ⟨rfl, rfl⟩)
          | (go_at_call 45; refine (CM _).out.mono ?_; rintro e W3 ⟨rfl, K3⟩))
        go_ret
        exact ⟨rets HG.out, K3⟩
  | false =>
    rw [h1, trim_no h1] at CC
    have HF : Hid (bq l = bq (st5a l)) := hideV (by unfold st5a; rw [h1]; rfl)
    generalize bq (st5a l) = Z at *
    generalize bq l = s at *
    go_enter Tryd.func39, Tryd.ntmps39
    go_wp2_with (go_at_call 46; refine (CC _).out.mono ?_; rintro e W ⟨rfl, rfl⟩)
    go_ret
    exact ⟨rets HF.out, Kept.refl _ _⟩
end Go.Proofs.YtnkmjhcddegkhaaDoor
