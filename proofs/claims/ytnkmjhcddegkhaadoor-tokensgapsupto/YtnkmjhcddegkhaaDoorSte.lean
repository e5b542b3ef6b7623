import Derived.Test.YtnkmjhcddegkhaaDoorSsu
namespace Go.Proofs.YtnkmjhcddegkhaaDoor
open Go.ChangeShapes Go.WideShapes Go.ChangeAt Go.RowKit

set_option maxRecDepth 20000 in
set_option maxHeartbeats 8000000 in
theorem step1b_any (l : List UInt8) (w : World) (hl : l.length ≤ 281474976710000) :
    Calls Tryd.prog 34 #[.string (bq l)] w fun e w' => e = .returned (.string (bq (st1b l))) ∧ Kept (fun _ => False) w w' := by
  have C1 := fun w => hideV (cutSfx l [101, 101, 100] w (by omega))
  have C2 := fun w => hideV (cutSfx l [101, 100] w (by omega))
  have C3 := fun w => hideV (cutSfx l [105, 110, 103] w (by omega))
  have hl1 := cutE_le l [101, 101, 100]
  have hl2 := cutE_le l [101, 100]
  have hl3 := cutE_le l [105, 110, 103]
  have s1 : (bq (cutE l [101, 101, 100])).size ≤ 281474976710000 := by rw [bq_size]; omega
  have CM := fun w => hideV (measure_any (cutE l [101, 101, 100]) w (by omega))
  have MI : meas (cutE l [101, 101, 100]) ≤ 281474976710000 := Nat.le_trans (meas_le _) (by omega)
  have V2 := fun w => hideV (hasVowel_any (cutE l [101, 100]) w (by omega))
  have V3 := fun w => hideV (hasVowel_any (cutE l [105, 110, 103]) w (by omega))
  have D2 := fun w => hideV (mended_any (cutE l [101, 100]) w (by omega))
  have D3 := fun w => hideV (mended_any (cutE l [105, 110, 103]) w (by omega))
  clear hl1 hl2 hl3
  have HF := hideV (show st1b l = _ by unfold st1b; rfl)
  cases h1 : sfx l [101, 101, 100] with
  | true =>
    rw [h1, trim_yes h1] at C1
    clear C2 C3 V2 V3 D2 D3
    by_cases hm : 0 < meas (cutE l [101, 101, 100])
    · have HG : Hid (bq (cutE l [101, 101, 100]) ++ ⟨#[101, 101]⟩ = bq (st1b l)) := hideV (by rw [HF.out, h1, if_pos rfl, if_pos hm]; exact bq_append _ [101, 101])
      have m2 : (0 : Int) < (meas (cutE l [101, 101, 100]) : Int) := by omega
      clear HF hm
      generalize meas (cutE l [101, 101, 100]) = mm at *
      generalize bq (cutE l [101, 101, 100]) = R at *
      generalize bq (st1b l) = Z at *
      generalize bq l = s at *
      go_enter Tryd.func34, Tryd.ntmps34
      go_wp2_with (first
        | (go_at_call 46; refine (C1 _).out.mono ?_; rintro e W ⟨rfl, rfl⟩)
        | (go_at_call 45; refine (CM _).out.mono ?_; rintro e W3 ⟨rfl, K3⟩))
      go_ret
      exact ⟨rets HG.out, K3⟩
    · have HG : Hid (bq l = bq (st1b l)) := hideV (by rw [HF.out, h1, if_pos rfl, if_neg hm])
      have m2 : ¬ (0 : Int) < (meas (cutE l [101, 101, 100]) : Int) := by omega
      clear HF hm
      generalize meas (cutE l [101, 101, 100]) = mm at *
      generalize bq (cutE l [101, 101, 100]) = R at *
      generalize bq (st1b l) = Z at *
      generalize bq l = s at *
      go_enter Tryd.func34, Tryd.ntmps34
      go_wp2_with (first
        | (go_at_call 46; refine (C1 _).out.mono ?_; rintro e W ⟨rfl, rfl⟩)
        | (go_at_call 45; refine (CM _).out.mono ?_; rintro e W3 ⟨rfl, K3⟩))
      go_ret
      exact ⟨rets HG.out, K3⟩
  | false =>
    rw [h1, trim_no h1] at C1
    clear CM MI s1
    cases h2 : sfx l [101, 100] with
    | true =>
      rw [h2, trim_yes h2] at C2
      clear C3 V3 D3
      cases hv : hasV (cutE l [101, 100]) with
      | true =>
        have HG : Hid (bq (mend (cutE l [101, 100])) = bq (st1b l)) := hideV (by rw [HF.out, h1, h2, hv]; rfl)
        rw [hv] at V2
        clear HF
        generalize bq (mend (cutE l [101, 100])) = Y at *
        generalize bq (cutE l [101, 100]) = R at *
        generalize bq (st1b l) = Z at *
        generalize bq l = s at *
        go_enter Tryd.func34, Tryd.ntmps34
        go_wp2_with (first
          | (go_at_call 46; first | (refine (C1 _).out.mono ?_; clear C1; rintro e W ⟨rfl, rfl⟩) | (refine (C2 _).out.mono ?_; clear C2; rintro e W ⟨rfl, rfl⟩))
          | (go_at_call 47; refine (V2 _).out.mono ?_; rintro e W3 ⟨rfl, K3⟩)
          | (go_at_call 48; refine (D2 _).out.mono ?_; rintro e W4 ⟨rfl, K4⟩))
        go_ret
        exact ⟨rets HG.out, K3.trans K4 (fun _ f => f.elim)⟩
      | false =>
        have HG : Hid (bq l = bq (st1b l)) := hideV (by rw [HF.out, h1, h2, hv]; rfl)
        rw [hv] at V2
        clear HF D2
        generalize bq (cutE l [101, 100]) = R at *
        generalize bq (st1b l) = Z at *
        generalize bq l = s at *
        go_enter Tryd.func34, Tryd.ntmps34
        go_wp2_with (first
          | (go_at_call 46; first | (refine (C1 _).out.mono ?_; clear C1; rintro e W ⟨rfl, rfl⟩) | (refine (C2 _).out.mono ?_; clear C2; rintro e W ⟨rfl, rfl⟩))
          | (go_at_call 47; refine (V2 _).out.mono ?_; rintro e W3 ⟨rfl, K3⟩))
        go_ret
        exact ⟨rets HG.out, K3⟩
    | false =>
      rw [h2, trim_no h2] at C2
      clear V2 D2
      cases h3 : sfx l [105, 110, 103] with
      | true =>
        rw [h3, trim_yes h3] at C3
        cases hv : hasV (cutE l [105, 110, 103]) with
        | true =>
          have HG : Hid (bq (mend (cutE l [105, 110, 103])) = bq (st1b l)) := hideV (by rw [HF.out, h1, h2, h3, hv]; rfl)
          rw [hv] at V3
          clear HF
          generalize bq (mend (cutE l [105, 110, 103])) = Y at *
          generalize bq (cutE l [105, 110, 103]) = R at *
          generalize bq (st1b l) = Z at *
          generalize bq l = s at *
          go_enter Tryd.func34, Tryd.ntmps34
          go_wp2_with (first
            | (go_at_call 46; first | (refine (C1 _).out.mono ?_; clear C1; rintro e W ⟨rfl, rfl⟩) | (refine (C2 _).out.mono ?_; clear C2; rintro e W ⟨rfl, rfl⟩) | (refine (C3 _).out.mono ?_; clear C3; rintro e W ⟨rfl, rfl⟩))
            | (go_at_call 47; refine (V3 _).out.mono ?_; rintro e W3 ⟨rfl, K3⟩)
            | (go_at_call 48; refine (D3 _).out.mono ?_; rintro e W4 ⟨rfl, K4⟩))
          go_ret
          exact ⟨rets HG.out, K3.trans K4 (fun _ f => f.elim)⟩
        | false =>
          have HG : Hid (bq l = bq (st1b l)) := hideV (by rw [HF.out, h1, h2, h3, hv]; rfl)
          rw [hv] at V3
          clear HF D3
          generalize bq (cutE l [105, 110, 103]) = R at *
          generalize bq (st1b l) = Z at *
          generalize bq l = s at *
          go_enter Tryd.func34, Tryd.ntmps34
          go_wp2_with (first
            | (go_at_call 46; first | (refine (C1 _).out.mono ?_; clear C1; rintro e W ⟨rfl, rfl⟩) | (refine (C2 _).out.mono ?_; clear C2; rintro e W ⟨rfl, rfl⟩) | (refine (C3 _).out.mono ?_; clear C3; rintro e W ⟨rfl, rfl⟩))
            | (go_at_call 47; refine (V3 _).out.mono ?_; rintro e W3 ⟨rfl, K3⟩))
          go_ret
          exact ⟨rets HG.out, K3⟩
      | false =>
        rw [h3, trim_no h3] at C3
        have HG : Hid (bq l = bq (st1b l)) := hideV (by rw [HF.out, h1, h2, h3]; rfl)
        clear HF D3 V3
        generalize bq (st1b l) = Z at *
        generalize bq l = s at *
        go_enter Tryd.func34, Tryd.ntmps34
        go_wp2_with (go_at_call 46; first | (refine (C1 _).out.mono ?_; clear C1; rintro e W ⟨rfl, rfl⟩) | (refine (C2 _).out.mono ?_; clear C2; rintro e W ⟨rfl, rfl⟩) | (refine (C3 _).out.mono ?_; clear C3; rintro e W ⟨rfl, rfl⟩))
        go_ret
        exact ⟨rets HG.out, Kept.refl _ _⟩
set_option maxRecDepth 20000 in
set_option maxHeartbeats 8000000 in
theorem step4_any (l : List UInt8) (w : World) (hl : l.length ≤ 281474976710000) :
    Calls Tryd.prog 38 #[.string (bq l)] w fun e w' => e = .returned (.string (bq (st4 l))) ∧ Kept (fun _ => False) w w' := by
  have C1 := fun w => hideV (hasSfx l [105, 111, 110] w (by omega))
  have C2 := fun w => hideV (ends_new l [[115, 105, 111, 110], [116, 105, 111, 110]] w (by omega) (by decide) 2 rfl #[.string ⟨#[115, 105, 111, 110]⟩, .string ⟨#[116, 105, 111, 110]⟩] rfl)
  rw [any2] at C2
  have C3 := fun w => hideV (replaced4_any l w hl)
  have HF := hideV (show st4 l = _ by unfold st4; rfl)
  have HZ := hideV (show bq (st4 l) = if sfx l [105, 111, 110] && !(sfx l [115, 105, 111, 110] || sfx l [116, 105, 111, 110]) then bq l else bq (rep tb4 2 l) by rw [HF.out]; split <;> rfl)
  clear HF
  generalize sfx l [105, 111, 110] = A at *
  generalize (sfx l [115, 105, 111, 110] || sfx l [116, 105, 111, 110]) = B at *
  generalize bq (rep tb4 2 l) = Y at *
  generalize bq (st4 l) = Z at *
  generalize bq l = s at *
  cases A with
  | false =>
    have HG : Hid (Y = Z) := hideV (by rw [HZ.out]; rfl)
    clear HZ C2
    go_enter Tryd.func38, Tryd.ntmps38
    go_wp2_with (first
      | (go_at_call 49; refine (C1 _).out.mono ?_; rintro e W ⟨rfl, rfl⟩)
      | (go_at_call 32; refine (C3 _).out.mono ?_; rintro e W3 ⟨rfl, K3⟩))
    go_ret
    exact ⟨rets HG.out, K3⟩
  | true =>
    cases B with
    | true =>
      have HG : Hid (Y = Z) := hideV (by rw [HZ.out]; rfl)
      clear HZ
      go_enter Tryd.func38, Tryd.ntmps38
      go_wp2_with (first
        | (go_at_call 49; refine (C1 _).out.mono ?_; rintro e W ⟨rfl, rfl⟩)
        | (go_at_call 50; refine (C2 _).out.mono ?_; rintro e W2 ⟨rfl, K2⟩)
        | (go_at_call 32; refine (C3 _).out.mono ?_; rintro e W3 ⟨rfl, K3⟩))
      go_ret
      exact ⟨rets HG.out, K2.trans K3 (fun _ f => f.elim)⟩
    | false =>
      have HG : Hid (s = Z) := hideV (by rw [HZ.out]; rfl)
      clear HZ C3
      go_enter Tryd.func38, Tryd.ntmps38
      go_wp2_with (first
        | (go_at_call 49; refine (C1 _).out.mono ?_; rintro e W ⟨rfl, rfl⟩)
        | (go_at_call 50; refine (C2 _).out.mono ?_; rintro e W2 ⟨rfl, K2⟩))
      go_ret
      exact ⟨rets HG.out, K2⟩
set_option maxRecDepth 20000 in
set_option maxHeartbeats 8000000 in
theorem shortened_any (l : List UInt8) (w : World) (hl : l.length ≤ 281474976710000) :
    Calls Tryd.prog 22 #[.string (bq l)] w fun e w' => e = .returned (.string (bq (short l))) ∧ Kept (fun _ => False) w w' := by
  obtain ⟨l1, h1⟩ : ∃ x, x = rep tb1 0 l := ⟨_, rfl⟩
  have n1 : l1.length ≤ 281474976710000 := by rw [h1]; exact Nat.le_trans (rep1_le 0 l) hl
  obtain ⟨l2, h2⟩ : ∃ x, x = st1b l1 := ⟨_, rfl⟩
  have n2 : l2.length ≤ 281474976710000 := by rw [h2]; exact Nat.le_trans (st1b_le l1) n1
  obtain ⟨l3, h3⟩ : ∃ x, x = st1c l2 := ⟨_, rfl⟩
  have n3 : l3.length ≤ 281474976710000 := by rw [h3]; exact Nat.le_trans (st1c_le l2) n2
  obtain ⟨l4, h4⟩ : ∃ x, x = rep tb2 1 l3 := ⟨_, rfl⟩
  have n4 : l4.length ≤ 281474976710000 := by rw [h4]; exact Nat.le_trans (rep2_le 1 l3) n3
  obtain ⟨l5, h5⟩ : ∃ x, x = rep tb3 1 l4 := ⟨_, rfl⟩
  have n5 : l5.length ≤ 281474976710000 := by rw [h5]; exact Nat.le_trans (rep3_le 1 l4) n4
  obtain ⟨l6, h6⟩ : ∃ x, x = st4 l5 := ⟨_, rfl⟩
  have n6 : l6.length ≤ 281474976710000 := by rw [h6]; exact Nat.le_trans (st4_le l5) n5
  obtain ⟨l7, h7⟩ : ∃ x, x = st5a l6 := ⟨_, rfl⟩
  have n7 : l7.length ≤ 281474976710000 := by rw [h7]; exact Nat.le_trans (st5a_le l6) n6
  have e8 : short l = st5b l7 := by rw [h7, h6, h5, h4, h3, h2, h1]; rfl
  rw [e8]
  have C1 := fun w => hideV (replaced1_any l w hl)
  have C2 := fun w => hideV (step1b_any l1 w n1)
  have C3 := fun w => hideV (step1c_any l2 w n2)
  have C4 := fun w => hideV (replaced2_any l3 w n3)
  have C5 := fun w => hideV (replaced3_any l4 w n4)
  have C6 := fun w => hideV (step4_any l5 w n5)
  have C7 := fun w => hideV (step5a_any l6 w n6)
  have C8 := fun w => hideV (step5b_any l7 w n7)
  rw [← h1] at C1
  rw [← h2] at C2
  rw [← h3] at C3
  rw [← h4] at C4
  rw [← h5] at C5
  rw [← h6] at C6
  rw [← h7] at C7
  clear h1 h2 h3 h4 h5 h6 h7 e8 n1 n2 n3 n4 n5 n6 n7
  generalize bq (st5b l7) = s8 at *
  generalize bq l7 = s7 at *
  generalize bq l6 = s6 at *
  generalize bq l5 = s5 at *
  generalize bq l4 = s4 at *
  generalize bq l3 = s3 at *
  generalize bq l2 = s2 at *
  generalize bq l1 = s1 at *
  generalize bq l = s at *
  go_enter Tryd.func22, Tryd.ntmps22
  go_wp2_with (first
    | (go_at_call 32; first | (refine (C1 _).out.mono ?_; clear C1; rintro e W1 ⟨rfl, K1⟩) | (refine (C4 _).out.mono ?_; clear C4; rintro e W4 ⟨rfl, K4⟩) | (refine (C5 _).out.mono ?_; clear C5; rintro e W5 ⟨rfl, K5⟩))
    | (go_at_call 34; refine (C2 _).out.mono ?_; rintro e W2 ⟨rfl, K2⟩)
    | (go_at_call 35; refine (C3 _).out.mono ?_; rintro e W3 ⟨rfl, K3⟩)
    | (go_at_call 38; refine (C6 _).out.mono ?_; rintro e W6 ⟨rfl, K6⟩)
    | (go_at_call 39; refine (C7 _).out.mono ?_; rintro e W7 ⟨rfl, K7⟩)
    | (go_at_call 40; refine (C8 _).out.mono ?_; rintro e W8 ⟨rfl, K8⟩))
  go_ret
  exact ⟨rfl, ((((((K1.trans K2 (fun _ f => f.elim)).trans K3 (fun _ f => f.elim)).trans K4 (fun _ f => f.elim)).trans K5 (fun _ f => f.elim)).trans K6 (fun _ f => f.elim)).trans K7 (fun _ f => f.elim)).trans K8 (fun _ f => f.elim)⟩
set_option maxRecDepth 20000 in
set_option maxHeartbeats 8000000 in
theorem stem_rest (l p : List UInt8) (w : World) (hl : p.length ≤ 281474976710000) (Z : ByteArray) (hZ : Z = bq (if 3 ≤ p.length ∧ p.all isSm = true then short p else p)) (f : Bool)
    (hf : (2 < l.length ↔ f = true)) (hll : l.length ≤ 281474976710000) (hp : p = if f then Lib.trimSuffix l [39, 115] else l) :
    Calls Tryd.prog 10 #[.string (bq l)] w fun e w' => e = .returned (.string Z) ∧ Kept (fun _ => False) w w' := by
  have CT := fun w => hideV (trimSfx l [39, 115] w (by omega))
  have CA := fun w => hideV (allSmall_any p w (by omega))
  have CS := fun w => hideV (shortened_any p w hl)
  have CL := fun w => hideV (clone_any p w (by omega))
  have CL2 := fun w => hideV (clone_any (short p) w (by have := short_le p; omega))
  have hz : (bq l).size = l.length := bq_size l
  have hz' : ((bq l).size : Int) = (l.length : Int) := by rw [hz]
  have hy : (bq p).size = p.length := bq_size p
  have hy' : ((bq p).size : Int) = (p.length : Int) := by rw [hy]
  cases f with
  | true =>
    have g2 : (2 : Int) < (l.length : Int) := by have := hf.2 rfl; omega
    have hpp : p = Lib.trimSuffix l [39, 115] := hp
    rw [← hpp] at CT
    clear hp hf hpp
    by_cases h3 : 3 ≤ p.length
    · have g3 : (3 : Int) ≤ (p.length : Int) := by omega
      cases ha : p.all isSm with
      | true =>
        have HG : Hid (bq (short p) = Z) := hideV (by rw [hZ, if_pos ⟨h3, ha⟩])
        rw [ha] at CA
        clear hZ h3 ha CL
        generalize bq (short p) = Y at *
        generalize bq p = R at *
        generalize bq l = s at *
        go_enter Tryd.func10, Tryd.ntmps10
        go_wp2_with (first
          | (go_at_call 20; refine (CT _).out.mono ?_; rintro e W ⟨rfl, rfl⟩)
          | (go_at_call 21; refine (CA _).out.mono ?_; rintro e W ⟨rfl, rfl⟩)
          | (go_at_call 22; refine (CS _).out.mono ?_; rintro e W3 ⟨rfl, K3⟩)
          | (go_at_call 15; refine (CL2 _).out.mono ?_; rintro e W4 ⟨rfl, K4⟩))
        go_ret
        exact ⟨rets HG.out, K3.trans K4 (fun _ f => f.elim)⟩
      | false =>
        have HG : Hid (bq p = Z) := hideV (by rw [hZ, if_neg (fun h => by rw [ha] at h; exact absurd h.2 (by decide))])
        rw [ha] at CA
        clear hZ h3 ha CS CL2
        generalize bq p = R at *
        generalize bq l = s at *
        go_enter Tryd.func10, Tryd.ntmps10
        go_wp2_with (first
          | (go_at_call 20; refine (CT _).out.mono ?_; rintro e W ⟨rfl, rfl⟩)
          | (go_at_call 21; refine (CA _).out.mono ?_; rintro e W ⟨rfl, rfl⟩)
          | (go_at_call 15; refine (CL _).out.mono ?_; rintro e W4 ⟨rfl, K4⟩))
        go_ret
        exact ⟨rets HG.out, K4⟩
    · have g3 : ¬ (3 : Int) ≤ (p.length : Int) := by omega
      have HG : Hid (bq p = Z) := hideV (by rw [hZ, if_neg (fun h => h3 h.1)])
      clear hZ h3 CS CL2 CA
      generalize bq p = R at *
      generalize bq l = s at *
      go_enter Tryd.func10, Tryd.ntmps10
      go_wp2_with (first
        | (go_at_call 20; refine (CT _).out.mono ?_; rintro e W ⟨rfl, rfl⟩)
        | (go_at_call 15; refine (CL _).out.mono ?_; rintro e W4 ⟨rfl, K4⟩))
      go_ret
      exact ⟨rets HG.out, K4⟩
  | false =>
    obtain rfl : p = l := hp
    have g1 : ¬ 2 < p.length := fun h => by have := hf.1 h; cases this
    have g2 : ¬ (2 : Int) < (p.length : Int) := by omega
    have g3 : ¬ (3 : Int) ≤ (p.length : Int) := by omega
    have HG : Hid (bq p = Z) := hideV (by rw [hZ, if_neg (fun h => g1 (by omega))])
    clear hZ CS CL2 CA CT hf g1
    generalize bq p = R at *
    go_enter Tryd.func10, Tryd.ntmps10
    go_wp2_with (go_at_call 15; refine (CL _).out.mono ?_; rintro e W4 ⟨rfl, K4⟩)
    go_ret
    exact ⟨rets HG.out, K4⟩
theorem stem_any (l : List UInt8) (w : World) (hl : l.length ≤ 281474976710000) :
    Calls Tryd.prog 10 #[.string (bq l)] w fun e w' => e = .returned (.string (bq (stem l))) ∧ Kept (fun _ => False) w w' := by
  by_cases h : 2 < l.length
  · exact stem_rest l (posx l) w (Nat.le_trans (posx_le l) hl) _ rfl true (iff_of_true h rfl) hl (by unfold posx; rw [if_pos h]; rfl)
  · exact stem_rest l (posx l) w (Nat.le_trans (posx_le l) hl) _ rfl false (iff_of_false h (by decide)) hl (by unfold posx; rw [if_neg h]; rfl)
end Go.Proofs.YtnkmjhcddegkhaaDoor
