import Derived.Test.YtmddcjjmlfpffaaFzf
namespace Go.Proofs.Ytmddcjjmlfpffaa
open Go.ChangeShapes Go.WideShapes Go.ChangeAt Go.RowKit

theorem bq_app (a b : List UInt8) : bq a ++ bq b = bq (a ++ b) := by
  apply ByteArray.ext
  rw [ByteArray.data_append]
  show a.toArray ++ b.toArray = (a ++ b).toArray
  simp
theorem edF_all {a b : List UInt8} {most : Int} (h : ((max a.length b.length : Nat) : Int) ≤ most) : edF a b most = (led2 a b : Int) := by
  have h2 := led2_high a b
  have h3 : (if most < 0 then 0 else most) = most := if_neg (by omega)
  unfold edF
  rw [h3, if_pos (by omega)]
theorem edF_cut (a b : List UInt8) (most : Int) : edF a b most = if (if most < 0 then 0 else most) + 1 < (led2 a b : Int) then (if most < 0 then 0 else most) + 1 else (led2 a b : Int) := by
  unfold edF
  split <;> split <;> split <;> omega
theorem edF_abba : edF [97, 98] [98, 97] 9 = 2 := by decide +kernel
set_option maxRecDepth 20000 in
set_option maxHeartbeats 4000000 in
theorem metric_far (a b c x : ByteArray) (w : World) (h : 300 < a.size ∨ 300 < b.size ∨ 300 < c.size ∨ 300 < x.size) : Calls Try.prog 4 #[.string a, .string b, .string c, .string x] w fun e w' => e = .returned (.bool true) ∧ Kept (fun _ => False) w w' := by
  have CE : Hid (∀ W, Calls Try.prog 5 #[.string ⟨#[97, 98]⟩, .string ⟨#[98, 97]⟩, .int .i64 9] W fun e w' => e = .returned (.int .i64 2) ∧ Kept (fun _ => False) W w') := hideG (fun W => by
    have := Edits_any [97, 98] [98, 97] 9 W (by decide) (by decide)
    rw [edF_abba] at this
    exact this)
  by_cases ha : 300 < a.size
  · have i1 : (300 : Int) < (a.size : Int) := by omega
    clear h ha
    go_enter Try.func4, Try.ntmps4
    go_wp2_with (go_at_call 5; refine (CE.out _).mono ?_; rintro e W1 ⟨rfl, K1⟩)
    go_ret
    exact ⟨rfl, K1⟩
  · have i1 : ¬ (300 : Int) < (a.size : Int) := by omega
    by_cases hb : 300 < b.size
    · have i2 : (300 : Int) < (b.size : Int) := by omega
      clear h ha hb
      go_enter Try.func4, Try.ntmps4
      go_wp2_with (go_at_call 5; refine (CE.out _).mono ?_; rintro e W1 ⟨rfl, K1⟩)
      go_ret
      exact ⟨rfl, K1⟩
    · have i2 : ¬ (300 : Int) < (b.size : Int) := by omega
      by_cases hc : 300 < c.size
      · have i3 : (300 : Int) < (c.size : Int) := by omega
        clear h ha hb hc
        go_enter Try.func4, Try.ntmps4
        go_wp2_with (go_at_call 5; refine (CE.out _).mono ?_; rintro e W1 ⟨rfl, K1⟩)
        go_ret
        exact ⟨rfl, K1⟩
      · have i3 : ¬ (300 : Int) < (c.size : Int) := by omega
        have i4 : (300 : Int) < (x.size : Int) := by omega
        clear h ha hb hc
        go_enter Try.func4, Try.ntmps4
        go_wp2_with (go_at_call 5; refine (CE.out _).mono ?_; rintro e W1 ⟨rfl, K1⟩)
        go_ret
        exact ⟨rfl, K1⟩
set_option maxRecDepth 20000 in
set_option maxHeartbeats 4000000 in
theorem metric_near (a b c x : List UInt8) (w : World) (ha : a.length ≤ 300) (hb : b.length ≤ 300) (hc : c.length ≤ 300) (hx : x.length ≤ 300) : Calls Try.prog 4 #[.string (bq a), .string (bq b), .string (bq c), .string (bq x)] w fun e w' => e = .returned (.bool true) ∧ Kept (fun _ => False) w w' := by
  have CE0 : Hid (∀ W, Calls Try.prog 5 #[.string ⟨#[97, 98]⟩, .string ⟨#[98, 97]⟩, .int .i64 9] W fun e w' => e = .returned (.int .i64 2) ∧ Kept (fun _ => False) W w') := hideG (fun W => by
    have := Edits_any [97, 98] [98, 97] 9 W (by decide) (by decide)
    rw [edF_abba] at this
    exact this)
  have CE : Hid (∀ (u v : List UInt8) (m : Int) (z : Int) W, Hid (u.length ≤ 1000 ∧ v.length ≤ 1000 ∧ edF u v m = z) → Calls Try.prog 5 #[.string (bq u), .string (bq v), .int .i64 m] W fun e w' => e = .returned (.int .i64 z) ∧ Kept (fun _ => False) W w') := hideG (fun u v m z W h => by
    obtain ⟨h1, h2, h3⟩ := h.out
    have := Edits_any u v m W (by omega) (by omega)
    rw [h3] at this
    exact this)
  obtain ⟨d, hd⟩ : ∃ d, d = led2 a b := ⟨_, rfl⟩
  obtain ⟨p, hp⟩ : ∃ p, p = led2 b c := ⟨_, rfl⟩
  obtain ⟨q, hq⟩ : ∃ q, q = led2 a c := ⟨_, rfl⟩
  have E1 : Hid (a.length ≤ 1000 ∧ b.length ≤ 1000 ∧ edF a b 1099511627776 = (d : Int)) := hideG ⟨by omega, by omega, by rw [edF_all (by omega), hd]⟩
  have E2 : Hid (b.length ≤ 1000 ∧ a.length ≤ 1000 ∧ edF b a 1099511627776 = (d : Int)) := hideG ⟨by omega, by omega, by rw [edF_all (by omega), hd, led2_symm]⟩
  have E3 : Hid (b.length ≤ 1000 ∧ c.length ≤ 1000 ∧ edF b c 1099511627776 = (p : Int)) := hideG ⟨by omega, by omega, by rw [edF_all (by omega), hp]⟩
  have E4 : Hid (a.length ≤ 1000 ∧ c.length ≤ 1000 ∧ edF a c 1099511627776 = (q : Int)) := hideG ⟨by omega, by omega, by rw [edF_all (by omega), hq]⟩
  have E5 : Hid ((x ++ a).length ≤ 1000 ∧ (x ++ b).length ≤ 1000 ∧ edF (x ++ a) (x ++ b) 1099511627776 = (d : Int)) := hideG ⟨by rw [List.length_append]; omega, by rw [List.length_append]; omega, by rw [edF_all (by rw [List.length_append, List.length_append]; omega), hd, led2_head]⟩
  have E6 : Hid ((a ++ x).length ≤ 1000 ∧ (b ++ x).length ≤ 1000 ∧ edF (a ++ x) (b ++ x) 1099511627776 = (d : Int)) := hideG ⟨by rw [List.length_append]; omega, by rw [List.length_append]; omega, by rw [edF_all (by rw [List.length_append, List.length_append]; omega), hd, led2_last]⟩
  have E7 : Hid (∀ m : Int, a.length ≤ 1000 ∧ b.length ≤ 1000 ∧ edF a b m = if (if m < 0 then 0 else m) + 1 < (d : Int) then (if m < 0 then 0 else m) + 1 else (d : Int)) := hideG (fun m => ⟨by omega, by omega, by rw [hd]; exact edF_cut a b m⟩)
  have ht := led2_tri a b c
  have hlo := led2_low a b
  have hhi := led2_high a b
  have hz0 := led2_zero a b
  rw [← hd] at hlo hhi hz0 ht
  rw [← hp, ← hq] at ht
  have za : (bq a).size = a.length := bq_size a
  have zb : (bq b).size = b.length := bq_size b
  have zc : (bq c).size = c.length := bq_size c
  have zx : (bq x).size = x.length := bq_size x
  have hpb : p ≤ 300 := by rw [hp]; have := led2_high b c; omega
  have hqb : q ≤ 300 := by rw [hq]; have := led2_high a c; omega
  have hdb : d ≤ 300 := by omega
  obtain ⟨A1, B1, A2, B2, hA1, hB1, hA2, hB2⟩ : ∃ A1 B1 A2 B2, A1 = bq (x ++ a) ∧ B1 = bq (x ++ b) ∧ A2 = bq (a ++ x) ∧ B2 = bq (b ++ x) := ⟨_, _, _, _, rfl, rfl, rfl, rfl⟩
  have q1 : bq x ++ bq a = A1 := by rw [hA1]; exact bq_app _ _
  have q2 : bq x ++ bq b = B1 := by rw [hB1]; exact bq_app _ _
  have q3 : bq a ++ bq x = A2 := by rw [hA2]; exact bq_app _ _
  have q4 : bq b ++ bq x = B2 := by rw [hB2]; exact bq_app _ _
  have C1 : Hid (∀ W, Calls Try.prog 5 #[.string (bq a), .string (bq b), .int .i64 1099511627776] W fun e w' => e = .returned (.int .i64 (d : Int)) ∧ Kept (fun _ => False) W w') := hideG (fun W => CE.out _ _ _ _ W E1)
  have C2 : Hid (∀ W, Calls Try.prog 5 #[.string (bq b), .string (bq a), .int .i64 1099511627776] W fun e w' => e = .returned (.int .i64 (d : Int)) ∧ Kept (fun _ => False) W w') := hideG (fun W => CE.out _ _ _ _ W E2)
  have C3 : Hid (∀ W, Calls Try.prog 5 #[.string (bq b), .string (bq c), .int .i64 1099511627776] W fun e w' => e = .returned (.int .i64 (p : Int)) ∧ Kept (fun _ => False) W w') := hideG (fun W => CE.out _ _ _ _ W E3)
  have C4 : Hid (∀ W, Calls Try.prog 5 #[.string (bq a), .string (bq c), .int .i64 1099511627776] W fun e w' => e = .returned (.int .i64 (q : Int)) ∧ Kept (fun _ => False) W w') := hideG (fun W => CE.out _ _ _ _ W E4)
  have C5 : Hid (∀ W, Calls Try.prog 5 #[.string A1, .string B1, .int .i64 1099511627776] W fun e w' => e = .returned (.int .i64 (d : Int)) ∧ Kept (fun _ => False) W w') := hideG (fun W => by rw [hA1, hB1]; exact CE.out _ _ _ _ W E5)
  have C6 : Hid (∀ W, Calls Try.prog 5 #[.string A2, .string B2, .int .i64 1099511627776] W fun e w' => e = .returned (.int .i64 (d : Int)) ∧ Kept (fun _ => False) W w') := hideG (fun W => by rw [hA2, hB2]; exact CE.out _ _ _ _ W E6)
  have C7 : Hid (∀ (m : Int) W, Calls Try.prog 5 #[.string (bq a), .string (bq b), .int .i64 m] W fun e w' => e = .returned (.int .i64 (if (if m < 0 then 0 else m) + 1 < (d : Int) then (if m < 0 then 0 else m) + 1 else (d : Int))) ∧ Kept (fun _ => False) W w') := hideG (fun m W => CE.out _ _ _ _ W (hideG (E7.out m)))
  have i1 : ¬ (300 : Int) < ((bq a).size : Int) := by omega
  have i2 : ¬ (300 : Int) < ((bq b).size : Int) := by omega
  have i3 : ¬ (300 : Int) < ((bq c).size : Int) := by omega
  have i4 : ¬ (300 : Int) < ((bq x).size : Int) := by omega
  have sa : (bq a).size ≤ 300 := by omega
  have sb : (bq b).size ≤ 300 := by omega
  have sx : (bq x).size ≤ 300 := by omega
  have j1 : ¬ ((p : Int) + (d : Int) < (q : Int)) := by omega
  have j2 : ¬ ((d : Int) + (p : Int) < (q : Int)) := by omega
  have j3 : ¬ ((d : Int) < ((bq a).size : Int) - ((bq b).size : Int)) := by omega
  have j4 : ¬ ((d : Int) < ((bq b).size : Int) - ((bq a).size : Int)) := by omega
  have j5' : (d : Int) ≤ if (bq a).size < (bq b).size then ((bq b).size : Int) else ((bq a).size : Int) := by split <;> omega
  have he : ((d : Int) == 0) = ((bq a).toList == (bq b).toList) := by
    by_cases h : a = b
    · have : d = 0 := hz0.2 h
      rw [this, h]
      simp
    · have h1 : d ≠ 0 := fun e => h (hz0.1 e)
      have h2 : ((d : Int) == 0) = false := by simp; omega
      have h3 : ((bq a).toList == (bq b).toList) = false := by
        rw [beq_eq_false_iff_ne]
        intro e
        rw [bq_list, bq_list] at e
        exact h e
      rw [h2, h3]
  clear E1 E2 E3 E4 E5 E6 E7 CE hd hp hq ht hlo hhi hz0 za zb zc zx hA1 hB1 hA2 hB2 ha hb hc hx
  generalize bq a = sA at *
  generalize bq b = sB at *
  generalize bq c = sC at *
  generalize bq x = sX at *
  rcases Nat.lt_or_ge sA.size sB.size with hsz | hsz
  · have j5 : ¬ ((sB.size : Int) < (d : Int)) := by split at j5' <;> omega
    clear j5'
    go_enter Try.func4, Try.ntmps4
    go_wp2_with (first
      | (go_at_call 5; refine (CE0.out _).mono ?_; clear CE0; rintro e W0 ⟨rfl, K0⟩)
      | (go_at_call 5; refine (C1.out _).mono ?_; clear C1; rintro e W1 ⟨rfl, K1⟩)
      | (go_at_call 5; refine (C2.out _).mono ?_; clear C2; rintro e W2 ⟨rfl, K2⟩)
      | (go_at_call 5; refine (C3.out _).mono ?_; clear C3; rintro e W3 ⟨rfl, K3⟩)
      | (go_at_call 5; refine (C4.out _).mono ?_; clear C4; rintro e W4 ⟨rfl, K4⟩; have HK := hideG ((((K0.trans K1 (fun _ f => f.elim)).trans K2 (fun _ f => f.elim)).trans K3 (fun _ f => f.elim)).trans K4 (fun _ f => f.elim)))
      | (go_at_call 5; refine (C5.out _).mono ?_; clear C5; rintro e W5 ⟨rfl, K5⟩)
      | (go_at_call 5; refine (C6.out _).mono ?_; clear C6; rintro e W6 ⟨rfl, K6⟩; have HK6 := hideG ((HK.out.trans K5 (fun _ f => f.elim)).trans K6 (fun _ f => f.elim))))
    go_loopw [13] (fun v wr => ∃ m : Int, -1 ≤ m ∧ m ≤ 5 ∧ v = .int .i64 m ∧ Hid (Kept (fun _ => False) w wr)) (fun v _ => (5 - intOf v).toNat)
    case atStart => exact ⟨-1, by omega, by omega, rfl, HK6⟩
    case round =>
      obtain ⟨m, hm1, hm5, rfl, HKm⟩ := hrel
      by_cases hlt : m ≤ 4
      · obtain ⟨m0, hm0⟩ : ∃ m0 : Int, m0 = if m < 0 then 0 else m := ⟨_, rfl⟩
        have CZ := hideG (fun W => C7.out m W)
        rw [← hm0] at CZ
        obtain ⟨mm, hmm⟩ : ∃ mm : Int, mm = if m0 + 1 < (d : Int) then m0 + 1 else (d : Int) := ⟨_, rfl⟩
        rw [← hmm] at CZ
        have h0 : 0 ≤ m0 ∧ m0 ≤ 4 := by rw [hm0]; split <;> omega
        have u1 : m0 + 1 ≤ 5 := by omega
        have u2 : 0 ≤ m0 := by omega
        have HM0 := hideG hm0
        have HMM := hideG hmm
        clear hm0 hmm h0 C7
        go_wp2_with (first
          | (refine wpList_maxA rfl _ _ rfl m 0 m0 rfl rfl HM0.out ?_)
          | (refine wpList_minA rfl _ _ rfl (d : Int) (m0 + 1) mm rfl rfl HMM.out ?_)
          | (go_at_call 5; refine (CZ.out _).mono ?_; clear CZ; rintro e W7 ⟨rfl, K7⟩))
        go_roundw
        case rel => exact ⟨m + 1, by omega, by omega, by go_num, hideG (HKm.out.trans K7 (fun _ f => f.elim))⟩
        case measure => simp [intOf]; omega
      · clear C7
        go_wp2
        go_ret
        exact ⟨rfl, HKm.out⟩
  · have hsn : ¬ sA.size < sB.size := by omega
    have j5 : ¬ ((sA.size : Int) < (d : Int)) := by split at j5' <;> omega
    clear j5' hsz
    go_enter Try.func4, Try.ntmps4
    go_wp2_with (first
      | (go_at_call 5; refine (CE0.out _).mono ?_; clear CE0; rintro e W0 ⟨rfl, K0⟩)
      | (go_at_call 5; refine (C1.out _).mono ?_; clear C1; rintro e W1 ⟨rfl, K1⟩)
      | (go_at_call 5; refine (C2.out _).mono ?_; clear C2; rintro e W2 ⟨rfl, K2⟩)
      | (go_at_call 5; refine (C3.out _).mono ?_; clear C3; rintro e W3 ⟨rfl, K3⟩)
      | (go_at_call 5; refine (C4.out _).mono ?_; clear C4; rintro e W4 ⟨rfl, K4⟩; have HK := hideG ((((K0.trans K1 (fun _ f => f.elim)).trans K2 (fun _ f => f.elim)).trans K3 (fun _ f => f.elim)).trans K4 (fun _ f => f.elim)))
      | (go_at_call 5; refine (C5.out _).mono ?_; clear C5; rintro e W5 ⟨rfl, K5⟩)
      | (go_at_call 5; refine (C6.out _).mono ?_; clear C6; rintro e W6 ⟨rfl, K6⟩; have HK6 := hideG ((HK.out.trans K5 (fun _ f => f.elim)).trans K6 (fun _ f => f.elim))))
    go_loopw [13] (fun v wr => ∃ m : Int, -1 ≤ m ∧ m ≤ 5 ∧ v = .int .i64 m ∧ Hid (Kept (fun _ => False) w wr)) (fun v _ => (5 - intOf v).toNat)
    case atStart => exact ⟨-1, by omega, by omega, rfl, HK6⟩
    case round =>
      obtain ⟨m, hm1, hm5, rfl, HKm⟩ := hrel
      by_cases hlt : m ≤ 4
      · obtain ⟨m0, hm0⟩ : ∃ m0 : Int, m0 = if m < 0 then 0 else m := ⟨_, rfl⟩
        have CZ := hideG (fun W => C7.out m W)
        rw [← hm0] at CZ
        obtain ⟨mm, hmm⟩ : ∃ mm : Int, mm = if m0 + 1 < (d : Int) then m0 + 1 else (d : Int) := ⟨_, rfl⟩
        rw [← hmm] at CZ
        have h0 : 0 ≤ m0 ∧ m0 ≤ 4 := by rw [hm0]; split <;> omega
        have u1 : m0 + 1 ≤ 5 := by omega
        have u2 : 0 ≤ m0 := by omega
        have HM0 := hideG hm0
        have HMM := hideG hmm
        clear hm0 hmm h0 C7
        go_wp2_with (first
          | (refine wpList_maxA rfl _ _ rfl m 0 m0 rfl rfl HM0.out ?_)
          | (refine wpList_minA rfl _ _ rfl (d : Int) (m0 + 1) mm rfl rfl HMM.out ?_)
          | (go_at_call 5; refine (CZ.out _).mono ?_; clear CZ; rintro e W7 ⟨rfl, K7⟩))
        go_roundw
        case rel => exact ⟨m + 1, by omega, by omega, by go_num, hideG (HKm.out.trans K7 (fun _ f => f.elim))⟩
        case measure => simp [intOf]; omega
      · clear C7
        go_wp2
        go_ret
        exact ⟨rfl, HKm.out⟩
theorem metric_walk (A B C X : ByteArray) (w : World) : Calls Try.prog 4 #[.string A, .string B, .string C, .string X] w fun e w' => e = .returned (.bool true) ∧ Kept (fun _ => False) w w' := by
  by_cases h : 300 < A.size ∨ 300 < B.size ∨ 300 < C.size ∨ 300 < X.size
  · exact metric_far A B C X w h
  · have hl : ∀ s : ByteArray, s.data.toList.length = s.size := fun s => Array.length_toList
    have := metric_near A.data.toList B.data.toList C.data.toList X.data.toList w (by rw [hl]; omega) (by rw [hl]; omega) (by rw [hl]; omega) (by rw [hl]; omega)
    exact this
end Go.Proofs.Ytmddcjjmlfpffaa
