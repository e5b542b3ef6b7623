import Derived.Test.YtmddcjjmlfpffaaFzr
namespace Go.Proofs.Ytmddcjjmlfpffaa
open Go.ChangeShapes Go.WideShapes Go.ChangeAt Go.RowKit

set_option maxRecDepth 20000 in
set_option maxHeartbeats 4000000 in
theorem rEdits_any (a b : List UInt8) (most : Int) (w : World) (ha : a.length ≤ 549755000000) (hb : b.length ≤ 549755000000) : Calls Try.prog 6 #[.string (bq a), .string (bq b), .int .i64 most] w fun e w' => e = .returned (.int .i64 (edF a b most)) ∧ Kept (fun _ => False) w w' := by
  obtain ⟨m0, hm0⟩ : ∃ m0 : Int, m0 = if most < 0 then 0 else most := ⟨_, rfl⟩
  have CR := hideG (redits_any a b w (by omega) (by omega))
  have hza : (bq a).size = a.length := bq_size a
  obtain ⟨n, hn⟩ : ∃ n, n = a.length := ⟨_, rfl⟩
  obtain ⟨d, hd⟩ : ∃ d, d = led2 a b := ⟨_, rfl⟩
  have hdb : d ≤ 549755000000 := by have := led2_high a b; omega
  have hm00 : 0 ≤ m0 := by rw [hm0]; split <;> omega
  have HL : Hid (∀ W la, NsAt W la (nz (rwV a b.reverse (a.length + 1))) → ∃ lb lo, la = some ⟨lb, lo, none⟩ ∧ W.cell? ⟨lb, lo + n, none⟩ = some (.int .i64 (d : Int))) := hideG (fun W la hN => by
    obtain ⟨lb, lo, h1, h2⟩ := hN (by intro e; have := congrArg List.length e; rw [rwV_len] at this; simp at this)
    refine ⟨lb, lo, h1, ?_⟩
    have h := h2 n (by rw [rwV_len]; omega)
    rw [rwV_at, hn, Vd_all] at h
    rw [hn, hd]
    exact h)
  obtain ⟨Z, hZ⟩ : ∃ Z, Z = edF a b most := ⟨_, rfl⟩
  have eZ : Z = if (d : Int) ≤ m0 then (d : Int) else m0 + 1 := by rw [hZ, hd, hm0]; rfl
  rw [← hZ]
  unfold StK at CR
  rw [rwV_len] at CR
  rw [← hn] at CR HL hza
  generalize nz (rwV a b.reverse (n + 1)) = L at *
  generalize bq a = sA at *
  generalize bq b = sB at *
  have HM := hideG hm0
  clear hm0 hZ hd
  have hnb : n ≤ 549755000000 := by omega
  clear ha hb hn
  have j1 : (n : Int) < (n : Int) + 1 := by omega
  rcases Int.lt_or_le m0 (d : Int) with hlt | hge
  · have hz : Z = m0 + 1 := by rw [eZ, if_neg (by omega)]
    subst hz
    have j2 : m0 + 1 ≤ 549755000001 := by omega
    clear eZ
    go_enter Try.func6, Try.ntmps6
    go_wp2_with (first
      | (refine wpList_maxA rfl _ _ rfl most 0 m0 rfl rfl HM.out ?_)
      | (go_at_call 11; refine CR.out.mono ?_; clear CR; rintro e W1 ⟨⟨la, lc, rfl, hN, hc⟩, K1⟩; obtain ⟨lb, lo, rfl, y0⟩ := HL.out W1 la hN; clear hN))
    go_ret
    exact ⟨rfl, K1⟩
  · have hz : Z = (d : Int) := by rw [eZ, if_pos hge]
    subst hz
    have j2 : ¬ (m0 < (d : Int)) := by omega
    clear eZ
    go_enter Try.func6, Try.ntmps6
    go_wp2_with (first
      | (refine wpList_maxA rfl _ _ rfl most 0 m0 rfl rfl HM.out ?_)
      | (go_at_call 11; refine CR.out.mono ?_; clear CR; rintro e W1 ⟨⟨la, lc, rfl, hN, hc⟩, K1⟩; obtain ⟨lb, lo, rfl, y0⟩ := HL.out W1 la hN; clear hN))
    go_ret
    exact ⟨rfl, K1⟩
theorem edF_kit : edF [107, 105, 116, 116, 101, 110] [115, 105, 116, 116, 105, 110, 103] 5 = 3 ∧ edF [107, 105, 116, 116, 101, 110] [115, 105, 116, 116, 105, 110, 103] 1 = 2 := by decide +kernel
set_option maxRecDepth 20000 in
set_option maxHeartbeats 4000000 in
theorem edits_walk (A B : ByteArray) (v : Int) (w : World) (hA : A.size ≤ 140737488351232) (hB : B.size ≤ 140737488351232) : Calls Try.prog 3 #[.string A, .string B, .int .i64 v] w fun e w' => e = .returned (.bool true) ∧ Kept (fun _ => False) w w' := by
  have CK : Hid (∀ W, Calls Try.prog 5 #[.string ⟨#[107, 105, 116, 116, 101, 110]⟩, .string ⟨#[115, 105, 116, 116, 105, 110, 103]⟩, .int .i64 5] W fun e w' => e = .returned (.int .i64 3) ∧ Kept (fun _ => False) W w') := hideG (fun W => by
    have := Edits_any [107, 105, 116, 116, 101, 110] [115, 105, 116, 116, 105, 110, 103] 5 W (by decide) (by decide)
    rw [edF_kit.1] at this
    exact this)
  have CK2 : Hid (∀ W, Calls Try.prog 5 #[.string ⟨#[107, 105, 116, 116, 101, 110]⟩, .string ⟨#[115, 105, 116, 116, 105, 110, 103]⟩, .int .i64 1] W fun e w' => e = .returned (.int .i64 2) ∧ Kept (fun _ => False) W w') := hideG (fun W => by
    have := Edits_any [107, 105, 116, 116, 101, 110] [115, 105, 116, 116, 105, 110, 103] 1 W (by decide) (by decide)
    rw [edF_kit.2] at this
    exact this)
  obtain ⟨n, hn⟩ : ∃ n, A.size = n := ⟨_, rfl⟩
  obtain ⟨m, hm⟩ : ∃ m, B.size = m := ⟨_, rfl⟩
  obtain ⟨q, hq⟩ : ∃ q : Int, (1048576 : Int) / ((m : Int) + 1) = q := ⟨_, rfl⟩
  have hqd : q = ((1048576 / (m + 1) : Nat) : Int) := by
    rw [← hq]
    have e : ((m : Int) + 1) = ((m + 1 : Nat) : Int) := by omega
    rw [e]
    rfl
  have hnb : n ≤ 140737488351232 := by omega
  have hmb : m ≤ 140737488351232 := by omega
  have hq0 : 0 ≤ q := by rw [hqd]; exact Int.natCast_nonneg _
  have hq1 : q ≤ 1048576 := by rw [hqd]; have := Nat.div_le_self 1048576 (m + 1); omega
  clear hA hB
  have d0 : ¬ ((m : Int) + 1 = 0) := by omega
  have d1 : ((m : Int) + 1 == 0) = false := by simp; omega
  by_cases hbig : q < (n : Int) + 1
  · clear hqd
    go_enter Try.func3, Try.ntmps3
    go_wp2_with (first
      | (go_at_call 5; refine (CK.out _).mono ?_; clear CK; rintro e W1 ⟨rfl, K1⟩)
      | (go_at_call 5; refine (CK2.out _).mono ?_; clear CK2; rintro e W2 ⟨rfl, K2⟩))
    go_ret
    exact ⟨rfl, K1.trans K2 (fun _ f => f.elim)⟩
  · have hl : ∀ s : ByteArray, s.data.toList.length = s.size := fun s => Array.length_toList
    have hdv := Nat.div_mul_le_self 1048576 (m + 1)
    have hqn : n + 1 ≤ 1048576 / (m + 1) := by omega
    have hprod : (n + 1) * (m + 1) ≤ 1048576 := Nat.le_trans (Nat.mul_le_mul_right _ hqn) hdv
    have hn1 : n ≤ 1048576 := by
      have : (n + 1) * 1 ≤ (n + 1) * (m + 1) := Nat.mul_le_mul_left _ (by omega)
      omega
    have hm1 : m ≤ 1048576 := by
      have : 1 * (m + 1) ≤ (n + 1) * (m + 1) := Nat.mul_le_mul_right _ (by omega)
      omega
    have C1 : Hid (∀ W, Calls Try.prog 5 #[.string A, .string B, .int .i64 v] W fun e w' => e = .returned (.int .i64 (edF A.data.toList B.data.toList v)) ∧ Kept (fun _ => False) W w') := hideG (fun W => Edits_any A.data.toList B.data.toList v W (by rw [hl]; omega) (by rw [hl]; omega))
    have C2 : Hid (∀ W, Calls Try.prog 6 #[.string A, .string B, .int .i64 v] W fun e w' => e = .returned (.int .i64 (edF A.data.toList B.data.toList v)) ∧ Kept (fun _ => False) W w') := hideG (fun W => rEdits_any A.data.toList B.data.toList v W (by rw [hl]; omega) (by rw [hl]; omega))
    generalize edF A.data.toList B.data.toList v = z at *
    have nb : ¬ (q < (n : Int) + 1) := hbig
    clear hl hdv hqn hprod hqd
    go_enter Try.func3, Try.ntmps3
    go_wp2_with (first
      | (go_at_call 5; refine (CK.out _).mono ?_; clear CK; rintro e W1 ⟨rfl, K1⟩)
      | (go_at_call 5; refine (CK2.out _).mono ?_; clear CK2; rintro e W2 ⟨rfl, K2⟩)
      | (go_at_call 5; refine (C1.out _).mono ?_; clear C1; rintro e W3 ⟨rfl, K3⟩)
      | (go_at_call 6; refine (C2.out _).mono ?_; clear C2; rintro e W4 ⟨rfl, K4⟩))
    go_ret
    exact ⟨rfl, ((K1.trans K2 (fun _ f => f.elim)).trans K3 (fun _ f => f.elim)).trans K4 (fun _ f => f.elim)⟩
end Go.Proofs.Ytmddcjjmlfpffaa
