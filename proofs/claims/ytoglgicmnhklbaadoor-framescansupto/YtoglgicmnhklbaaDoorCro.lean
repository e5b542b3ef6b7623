import Derived.Test.YtoglgicmnhklbaaDoorCrs
namespace Go.Proofs.YtoglgicmnhklbaaDoor
open Go.ChangeShapes Go.WideShapes Go.ChangeAt Go.RowKit

theorem and15_u32 (a : Nat) (ha : a < 4294967296) : bits .and .u32 (a : Int) 15 = ((a % 16 : Nat) : Int) := by
  have := and_u32 a 15 ha (by decide)
  rw [show a &&& 15 = a % 16 from Nat.and_two_pow_sub_one_eq_mod a 4] at this
  exact this
/-- The table's rows, as they lie. -/
def TabAt (w : World) : Prop := (∀ k, k < 16 → w.cell? ⟨3, k, none⟩ = some (.int .u32 (cxn pS 4 k : Nat))) ∧ (∀ k, k < 16 → w.cell? ⟨3, 16 + k, none⟩ = some (.int .u32 (cxn pC 4 k : Nat)))
set_option maxHeartbeats 1000000 in
theorem over_S (r : Nat) (l : List Int) (a : Option Addr) (c : Nat) (w : World) (hr : r < 4294967296) (hB : BytesAt w a l) (hb : IsBytes l) (hl : l.length ≤ 281474976710656) (hT : TabAt w) :
    Calls Tryd.prog 40 #[.int .i64 0, .int .u32 r, .slice a l.length c] w fun e w' => e = .returned (.int .u32 (crun pS r l : Nat)) ∧ w' = w := by
  have HT := hideC hT.1
  have HB := hideC hB
  have Hb := hideC hb
  clear hT hB hb
  go_enter Tryd.func40, Tryd.ntmps40
  go_wp2
  go_loop [1, 11] (fun x i => ∃ k : Nat, k ≤ l.length ∧ i = .int .i64 k ∧ x = .int .u32 (crun pS r (l.take k) : Nat)) (fun _ i => l.length - (intOf i).toNat)
  case atStart => exact ⟨0, Nat.zero_le _, rfl, by rw [List.take_zero, crun_nil]⟩
  case round =>
    obtain ⟨k, hk, rfl, rfl⟩ := hrel
    have hx := crun_lt pS_lt (l.take k) (fun y hy => Hb.out y (List.mem_of_mem_take hy)) hr
    by_cases hlt : k < l.length
    · obtain ⟨b, off, rfl, hc⟩ := HB.out.get hlt
      obtain ⟨y, hy, hy1, hy2⟩ := Hb.out.at hlt
      rw [hy] at hc
      have hs : crun pS r (l.take (k + 1)) = cbyte pS (crun pS r (l.take k)) y := by
        rw [List.take_add_one, List.getElem?_eq_getElem hlt, Option.toList_some, crun_snoc, hy2, Int.toNat_natCast]
      rw [cbyte_nib] at hs
      obtain ⟨x, hX⟩ : ∃ x, x = crun pS r (l.take k) := ⟨_, rfl⟩
      rw [← hX] at hs hx ⊢
      simp only at hs
      obtain ⟨u, hU⟩ : ∃ u, u = x ^^^ y := ⟨_, rfl⟩
      have hu : u < 4294967296 := by rw [hU]; exact xor_lt32 hx (by omega)
      rw [← hU] at hs
      have e1 := xor_u32 x y hx (by omega)
      rw [← hU] at e1
      have e2 := and15_u32 u hu
      obtain ⟨i1, hi1⟩ : ∃ i, i = u % 16 := ⟨_, rfl⟩
      have hi1l : i1 < 16 := by omega
      have t1 := HT.out i1 hi1l
      have ht1 := cxn_lt (q := i1) pS_lt 4 (by omega)
      obtain ⟨v1, hv1⟩ : ∃ v, v = cxn pS 4 i1 := ⟨_, rfl⟩
      rw [← hi1] at hs e2
      rw [← hv1] at t1 hs ht1
      have e3 : bits .xor .u32 ((u : Int) / 16) (v1 : Int) = ((u / 16 ^^^ v1 : Nat) : Int) := xor_u32 (u / 16) v1 (by omega) ht1
      obtain ⟨u2, hU2⟩ : ∃ u2, u2 = u / 16 ^^^ v1 := ⟨_, rfl⟩
      have hu2 : u2 < 4294967296 := by rw [hU2]; exact xor_lt32 (by omega) ht1
      rw [← hU2] at e3 hs
      have e4 := and15_u32 u2 hu2
      obtain ⟨i2, hi2⟩ : ∃ i, i = u2 % 16 := ⟨_, rfl⟩
      have hi2l : i2 < 16 := by omega
      have t2 := HT.out i2 hi2l
      have ht2 := cxn_lt (q := i2) pS_lt 4 (by omega)
      obtain ⟨v2, hv2⟩ : ∃ v, v = cxn pS 4 i2 := ⟨_, rfl⟩
      rw [← hi2] at hs e4
      rw [← hv2] at t2 hs ht2
      have e5 : bits .xor .u32 ((u2 : Int) / 16) (v2 : Int) = ((u2 / 16 ^^^ v2 : Nat) : Int) := xor_u32 (u2 / 16) v2 (by omega) ht2
      have HS := hideC hs
      clear hs hX hU hi1 hv1 hU2 hi2 hv2 hy
      go_wp2
      go_round
      case rel => exact ⟨k + 1, by omega, by go_num, by rw [HS.out, ← e5]⟩
      case measure => simp [intOf]; omega
    · obtain rfl : k = l.length := by omega
      rw [List.take_length]
      clear hlt hk
      go_wp2
      go_ret
      exact ⟨rfl, rfl⟩
set_option maxHeartbeats 1000000 in
theorem over_C (r : Nat) (l : List Int) (a : Option Addr) (c : Nat) (w : World) (hr : r < 4294967296) (hB : BytesAt w a l) (hb : IsBytes l) (hl : l.length ≤ 281474976710656) (hT : TabAt w) :
    Calls Tryd.prog 40 #[.int .i64 1, .int .u32 r, .slice a l.length c] w fun e w' => e = .returned (.int .u32 (crun pC r l : Nat)) ∧ w' = w := by
  have HT := hideC hT.2
  have HB := hideC hB
  have Hb := hideC hb
  clear hT hB hb
  go_enter Tryd.func40, Tryd.ntmps40
  go_wp2
  go_loop [1, 11] (fun x i => ∃ k : Nat, k ≤ l.length ∧ i = .int .i64 k ∧ x = .int .u32 (crun pC r (l.take k) : Nat)) (fun _ i => l.length - (intOf i).toNat)
  case atStart => exact ⟨0, Nat.zero_le _, rfl, by rw [List.take_zero, crun_nil]⟩
  case round =>
    obtain ⟨k, hk, rfl, rfl⟩ := hrel
    have hx := crun_lt pC_lt (l.take k) (fun y hy => Hb.out y (List.mem_of_mem_take hy)) hr
    by_cases hlt : k < l.length
    · obtain ⟨b, off, rfl, hc⟩ := HB.out.get hlt
      obtain ⟨y, hy, hy1, hy2⟩ := Hb.out.at hlt
      rw [hy] at hc
      have hs : crun pC r (l.take (k + 1)) = cbyte pC (crun pC r (l.take k)) y := by
        rw [List.take_add_one, List.getElem?_eq_getElem hlt, Option.toList_some, crun_snoc, hy2, Int.toNat_natCast]
      rw [cbyte_nib] at hs
      obtain ⟨x, hX⟩ : ∃ x, x = crun pC r (l.take k) := ⟨_, rfl⟩
      rw [← hX] at hs hx ⊢
      simp only at hs
      obtain ⟨u, hU⟩ : ∃ u, u = x ^^^ y := ⟨_, rfl⟩
      have hu : u < 4294967296 := by rw [hU]; exact xor_lt32 hx (by omega)
      rw [← hU] at hs
      have e1 := xor_u32 x y hx (by omega)
      rw [← hU] at e1
      have e2 := and15_u32 u hu
      obtain ⟨i1, hi1⟩ : ∃ i, i = u % 16 := ⟨_, rfl⟩
      have hi1l : i1 < 16 := by omega
      have t1 := HT.out i1 hi1l
      have ht1 := cxn_lt (q := i1) pC_lt 4 (by omega)
      obtain ⟨v1, hv1⟩ : ∃ v, v = cxn pC 4 i1 := ⟨_, rfl⟩
      rw [← hi1] at hs e2
      rw [← hv1] at t1 hs ht1
      have e3 : bits .xor .u32 ((u : Int) / 16) (v1 : Int) = ((u / 16 ^^^ v1 : Nat) : Int) := xor_u32 (u / 16) v1 (by omega) ht1
      obtain ⟨u2, hU2⟩ : ∃ u2, u2 = u / 16 ^^^ v1 := ⟨_, rfl⟩
      have hu2 : u2 < 4294967296 := by rw [hU2]; exact xor_lt32 (by omega) ht1
      rw [← hU2] at e3 hs
      have e4 := and15_u32 u2 hu2
      obtain ⟨i2, hi2⟩ : ∃ i, i = u2 % 16 := ⟨_, rfl⟩
      have hi2l : i2 < 16 := by omega
      have t2 := HT.out i2 hi2l
      have ht2 := cxn_lt (q := i2) pC_lt 4 (by omega)
      obtain ⟨v2, hv2⟩ : ∃ v, v = cxn pC 4 i2 := ⟨_, rfl⟩
      rw [← hi2] at hs e4
      rw [← hv2] at t2 hs ht2
      have e5 : bits .xor .u32 ((u2 : Int) / 16) (v2 : Int) = ((u2 / 16 ^^^ v2 : Nat) : Int) := xor_u32 (u2 / 16) v2 (by omega) ht2
      have HS := hideC hs
      clear hs hX hU hi1 hv1 hU2 hi2 hv2 hy
      go_wp2
      go_round
      case rel => exact ⟨k + 1, by omega, by go_num, by rw [HS.out, ← e5]⟩
      case measure => simp [intOf]; omega
    · obtain rfl : k = l.length := by omega
      rw [List.take_length]
      clear hlt hk
      go_wp2
      go_ret
      exact ⟨rfl, rfl⟩
theorem sum_step (P reg c : Nat) (hP : P < 4294967296) (hr : reg < 4294967296) (hc : c < 256) (w : World) :
    Calls Tryd.prog 48 #[.int .u32 reg, .int .u8 c, .int .u32 P] w fun e w' => e = .returned (.int .u32 (cbyte P reg c : Nat)) ∧ w' = w := by
  have hx := xor_u32 reg c hr (by omega)
  have hs := xor_lt32 hr (show c < 4294967296 by omega)
  have hd : cbyte P reg c = cxn P 8 (reg ^^^ c) := by unfold cbyte; with_reducible rfl
  obtain ⟨s, hS⟩ : ∃ s, s = reg ^^^ c := ⟨_, rfl⟩
  rw [← hS] at hs hx hd
  have HD := hideC hd
  clear hS hd
  go_enter Tryd.func48, Tryd.ntmps48
  go_wp2
  go_loop [0, 7] (fun x i => ∃ k : Nat, k ≤ 8 ∧ i = .int .i64 k ∧ x = .int .u32 (cxn P k s : Nat)) (fun _ i => 8 - (intOf i).toNat)
  case atStart => exact ⟨0, Nat.zero_le _, rfl, rfl⟩
  case round =>
    obtain ⟨k, hk, rfl, rfl⟩ := hrel
    have hy := cxn_lt hP k hs
    have hst : cxn P (k + 1) s = cx P (cxn P k s) := by rw [cxn]
    by_cases hlt : k < 8
    · obtain ⟨x, hX⟩ : ∃ x, x = cxn P k s := ⟨_, rfl⟩
      rw [← hX] at hst hy ⊢
      have h1 := and1_u32 x hy
      have h2 : bits .xor .u32 ((x : Int) / 2) (P : Int) = ((x / 2 ^^^ P : Nat) : Int) := xor_u32 (x / 2) P (by omega) hP
      by_cases hb : x % 2 = 1
      · rw [cx, if_pos hb] at hst
        rw [hb] at h1
        have HS := hideC hst
        clear hst hX
        go_wp2
        go_round
        case rel => exact ⟨k + 1, by omega, by go_num, by rw [HS.out, ← h2]⟩
        case measure => simp [intOf]; omega
      · have hb0 : x % 2 = 0 := by omega
        rw [cx, if_neg hb] at hst
        rw [hb0] at h1
        have HS := hideC hst
        clear hst hX h2
        go_wp2
        go_round
        case rel => exact ⟨k + 1, by omega, by go_num, by rw [HS.out]; go_num⟩
        case measure => simp [intOf]; omega
    · obtain rfl : k = 8 := by omega
      rw [← HD.out]
      clear hlt hk hst hy
      go_wp2
      go_ret
      exact ⟨rfl, rfl⟩
theorem sum_run (P reg : Nat) (l : List Int) (a : Option Addr) (c : Nat) (w : World) (hP : P < 4294967296) (hr : reg < 4294967296) (hB : BytesAt w a l) (hb : IsBytes l) (hl : l.length ≤ 281474976710656) :
    Calls Tryd.prog 43 #[.int .u32 reg, .slice a l.length c, .int .u32 P] w fun e w' => e = .returned (.int .u32 (crun P reg l : Nat)) ∧ w' = w := by
  have HB := hideC hB
  have Hb := hideC hb
  clear hB hb
  go_enter Tryd.func43, Tryd.ntmps43
  go_wp2
  go_loop [0, 11] (fun x i => ∃ k : Nat, k ≤ l.length ∧ i = .int .i64 k ∧ x = .int .u32 (crun P reg (l.take k) : Nat)) (fun _ i => l.length - (intOf i).toNat)
  case atStart => exact ⟨0, Nat.zero_le _, rfl, by rw [List.take_zero, crun_nil]⟩
  case round =>
    obtain ⟨k, hk, rfl, rfl⟩ := hrel
    have hx := crun_lt hP (l.take k) (fun y hy => Hb.out y (List.mem_of_mem_take hy)) hr
    by_cases hlt : k < l.length
    · obtain ⟨b, off, rfl, hc⟩ := HB.out.get hlt
      obtain ⟨y, hy, hy1, hy2⟩ := Hb.out.at hlt
      rw [hy] at hc
      have hs : crun P reg (l.take (k + 1)) = cbyte P (crun P reg (l.take k)) y := by
        rw [List.take_add_one, List.getElem?_eq_getElem hlt, Option.toList_some, crun_snoc, hy2, Int.toNat_natCast]
      obtain ⟨x, hX⟩ : ∃ x, x = crun P reg (l.take k) := ⟨_, rfl⟩
      rw [← hX] at hs hx ⊢
      have st := sum_step P x y hP hx hy1
      rw [← hs] at st
      have ST := hideC st
      clear hs hX hy st
      go_wp2_with (go_at_call 48; refine (ST.out _).mono ?_; rintro e w2 ⟨rfl, rfl⟩)
      go_round
      case rel => exact ⟨k + 1, by omega, by go_num, rfl⟩
      case measure => simp [intOf]; omega
    · obtain rfl : k = l.length := by omega
      rw [List.take_length]
      clear hlt hk
      go_wp2
      go_ret
      exact ⟨rfl, rfl⟩
end Go.Proofs.YtoglgicmnhklbaaDoor
