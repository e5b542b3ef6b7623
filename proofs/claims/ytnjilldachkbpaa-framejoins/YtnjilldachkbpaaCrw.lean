import Derived.Test.YtnjilldachkbpaaBase
import Derived.Test.YtnjilldachkbpaaCrp
namespace Go.Proofs.Ytnjilldachkbpaa
open Go.ChangeShapes Go.WideShapes Go.ChangeAt Go.RowKit


theorem hideC {p : Prop} (h : p) : Hid p := h
def pS : Nat := 3988292384
theorem pS_lt : pS < 4294967296 := by decide
theorem timesX_any (q : Nat) (hq : q < 4294967296) (w : World) :
    Calls Try.prog 10 #[.int .u32 q] w fun e w' => e = .returned (.int .u32 (cx pS q : Nat)) ∧ w' = w := by
  have h1 := and1_u32 q hq
  have h2 := xor_u32 (q / 2) 3988292384 (by omega) (by decide)
  by_cases hb : q % 2 = 1
  · have hc : cx pS q = q / 2 ^^^ 3988292384 := by simp [cx, pS, hb]
    rw [hb] at h1
    rw [hc, ← h2]
    clear hc h2
    go_enter Try.func10, Try.ntmps10
    go_wp2
    go_ret
    exact ⟨rfl, rfl⟩
  · have hc : cx pS q = q / 2 := by simp [cx, hb]
    have h0 : q % 2 = 0 := by omega
    rw [h0] at h1
    rw [hc]
    clear hc h2
    go_enter Try.func10, Try.ntmps10
    go_wp2
    go_ret
    exact ⟨rfl, rfl⟩
theorem half_pow (k : Nat) (hk : k ≤ 31) : 2147483648 / 2 ^ k = 2 ^ (31 - k) := by
  have e : (2147483648 : Nat) = 2 ^ (31 - k) * 2 ^ k := by
    rw [← Nat.pow_add, show 31 - k + k = 31 by omega]
  rw [e, Nat.mul_div_cancel _ (Nat.two_pow_pos k)]
set_option maxHeartbeats 1000000 in
theorem times_any (p q : Nat) (hp : p < 4294967296) (hq : q < 4294967296) (w : World) :
    Calls Try.prog 6 #[.int .u32 p, .int .u32 q] w fun e w' => e = .returned (.int .u32 (ctm pS p q 32 : Nat)) ∧ w' = w := by
  go_enter Try.func6, Try.ntmps6
  go_wp2
  go_loop [1, 5, 6] (fun y z b => ∃ k : Nat, k ≤ 32 ∧ y = .int .u32 (cxn pS k q : Nat) ∧ z = .int .u32 (ctm pS p q k : Nat) ∧ b = .int .u32 (2147483648 / 2 ^ k : Nat)) (fun _ _ b => (intOf b).toNat)
  case atStart => exact ⟨0, by omega, rfl, rfl, rfl⟩
  case round =>
    obtain ⟨k, hk, rfl, rfl, rfl⟩ := hrel
    have hy := cxn_lt pS_lt k hq
    have hz := ctm_lt (p := p) pS_lt hq k
    have hcx : cxn pS (k + 1) q = cx pS (cxn pS k q) := rfl
    obtain ⟨y, hY⟩ : ∃ y, y = cxn pS k q := ⟨_, rfl⟩
    obtain ⟨z, hZ⟩ : ∃ z, z = ctm pS p q k := ⟨_, rfl⟩
    obtain ⟨t, hT⟩ : ∃ t, t = 2147483648 / 2 ^ k := ⟨_, rfl⟩
    have ht2 : 2147483648 / 2 ^ (k + 1) = t / 2 := by rw [hT, Nat.pow_succ, Nat.div_div_eq_div_mul]
    by_cases h32 : k = 32
    · subst h32
      have e0 : t = 0 := by rw [hT]
      rw [← hZ, ← hY, ← hT]
      have HZ := hideC hZ
      clear hY hZ hT hcx ht2
      subst e0
      go_wp2
      go_ret
      rw [← HZ.out]
      exact ⟨rfl, rfl⟩
    · have hk31 : k ≤ 31 := by omega
      have e1 : t = 2 ^ (31 - k) := by rw [hT, half_pow k hk31]
      have ht0 : 0 < t := by rw [e1]; exact Nat.two_pow_pos _
      have ht1 : t < 4294967296 := by rw [hT]; exact Nat.lt_of_le_of_lt (Nat.div_le_self _ _) (by decide)
      have hb := bit_and p k hk31
      rw [← e1] at hb
      have hs : ctm pS p q (k + 1) = z ^^^ (if p.testBit (31 - k) = true then y else 0) := by rw [ctm, ← hZ, ← hY]
      rw [← hZ, ← hY, ← hT]
      rw [← hY] at hy hcx
      rw [← hZ] at hz
      have ha := and_u32 p t hp ht1
      have hx := xor_u32 z y hz hy
      obtain ⟨m, hm⟩ : ∃ m, m = p &&& t := ⟨_, rfl⟩
      rw [← hm] at hb ha
      have hm4 : m ≤ t := by rw [hm]; exact Nat.and_le_right
      have HC := hideC hcx
      have HT2 := hideC ht2
      clear hY hZ hT hcx ht2 hm
      have tx := timesX_any y hy
      by_cases hbit : p.testBit (31 - k) = true
      · have hm0 : m ≠ 0 := hb.2 hbit
        rw [if_pos hbit] at hs
        have HS := hideC hs
        clear hs hb e1 hbit
        go_wp2_with (go_at_call 10; refine (tx _).mono ?_; rintro e w2 ⟨rfl, rfl⟩)
        go_round
        case rel => exact ⟨k + 1, by omega, by rw [HC.out], by rw [HS.out, ← hx], by rw [HT2.out]; go_num⟩
        case measure => simp [intOf]; omega
      · have hm0 : m = 0 := by
          by_cases h : m = 0
          · exact h
          · exact absurd (hb.1 h) hbit
        rw [if_neg hbit, Nat.xor_zero] at hs
        have HS := hideC hs
        clear hs hb e1 hbit hx
        subst hm0
        go_wp2_with (go_at_call 10; refine (tx _).mono ?_; rintro e w2 ⟨rfl, rfl⟩)
        go_round
        case rel => exact ⟨k + 1, by omega, by rw [HC.out], by rw [HS.out], by rw [HT2.out]; go_num⟩
        case measure => simp [intOf]; omega
theorem ofInt_nat64 (x : Nat) (hx : x < 18446744073709551616) : (BitVec.ofInt 64 (x : Int)).toNat = x := by
  rw [BitVec.ofInt_natCast, BitVec.toNat_ofNat]; exact Nat.mod_eq_of_lt hx
theorem and1_i64 (a : Nat) (ha : a < 9223372036854775808) : bits .and .i64 (a : Int) 1 = ((a % 2 : Nat) : Int) := by
  show IntKind.i64.wrap ((BitVec.ofInt 64 (a : Int) &&& BitVec.ofInt 64 ((1 : Nat) : Int)).toNat : Int) = _
  rw [BitVec.toNat_and, ofInt_nat64 a (by omega), ofInt_nat64 1 (by decide), IntKind.wrap_i64, Nat.and_one_is_mod]
  omega
/-- The register behind n bytes that are 0. -/
def zeros (a n : Nat) : Nat := cxn pS (8 * n) a
theorem zeros_lt {a n : Nat} (h : a < 4294967296) : zeros a n < 4294967296 := cxn_lt pS_lt _ h
theorem zeros_add (a n m : Nat) : zeros (zeros a n) m = zeros a (n + m) := by
  unfold zeros
  rw [← cxn_add]
  congr 1
  omega
set_option maxHeartbeats 1000000 in
theorem join_pos (a b N : Nat) (ha : a < 4294967296) (hb : b < 4294967296) (hN : N < 9223372036854775808) (w : World) :
    Calls Try.prog 4 #[.int .u32 a, .int .u32 b, .int .i64 N] w fun e w' => e = .returned (.int .u32 (zeros a N ^^^ b : Nat)) ∧ w' = w := by
  go_enter Try.func4, Try.ntmps4
  go_wp2
  go_loop [0, 7, 8] (fun x y l => ∃ j : Nat, x = .int .u32 (zeros a (N % 2 ^ j) : Nat) ∧ y = .int .u32 (zeros 2147483648 (2 ^ j) : Nat) ∧ l = .int .i64 (N / 2 ^ j : Nat)) (fun _ _ l => (intOf l).toNat)
  case atStart =>
    refine ⟨0, ?_, ?_, ?_⟩
    · rw [Nat.pow_zero, Nat.mod_one]; rfl
    · rfl
    · rw [Nat.pow_zero, Nat.div_one]
  case round =>
    obtain ⟨j, rfl, rfl, rfl⟩ := hrel
    have hx := zeros_lt (n := N % 2 ^ j) ha
    have hy := zeros_lt (a := 2147483648) (n := 2 ^ j) (by decide)
    have hy2 : ctm pS (zeros 2147483648 (2 ^ j)) (zeros 2147483648 (2 ^ j)) 32 = zeros 2147483648 (2 ^ (j + 1)) := by
      show ctm pS _ (cxn pS (8 * 2 ^ j) 2147483648) 32 = _
      rw [ctm_power _ _ _ hy]
      show zeros (zeros 2147483648 (2 ^ j)) (2 ^ j) = _
      rw [zeros_add, ← Nat.two_mul, Nat.pow_succ']
    have hx2 : ctm pS (zeros a (N % 2 ^ j)) (zeros 2147483648 (2 ^ j)) 32 = zeros a (N % 2 ^ j + 2 ^ j) := by
      show ctm pS _ (cxn pS (8 * 2 ^ j) 2147483648) 32 = _
      rw [ctm_power _ _ _ hx]
      exact zeros_add a _ _
    have hl2 : N / 2 ^ (j + 1) = N / 2 ^ j / 2 := by rw [Nat.pow_succ, Nat.div_div_eq_div_mul]
    have hm2 : N % 2 ^ (j + 1) = N % 2 ^ j + 2 ^ j * (N / 2 ^ j % 2) := by rw [Nat.pow_succ, Nat.mod_mul]
    have hl : N / 2 ^ j < 9223372036854775808 := Nat.lt_of_le_of_lt (Nat.div_le_self _ _) hN
    have hdone : N / 2 ^ j = 0 → N % 2 ^ j = N := by
      intro h
      have := Nat.div_add_mod N (2 ^ j)
      rw [h, Nat.mul_zero, Nat.zero_add] at this
      exact this
    obtain ⟨x, hX⟩ : ∃ x, x = zeros a (N % 2 ^ j) := ⟨_, rfl⟩
    obtain ⟨y, hY⟩ : ∃ y, y = zeros 2147483648 (2 ^ j) := ⟨_, rfl⟩
    obtain ⟨l, hL⟩ : ∃ l, l = N / 2 ^ j := ⟨_, rfl⟩
    rw [← hX, ← hY, ← hL]
    rw [← hX, ← hY] at hx2
    rw [← hY] at hy2 hy
    rw [← hX] at hx
    rw [← hL] at hl2 hm2 hl hdone
    have h1 := and1_i64 l hl
    have HL2 := hideC hl2
    have HM2 := hideC hm2
    by_cases hl0 : l = 0
    · subst hl0
      have e : x = zeros a N := by rw [hX, hdone rfl]
      have hxor := xor_u32 x b hx hb
      have HE := hideC e
      clear hX hY hL hdone HL2 HM2 hl2 hm2 hx2 hy2 h1 e
      have z0 : ((0 : Nat) : Int) = 0 := rfl
      rw [z0]
      go_wp2
      go_ret
      exact ⟨by rw [← HE.out, ← hxor]; rfl, rfl⟩
    · by_cases hodd : l % 2 = 1
      · rw [hodd] at h1
        have e : N % 2 ^ j + 2 ^ j = N % 2 ^ (j + 1) := by rw [hm2, hodd, Nat.mul_one]
        rw [e] at hx2
        have TX := hideC hx2
        have TY := hideC hy2
        clear hX hY hL hdone hl2 hm2 hx2 hy2 e HM2
        go_wp2_with (go_at_call 6; refine (times_any _ _ (by assumption) (by assumption) _).mono ?_; rintro e w2 ⟨rfl, rfl⟩)
        go_round
        case rel => exact ⟨j + 1, by rw [TX.out], by rw [TY.out], by rw [HL2.out]; go_num⟩
        case measure => simp [intOf]; omega
      · have h20 : l % 2 = 0 := by omega
        rw [h20] at h1
        have e : N % 2 ^ (j + 1) = N % 2 ^ j := by rw [hm2, h20, Nat.mul_zero, Nat.add_zero]
        rw [← e] at hX
        have HX := hideC hX
        have TY := hideC hy2
        clear hX hY hL hdone hl2 hm2 hx2 hy2 e HM2
        go_wp2_with (go_at_call 6; refine (times_any _ _ (by assumption) (by assumption) _).mono ?_; rintro e w2 ⟨rfl, rfl⟩)
        go_round
        case rel => exact ⟨j + 1, by rw [HX.out], by rw [TY.out], by rw [HL2.out]; go_num⟩
        case measure => simp [intOf]; omega
theorem join_neg (a b : Nat) (n : Int) (ha : a < 4294967296) (hb : b < 4294967296) (hn : n < 0) (w : World) :
    Calls Try.prog 4 #[.int .u32 a, .int .u32 b, .int .i64 n] w fun e w' => e = .returned (.int .u32 (a ^^^ b : Nat)) ∧ w' = w := by
  have hxor := xor_u32 a b ha hb
  go_enter Try.func4, Try.ntmps4
  go_wp2
  go_loop [0, 8] (fun x l => x = .int .u32 a ∧ l = .int .i64 0) (fun _ _ => 0)
  case atStart => exact ⟨rfl, rfl⟩
  case round =>
    obtain ⟨rfl, rfl⟩ := hrel
    go_wp2
    go_ret
    exact ⟨by rw [← hxor]; rfl, rfl⟩
/-- What Join answers. -/
def joined (a b : Nat) (n : Int) : Nat := zeros a n.toNat ^^^ b
theorem joined_lt {a b : Nat} {n : Int} (ha : a < 4294967296) (hb : b < 4294967296) : joined a b n < 4294967296 := xor_lt32 (zeros_lt ha) hb
theorem join_any (a b : Nat) (n : Int) (ha : a < 4294967296) (hb : b < 4294967296) (hn : n ≤ 9223372036854775807) (w : World) :
    Calls Try.prog 4 #[.int .u32 a, .int .u32 b, .int .i64 n] w fun e w' => e = .returned (.int .u32 (joined a b n : Nat)) ∧ w' = w := by
  by_cases h : n < 0
  · have e : joined a b n = a ^^^ b := by
      unfold joined
      rw [show n.toNat = 0 by omega]
      rfl
    rw [e]
    exact join_neg a b n ha hb h w
  · obtain ⟨N, rfl⟩ : ∃ N : Nat, n = N := ⟨n.toNat, by omega⟩
    exact join_pos a b N ha hb (by omega) w
end Go.Proofs.Ytnjilldachkbpaa
