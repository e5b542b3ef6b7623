import Derived.Test.YtoglgicmnhklbaaDoorCro
namespace Go.Proofs.YtoglgicmnhklbaaDoor
open Go.ChangeShapes Go.WideShapes Go.ChangeAt Go.RowKit

/-- All bits turned. -/
def neg32 (x : Nat) : Nat := 4294967295 - x
theorem neg32_lt (x : Nat) : neg32 x < 4294967296 := by unfold neg32; omega
theorem neg32_xor {x : Nat} (hx : x < 4294967296) : neg32 x = 4294967295 ^^^ x := by
  unfold neg32
  apply Nat.eq_of_testBit_eq
  intro i
  rw [Nat.testBit_xor, show (4294967295 : Nat) = 2 ^ 32 - 1 from rfl, Nat.testBit_two_pow_sub_one, show 2 ^ 32 - 1 - x = 2 ^ 32 - (x + 1) by omega, Nat.testBit_two_pow_sub_succ hx]
  by_cases hi : i < 32
  · simp [hi]
  · have : x.testBit i = false := Nat.testBit_lt_two_pow (Nat.lt_of_lt_of_le (n := x) (m := 2 ^ 32) hx (Nat.pow_le_pow_right (by decide) (by omega)))
    simp [hi, this]
theorem neg_u32 (x : Nat) (hx : x < 4294967296) : bits .xor .u32 (if IntKind.u32.signed = true then -1 else IntKind.u32.max) (x : Int) = ((neg32 x : Nat) : Int) := by
  have e : (if IntKind.u32.signed = true then (-1 : Int) else IntKind.u32.max) = ((4294967295 : Nat) : Int) := by decide
  rw [e, xor_u32 _ _ (by decide) hx, neg32_xor hx]
def ext (s : Nat) (l : List Int) : Nat := neg32 (crun pS (neg32 s) l)
def sealed (l : List Int) : Nat := neg32 (crun pC 4294967295 l)
theorem ext_lt (s : Nat) (l : List Int) : ext s l < 4294967296 := neg32_lt _
theorem sealed_lt (l : List Int) : sealed l < 4294967296 := neg32_lt _
theorem extend_any (s : Nat) (l : List Int) (a : Option Addr) (c : Nat) (w : World) (hs : s < 4294967296) (hB : BytesAt w a l) (hb : IsBytes l) (hl : l.length ≤ 281474976710656) (hT : TabAt w) :
    Calls Tryd.prog 33 #[.int .u32 s, .slice a l.length c] w fun e w' => e = .returned (.int .u32 (ext s l : Nat)) ∧ w' = w := by
  have ov := over_S (neg32 s) l a c w (neg32_lt _) hB hb hl hT
  have hx := crun_lt pS_lt l hb (neg32_lt s)
  have he : ext s l = neg32 (crun pS (neg32 s) l) := rfl
  obtain ⟨x, hX⟩ : ∃ x, x = crun pS (neg32 s) l := ⟨_, rfl⟩
  rw [← hX] at ov hx he
  rw [he, ← neg_u32 x hx]
  rw [← neg_u32 s hs] at ov
  clear hX hB hb hT he
  go_enter Tryd.func33, Tryd.ntmps33
  go_wp2_with (go_at_call 40; refine ov.mono ?_; rintro e w2 ⟨rfl, rfl⟩)
  go_ret
  exact ⟨rfl, rfl⟩
theorem sum_any (l : List Int) (a : Option Addr) (c : Nat) (w : World) (hB : BytesAt w a l) (hb : IsBytes l) (hl : l.length ≤ 281474976710656) (hT : TabAt w) :
    Calls Tryd.prog 18 #[.slice a l.length c] w fun e w' => e = .returned (.int .u32 (ext 0 l : Nat)) ∧ w' = w := by
  have ov := extend_any 0 l a c w (by decide) hB hb hl hT
  obtain ⟨x, hX⟩ : ∃ x, x = ext 0 l := ⟨_, rfl⟩
  rw [← hX] at ov ⊢
  clear hX hB hb hT
  go_enter Tryd.func18, Tryd.ntmps18
  go_wp2_with (go_at_call 33; refine ov.mono ?_; rintro e w2 ⟨rfl, rfl⟩)
  go_ret
  exact ⟨rfl, rfl⟩
theorem rextend_any (s : Nat) (l : List Int) (a : Option Addr) (c : Nat) (w : World) (hs : s < 4294967296) (hB : BytesAt w a l) (hb : IsBytes l) (hl : l.length ≤ 281474976710656) :
    Calls Tryd.prog 39 #[.int .u32 s, .slice a l.length c] w fun e w' => e = .returned (.int .u32 (ext s l : Nat)) ∧ w' = w := by
  have ov := sum_run pS (neg32 s) l a c w pS_lt (neg32_lt _) hB hb hl
  have hx := crun_lt pS_lt l hb (neg32_lt s)
  have he : ext s l = neg32 (crun pS (neg32 s) l) := rfl
  obtain ⟨x, hX⟩ : ∃ x, x = crun pS (neg32 s) l := ⟨_, rfl⟩
  rw [← hX] at ov hx he
  rw [he, ← neg_u32 x hx]
  rw [← neg_u32 s hs] at ov
  have e0 : ((pS : Nat) : Int) = 3988292384 := rfl
  rw [e0] at ov
  clear hX hB hb he
  go_enter Tryd.func39, Tryd.ntmps39
  go_wp2_with (go_at_call 43; refine ov.mono ?_; rintro e w2 ⟨rfl, rfl⟩)
  go_ret
  exact ⟨rfl, rfl⟩
theorem rsum_any (l : List Int) (a : Option Addr) (c : Nat) (w : World) (hB : BytesAt w a l) (hb : IsBytes l) (hl : l.length ≤ 281474976710656) :
    Calls Tryd.prog 31 #[.slice a l.length c] w fun e w' => e = .returned (.int .u32 (ext 0 l : Nat)) ∧ w' = w := by
  have ov := rextend_any 0 l a c w (by decide) hB hb hl
  obtain ⟨x, hX⟩ : ∃ x, x = ext 0 l := ⟨_, rfl⟩
  rw [← hX] at ov ⊢
  clear hX hB hb
  go_enter Tryd.func31, Tryd.ntmps31
  go_wp2_with (go_at_call 39; refine ov.mono ?_; rintro e w2 ⟨rfl, rfl⟩)
  go_ret
  exact ⟨rfl, rfl⟩
end Go.Proofs.YtoglgicmnhklbaaDoor
