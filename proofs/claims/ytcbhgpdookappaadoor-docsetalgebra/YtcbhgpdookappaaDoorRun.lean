import Derived.Test.YtcbhgpdookappaaDoorPack
namespace Go.Proofs.YtcbhgpdookappaaDoor
open Go.RowKit

theorem pow8 (m : Nat) : 256 ^ m = 2 ^ (8 * m) := by
  rw [show (256 : Nat) = 2 ^ 8 by decide, ← Nat.pow_mul]
/-- What has been put of a run of bits: T bits of the value V; the whole bytes among them, and what waits. -/
structure RS (V T last used : Nat) (pre : List Int) : Prop where
  lt : V < 2 ^ T
  us : used = T % 8
  la : last = V / 2 ^ (8 * (T / 8))
  pr : pre = le (T / 8) V
theorem RS.last_lt {V T last used : Nat} {pre : List Int} (h : RS V T last used pre) : last < 2 ^ used := by
  rw [h.la, h.us]
  apply Nat.div_lt_of_lt_mul
  rw [← Nat.pow_add]
  have : 8 * (T / 8) + T % 8 = T := Nat.div_add_mod T 8
  rw [this]
  exact h.lt
theorem RS.used_lt {V T last used : Nat} {pre : List Int} (h : RS V T last used pre) : used < 8 := by rw [h.us]; omega
theorem RS.start : RS 0 0 0 0 [] := ⟨by decide, rfl, by simp, rfl⟩

/-- The byte that a piece makes. -/
theorem run_byte {last used v left : Nat} (hl : last < 2 ^ used) (hu : used < 8) (hv : v < 2 ^ left) :
    last ||| (v * 2 ^ used % 256) = last + (v % 2 ^ min left (8 - used)) * 2 ^ used ∧ v % 2 ^ min left (8 - used) < 2 ^ min left (8 - used) := by
  refine ⟨?_, Nat.mod_lt _ (Nat.two_pow_pos _)⟩
  have e1 : (256 : Nat) = 2 ^ (8 - used) * 2 ^ used := by rw [← Nat.pow_add, show 8 - used + used = 8 by omega]
  have e2 : v * 2 ^ used % 256 = v % 2 ^ (8 - used) * 2 ^ used := by rw [e1, Nat.mul_mod_mul_right]
  have e3 : v % 2 ^ (8 - used) = v % 2 ^ min left (8 - used) := by
    by_cases h : left ≤ 8 - used
    · rw [Nat.min_eq_left h, Nat.mod_eq_of_lt hv, Nat.mod_eq_of_lt (Nat.lt_of_lt_of_le hv (Nat.pow_le_pow_right (by decide) h))]
    · rw [Nat.min_eq_right (by omega)]
  rw [e2, e3, or_above _ _ _ hl]
theorem RS.value {V T last used d : Nat} {pre : List Int} (h : RS V T last used pre) : (V + d * 2 ^ T) / 2 ^ (8 * (T / 8)) = last + d * 2 ^ used := by
  have e : 2 ^ T = 2 ^ (8 * (T / 8)) * 2 ^ used := by rw [← Nat.pow_add, h.us, Nat.div_add_mod]
  rw [e, ← Nat.mul_assoc, Nat.mul_comm d, Nat.mul_assoc, Nat.add_mul_div_left _ _ (Nat.two_pow_pos _), ← h.la]
theorem RS.low {V T last used d : Nat} {pre : List Int} (h : RS V T last used pre) : le (T / 8) (V + d * 2 ^ T) = pre := by
  rw [h.pr]
  apply le_mod
  have e : 2 ^ T = 2 ^ (8 * (T / 8)) * 2 ^ used := by rw [← Nat.pow_add, h.us, Nat.div_add_mod]
  rw [pow8, e, ← Nat.mul_assoc, Nat.mul_comm d, Nat.mul_assoc, Nat.add_mul_mod_self_left]
theorem RS.bound {V T last used d t : Nat} {pre : List Int} (h : RS V T last used pre) (hd : d < 2 ^ t) : V + d * 2 ^ T < 2 ^ (T + t) := by
  rw [Nat.pow_add, Nat.mul_comm (2 ^ T) (2 ^ t)]
  have h1 : (d + 1) * 2 ^ T ≤ 2 ^ t * 2 ^ T := Nat.mul_le_mul_right _ hd
  rw [Nat.add_mul, Nat.one_mul] at h1
  have := h.lt
  omega
/-- A piece that fills the byte. -/
theorem RS.full {V T last used d t : Nat} {pre : List Int} (h : RS V T last used pre) (hd : d < 2 ^ t) (ht : used + t = 8) :
    RS (V + d * 2 ^ T) (T + t) 0 0 (pre ++ [((last + d * 2 ^ used : Nat) : Int)]) := by
  have hu := h.us
  have hT : (T + t) / 8 = T / 8 + 1 := by omega
  have hL : last + d * 2 ^ used < 256 := by
    have h1 : (d + 1) * 2 ^ used ≤ 2 ^ t * 2 ^ used := Nat.mul_le_mul_right _ hd
    rw [← Nat.pow_add, show t + used = 8 by omega, Nat.add_mul, Nat.one_mul] at h1
    have := h.last_lt
    omega
  refine ⟨h.bound hd, by omega, ?_, ?_⟩
  · rw [hT, show 8 * (T / 8 + 1) = 8 * (T / 8) + 8 by omega, Nat.pow_add, ← Nat.div_div_eq_div_mul, h.value]
    omega
  · rw [hT, le_snoc, h.low, pow8, h.value, Nat.mod_eq_of_lt hL]
/-- A piece that doesn't. -/
theorem RS.part {V T last used d t : Nat} {pre : List Int} (h : RS V T last used pre) (hd : d < 2 ^ t) (ht : used + t < 8) :
    RS (V + d * 2 ^ T) (T + t) (last + d * 2 ^ used) (used + t) pre := by
  have hu := h.us
  have hT : (T + t) / 8 = T / 8 := by omega
  refine ⟨h.bound hd, by omega, ?_, ?_⟩
  · rw [hT, h.value]
  · rw [hT, h.low]
/-- The last byte, if one waits. -/
theorem RS.close {V T last used : Nat} {pre : List Int} (h : RS V T last used pre) (hu : 0 < used) : pre ++ [(last : Int)] = le ((T + 7) / 8) V := by
  have hus := h.us
  have hl := h.last_lt
  have : 2 ^ used ≤ 2 ^ 8 := Nat.pow_le_pow_right (by decide) (by omega)
  rw [show (T + 7) / 8 = T / 8 + 1 by omega, le_snoc, ← h.pr, pow8, ← h.la, Nat.mod_eq_of_lt (by omega)]
theorem RS.close0 {V T last : Nat} {pre : List Int} (h : RS V T last 0 pre) : pre = le ((T + 7) / 8) V := by
  have hus := h.us
  rw [show (T + 7) / 8 = T / 8 by omega, ← h.pr]
/-- The value that has been put of an element, piece by piece. -/
theorem piece (x g t P W : Nat) : (P + x % 2 ^ g * 2 ^ W) + (x / 2 ^ g % 2 ^ t) * 2 ^ (W + g) = P + x % 2 ^ (g + t) * 2 ^ W := by
  have e : x % 2 ^ (g + t) = x % 2 ^ g + 2 ^ g * (x / 2 ^ g % 2 ^ t) := by
    rw [Nat.pow_add, Nat.mod_mul]
  rw [e, Nat.add_mul, Nat.pow_add, Nat.mul_comm (2 ^ W) (2 ^ g), ← Nat.mul_assoc, Nat.mul_comm (x / 2 ^ g % 2 ^ t) (2 ^ g)]
  omega
theorem RS.full' {P W g x last used t nl : Nat} {pre : List Int} (h : RS (P + x % 2 ^ g * 2 ^ W) (W + g) last used pre) (hn : nl = last + (x / 2 ^ g % 2 ^ t) * 2 ^ used) (ht : used + t = 8) :
    RS (P + x % 2 ^ (g + t) * 2 ^ W) (W + (g + t)) 0 0 (pre ++ [(nl : Int)]) := by
  have q := h.full (d := x / 2 ^ g % 2 ^ t) (t := t) (Nat.mod_lt _ (Nat.two_pow_pos _)) ht
  rw [piece, Nat.add_assoc, ← hn] at q
  exact q
theorem RS.part' {P W g x last used t nl : Nat} {pre : List Int} (h : RS (P + x % 2 ^ g * 2 ^ W) (W + g) last used pre) (hn : nl = last + (x / 2 ^ g % 2 ^ t) * 2 ^ used) (ht : used + t < 8) :
    RS (P + x % 2 ^ (g + t) * 2 ^ W) (W + (g + t)) nl (used + t) pre := by
  have q := h.part (d := x / 2 ^ g % 2 ^ t) (t := t) (Nat.mod_lt _ (Nat.two_pow_pos _)) ht
  rw [piece, Nat.add_assoc, ← hn] at q
  exact q
theorem run_or (last used y : Nat) (hl : last < 256) : bits .or .u8 (last : Int) (IntKind.u64.wrap ((y : Int) * 2 ^ used) % 256) = ((last ||| (y * 2 ^ used % 256) : Nat) : Int) := by
  have e : IntKind.u64.wrap ((y : Int) * 2 ^ used) % 256 = ((y * 2 ^ used % 256 : Nat) : Int) := by
    rw [IntKind.wrap_u64]
    have : ((y : Int) * 2 ^ used) = ((y * 2 ^ used : Nat) : Int) := by push_cast; rfl
    rw [this]
    omega
  rw [e, or_u8 _ _ hl (Nat.mod_lt _ (by decide))]
theorem div_more {x g y t : Nat} (hy : y = x / 2 ^ g) : ((y : Int) / 2 ^ t) = ((x / 2 ^ (g + t) : Nat) : Int) := by
  rw [Nat.pow_add, ← Nat.div_div_eq_div_mul, ← hy]
  push_cast
  rfl
end Go.Proofs.YtcbhgpdookappaaDoor
