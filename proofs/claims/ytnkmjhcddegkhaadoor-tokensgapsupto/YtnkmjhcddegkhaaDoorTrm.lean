import Derived.WalkKit
import Derived.Laws.BytesArg
namespace Go.Proofs.YtnkmjhcddegkhaaDoor
open Go.RowKit

/-- The number that bytes tell, the highest first. -/
def bv : List UInt8 → Nat
  | [] => 0
  | c :: r => c.toNat * 256 ^ r.length + bv r
theorem bv_lt : ∀ l : List UInt8, bv l < 256 ^ l.length
  | [] => by simp [bv]
  | c :: r => by
    have h := bv_lt r
    have hc : c.toNat < 256 := c.toNat_lt
    have hm : (c.toNat + 1) * 256 ^ r.length ≤ 256 * 256 ^ r.length := Nat.mul_le_mul_right _ hc
    rw [bv, List.length_cons, Nat.pow_succ]
    rw [Nat.add_mul] at hm
    omega
theorem bv_snoc : ∀ (l : List UInt8) (c : UInt8), bv (l ++ [c]) = bv l * 256 + c.toNat
  | [], c => by simp [bv]
  | a :: l, c => by
    rw [List.cons_append, bv, bv, bv_snoc l c, List.length_append, List.length_singleton, Nat.pow_succ, Nat.add_mul]
    have : a.toNat * (256 ^ l.length * 256) = a.toNat * 256 ^ l.length * 256 := by rw [Nat.mul_assoc]
    omega
theorem bv_inj : ∀ (a b : List UInt8), a.length = b.length → bv a = bv b → a = b
  | [], [], _, _ => rfl
  | [], _ :: _, h, _ => by simp at h
  | _ :: _, [], h, _ => by simp at h
  | x :: a, y :: b, h, e => by
    have hl : a.length = b.length := by simpa using h
    have ha := bv_lt a
    have hb := bv_lt b
    rw [bv, bv, hl] at e
    rw [hl] at ha
    have hp : 0 < 256 ^ b.length := Nat.pow_pos (by decide)
    have e1 : x.toNat = y.toNat := by
      have q1 : (x.toNat * 256 ^ b.length + bv a) / 256 ^ b.length = x.toNat := by
        rw [Nat.mul_comm, Nat.mul_add_div hp, Nat.div_eq_of_lt ha]; rfl
      have q2 : (y.toNat * 256 ^ b.length + bv b) / 256 ^ b.length = y.toNat := by
        rw [Nat.mul_comm, Nat.mul_add_div hp, Nat.div_eq_of_lt hb]; rfl
      rw [← q1, ← q2, e]
    have e2 : x = y := UInt8.toNat_inj.1 e1
    subst e2
    rw [bv_inj a b hl (by omega)]
theorem less_bv : ∀ (a b : List UInt8), a.length = b.length → Op.bytesLess a b = decide (bv a < bv b)
  | [], [], _ => by simp [Op.bytesLess, bv]
  | [], _ :: _, h => by simp at h
  | _ :: _, [], h => by simp at h
  | x :: a, y :: b, h => by
    have hl : a.length = b.length := by simpa using h
    have ha := bv_lt a
    have hb := bv_lt b
    rw [Op.bytesLess, less_bv a b hl, bv, bv, hl]
    rw [hl] at ha
    rw [Bool.eq_iff_iff]
    simp only [Bool.or_eq_true, Bool.and_eq_true, decide_eq_true_eq, beq_iff_eq, UInt8.lt_iff_toNat_lt, ← UInt8.toNat_inj]
    constructor
    · rintro (h1 | ⟨h1, h2⟩)
      · have : (x.toNat + 1) * 256 ^ b.length ≤ y.toNat * 256 ^ b.length := Nat.mul_le_mul_right _ h1
        rw [Nat.add_mul] at this
        omega
      · rw [h1]; omega
    · intro h1
      by_cases c : x.toNat < y.toNat
      · exact .inl c
      · by_cases c2 : x.toNat = y.toNat
        · rw [c2] at h1
          exact .inr ⟨c2, by omega⟩
        · exfalso
          have : (y.toNat + 1) * 256 ^ b.length ≤ x.toNat * 256 ^ b.length := Nat.mul_le_mul_right _ (by omega)
          rw [Nat.add_mul] at this
          omega

/-- A word's bytes, the highest first. -/
def tb (n : Nat) : List Int := [((n / 72057594037927936 % 256 : Nat) : Int), ((n / 281474976710656 % 256 : Nat) : Int), ((n / 1099511627776 % 256 : Nat) : Int), ((n / 4294967296 % 256 : Nat) : Int),
  ((n / 16777216 % 256 : Nat) : Int), ((n / 65536 % 256 : Nat) : Int), ((n / 256 % 256 : Nat) : Int), ((n % 256 : Nat) : Int)]
def tm (n : Nat) : ByteArray := strOfNums (tb n)
theorem tm_size (n : Nat) : (tm n).size = 8 := by rw [tm, strOfNums_size]; rfl
theorem tm_len (n : Nat) : (tm n).data.toList.length = 8 := by rw [tm, strOfNums_data]; rfl
theorem u8n (n : Nat) : (UInt8.ofNat (n % 256)).toNat = n % 256 := by rw [UInt8.toNat_ofNat']; omega
theorem tm_bv (n : Nat) (h : n < 18446744073709551616) : bv (tm n).data.toList = n := by
  rw [tm, strOfNums_data, tb]
  simp only [List.map_cons, List.map_nil, bv, List.length_cons, List.length_nil, Int.toNat_natCast, u8n]
  omega
theorem tm_less (n m : Nat) (hn : n < 18446744073709551616) (hm : m < 18446744073709551616) : Op.bytesLess (tm n).data.toList (tm m).data.toList = decide (n < m) := by
  rw [less_bv _ _ (by rw [tm_len, tm_len]), tm_bv n hn, tm_bv m hm]
theorem tm_beq (n m : Nat) (hn : n < 18446744073709551616) (hm : m < 18446744073709551616) : ((tm n).data.toList == (tm m).data.toList) = decide (n = m) := by
  rw [Bool.eq_iff_iff]
  simp only [beq_iff_eq, decide_eq_true_eq]
  constructor
  · intro e
    have := congrArg bv e
    rwa [tm_bv n hn, tm_bv m hm] at this
  · rintro rfl; rfl
theorem tm_back (s : ByteArray) (h : s.size = 8) : tm (bv s.data.toList) = s := by
  have hl : s.data.toList.length = 8 := by rw [Array.length_toList]; exact h
  have hb := bv_lt s.data.toList
  rw [hl] at hb
  have e : (tm (bv s.data.toList)).data.toList = s.data.toList := bv_inj _ _ (by rw [tm_len, hl]) (tm_bv _ (by omega))
  have e2 : (tm (bv s.data.toList)).data = s.data := Array.toList_inj.1 e
  exact ByteArray.ext e2
/-- The word of a number. -/
def wd (v : Int) : Nat := (v + 9223372036854775808).toNat
theorem wd_lt (v : Int) (h1 : v ≤ 9223372036854775807) : wd v < 18446744073709551616 := by unfold wd; omega
theorem or256 (a c : Nat) (h : c < 256) : (a * 256) ||| c = a * 256 + c := by
  have := Nat.two_pow_add_eq_or_of_lt (i := 8) (b := c) (by simpa using h) a
  rw [show (2 : Nat) ^ 8 * a = a * 256 by rw [Nat.mul_comm]] at this
  exact this.symm
theorem ofInt_nat (x : Nat) (hx : x < 2 ^ 64) : (BitVec.ofInt 64 (x : Int)).toNat = x := by
  rw [BitVec.ofInt_natCast, BitVec.toNat_ofNat]; exact Nat.mod_eq_of_lt hx
theorem or_step (a c : Nat) (h : a < 72057594037927936) (hc : c < 256) : bits .or .u64 (((a * 256 : Nat)) : Int) (c : Int) = ((a * 256 + c : Nat) : Int) := by
  show IntKind.u64.wrap ((BitVec.ofInt 64 ((a * 256 : Nat) : Int) ||| BitVec.ofInt 64 (c : Int)).toNat : Int) = _
  rw [BitVec.toNat_or, ofInt_nat _ (by omega), ofInt_nat c (by omega), or256 a c hc, IntKind.wrap_u64]
  omega
end Go.Proofs.YtnkmjhcddegkhaaDoor
