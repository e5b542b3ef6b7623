import Derived.Test.YtpopfgablgnalaaWrE
import Derived.Laws.CopyOwn
namespace Go.Proofs.Ytpopfgablgnalaa
open Go.ChangeShapes Go.WideShapes Go.ChangeAt Go.RowKit

/-- A list of bytes as it lies in memory: nothing is said of the address of an empty one. -/
def BytesAt (w : World) (a : Option Addr) (l : List Int) : Prop :=
  l ≠ [] → ∃ b off, a = some ⟨b, off, none⟩ ∧ ∀ k, k < l.length → w.cell? ⟨b, off + k, none⟩ = some (.int .u8 (l[k]?.getD 0))
def IsBytes (l : List Int) : Prop := ∀ x ∈ l, 0 ≤ x ∧ x ≤ 255
theorem BytesAt.get {w : World} {a : Option Addr} {l : List Int} (h : BytesAt w a l) {k : Nat} (hk : k < l.length) : ∃ b off, a = some ⟨b, off, none⟩ ∧ w.cell? ⟨b, off + k, none⟩ = some (.int .u8 (l[k]?.getD 0)) := by
  obtain ⟨b, off, e, hc⟩ := h (by intro e; rw [e] at hk; simp at hk)
  exact ⟨b, off, e, hc k hk⟩
theorem IsBytes.at {l : List Int} (h : IsBytes l) {k : Nat} (hk : k < l.length) : ∃ c : Nat, l[k]?.getD 0 = c ∧ c < 256 ∧ l[k] = c := by
  have := h _ (List.getElem_mem hk)
  exact ⟨l[k].toNat, by rw [List.getElem?_eq_getElem hk]; simp; omega, by omega, by omega⟩

/-- A uvarint, byte by byte: 0: too short, 1: no good form; else the number and how many bytes it has. -/
def rdu : Nat → Nat → List Int → Except Nat (Nat × Nat)
  | _, _, [] => .error 0
  | i, acc, c :: r =>
    if i = 9 ∧ 1 < c then .error 1
    else if c < 128 then (if c = 0 ∧ 0 < i then .error 1 else .ok (acc + c.toNat % 128 * 2 ^ (7 * i), i + 1))
    else rdu (i + 1) (acc + c.toNat % 128 * 2 ^ (7 * i)) r
/-- What uvarintAt answers. -/
def uvRes (E0 E1 : Value) (p : Nat) : Except Nat (Nat × Nat) → Ending
  | .error 0 => .returned (.tuple #[.int .u64 0, .int .i64 0, E0])
  | .error _ => .returned (.tuple #[.int .u64 0, .int .i64 0, E1])
  | .ok (v, k) => .returned (.tuple #[.int .u64 v, .int .i64 ((p + k : Nat) : Int), .nilIface])

theorem and127 (c : Nat) (h : c < 256) : bits .and .u8 (c : Int) 127 = ((c % 128 : Nat) : Int) := by
  have q : ∀ k : Fin 256, bits .and .u8 ((k.val : Nat) : Int) 127 = ((k.val % 128 : Nat) : Int) := by decide +kernel
  exact q ⟨c, h⟩
theorem or_u64 (a b : Nat) (ha : a < 2 ^ 64) (hb : b < 2 ^ 64) : bits .or .u64 (a : Int) (b : Int) = ((a ||| b : Nat) : Int) := by
  show IntKind.u64.wrap ((BitVec.ofInt 64 (a : Int) ||| BitVec.ofInt 64 (b : Int)).toNat : Int) = _
  rw [BitVec.toNat_or, ofInt_nat a ha, ofInt_nat b hb, IntKind.wrap_u64]
  have := Nat.or_lt_two_pow ha hb
  omega

theorem uv_or (acc c k : Nat) (hacc : acc < 2 ^ (7 * k)) (hk : k ≤ 9) (hd : k < 9 ∨ c ≤ 1) :
    bits .or .u64 (acc : Int) (IntKind.u64.wrap ((c : Int) % 128 * 2 ^ (7 * k))) = ((acc + c % 128 * 2 ^ (7 * k) : Nat) : Int) ∧ (k < 9 → acc + c % 128 * 2 ^ (7 * k) < 2 ^ (7 * (k + 1))) ∧ acc + c % 128 * 2 ^ (7 * k) < 18446744073709551616 := by
  have hm : c % 128 < 128 := Nat.mod_lt _ (by decide)
  have hb : (c % 128 + 1) * 2 ^ (7 * k) ≤ 128 * 2 ^ (7 * k) := Nat.mul_le_mul_right _ hm
  rw [Nat.add_mul, Nat.one_mul, show (128 : Nat) = 2 ^ 7 by decide, ← Nat.pow_add, show 7 + 7 * k = 7 * (k + 1) by omega, show (2 : Nat) ^ 7 = 128 by decide] at hb
  have h64 : acc + c % 128 * 2 ^ (7 * k) < 2 ^ 64 := by
    rcases hd with h | h
    · have : 2 ^ (7 * (k + 1)) ≤ 2 ^ 63 := Nat.pow_le_pow_right (by decide) (by omega)
      omega
    · have h1 : c % 128 * 2 ^ (7 * k) ≤ 1 * 2 ^ (7 * k) := Nat.mul_le_mul_right _ (by omega)
      have h2 : 2 ^ (7 * k) ≤ 2 ^ 63 := Nat.pow_le_pow_right (by decide) (by omega)
      omega
  refine ⟨?_, fun _ => by omega, by omega⟩
  have e : IntKind.u64.wrap ((c : Int) % 128 * 2 ^ (7 * k)) = ((c % 128 * 2 ^ (7 * k) : Nat) : Int) := by
    rw [IntKind.wrap_u64]
    have e1 : ((c : Int) % 128 * 2 ^ (7 * k)) = ((c % 128 * 2 ^ (7 * k) : Nat) : Int) := by push_cast; rfl
    rw [e1]
    omega
  rw [e, or_u64 _ _ (by omega) (by omega), or_above _ _ _ hacc]

end Go.Proofs.Ytpopfgablgnalaa
