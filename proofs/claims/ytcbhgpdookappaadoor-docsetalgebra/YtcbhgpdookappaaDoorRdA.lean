import Derived.Test.YtcbhgpdookappaaDoorWrE
import Derived.Laws.CopyOwn
namespace Go.Proofs.YtcbhgpdookappaaDoor
open Go.ChangeShapes Go.WideShapes Go.ChangeAt Go.RowKit

/-- A list of bytes as it lies in memory: nothing is said of the address of an empty one. -/
def BytesAt (w : World) (a : Option Addr) (l : List Int) : Prop :=
  l ≠ [] → ∃ b off, a = some ⟨b, off, none⟩ ∧ ∀ k, k < l.length → w.cell? ⟨b, off + k, none⟩ = some (.int .u8 (l[k]?.getD 0))
def IsBytes (l : List Int) : Prop := ∀ x ∈ l, 0 ≤ x ∧ x ≤ 255
theorem BytesAt.get {w : World} {a : Option Addr} {l : List Int} (h : BytesAt w a l) {k : Nat} (hk : k < l.length) : ∃ b off, a = some ⟨b, off, none⟩ ∧ w.cell? ⟨b, off + k, none⟩ = some (.int .u8 (l[k]?.getD 0)) := by
  obtain ⟨b, off, e, hc⟩ := h (by intro e; rw [e] at hk; simp at hk)
  exact ⟨b, off, e, hc k hk⟩
theorem IsBytes.at {l : List Int} (h : IsBytes l) {k : Nat} (hk : k < l.length) : ∃ c : Nat, l[k]?.getD 0 = c ∧ c < 256 ∧ l[k] = c := by
  have := h _ (List.getElem_mem hk)
  exact ⟨l[k].toNat, by rw [List.getElem?_eq_getElem hk]; simp; omega, by omega, by omega⟩

/-- A uvarint, byte by byte: 0: too short, 1: no good form; else the number and how many bytes it has. -/
def rdu : Nat → Nat → List Int → Except Nat (Nat × Nat)
  | _, _, [] => .error 0
  | i, acc, c :: r =>
    if i = 9 ∧ 1 < c then .error 1
    else if c < 128 then (if c = 0 ∧ 0 < i then .error 1 else .ok (acc + c.toNat % 128 * 2 ^ (7 * i), i + 1))
    else rdu (i + 1) (acc + c.toNat % 128 * 2 ^ (7 * i)) r
/-- What uvarintAt answers. -/
def uvRes (E0 E1 : Value) (p : Nat) : Except Nat (Nat × Nat) → Ending
  | .error 0 => .returned (.tuple #[.int .u64 0, .int .i64 0, E0])
  | .error _ => .returned (.tuple #[.int .u64 0, .int .i64 0, E1])
  | .ok (v, k) => .returned (.tuple #[.int .u64 v, .int .i64 ((p + k : Nat) : Int), .nilIface])

theorem and127 (c : Nat) (h : c < 256) : bits .and .u8 (c : Int) 127 = ((c % 128 : Nat) : Int) := by
  have q : ∀ k : Fin 256, bits .and .u8 ((k.val : Nat) : Int) 127 = ((k.val % 128 : Nat) : Int) := by decide +kernel
  exact q ⟨c, h⟩
theorem or_u64 (a b : Nat) (ha : a < 2 ^ 64) (hb : b < 2 ^ 64) : bits .or .u64 (a : Int) (b : Int) = ((a ||| b : Nat) : Int) := by
  show IntKind.u64.wrap ((BitVec.ofInt 64 (a : Int) ||| BitVec.ofInt 64 (b : Int)).toNat : Int) = _
  rw [BitVec.toNat_or, ofInt_nat a ha, ofInt_nat b hb, IntKind.wrap_u64]
  have := Nat.or_lt_two_pow ha hb
  omega

theorem uv_or (acc c k : Nat) (hacc : acc < 2 ^ (7 * k)) (hk : k ≤ 9) (hd : k < 9 ∨ c ≤ 1) :
    bits .or .u64 (acc : Int) (IntKind.u64.wrap ((c : Int) % 128 * 2 ^ (7 * k))) = ((acc + c % 128 * 2 ^ (7 * k) : Nat) : Int) ∧ (k < 9 → acc + c % 128 * 2 ^ (7 * k) < 2 ^ (7 * (k + 1))) ∧ acc + c % 128 * 2 ^ (7 * k) < 18446744073709551616 := by
  have hm : c % 128 < 128 := Nat.mod_lt _ (by decide)
  have hb : (c % 128 + 1) * 2 ^ (7 * k) ≤ 128 * 2 ^ (7 * k) := Nat.mul_le_mul_right _ hm
  rw [Nat.add_mul, Nat.one_mul, show (128 : Nat) = 2 ^ 7 by decide, ← Nat.pow_add, show 7 + 7 * k = 7 * (k + 1) by omega, show (2 : Nat) ^ 7 = 128 by decide] at hb
  have h64 : acc + c % 128 * 2 ^ (7 * k) < 2 ^ 64 := by
    rcases hd with h | h
    · have : 2 ^ (7 * (k + 1)) ≤ 2 ^ 63 := Nat.pow_le_pow_right (by decide) (by omega)
      omega
    · have h1 : c % 128 * 2 ^ (7 * k) ≤ 1 * 2 ^ (7 * k) := Nat.mul_le_mul_right _ (by omega)
      have h2 : 2 ^ (7 * k) ≤ 2 ^ 63 := Nat.pow_le_pow_right (by decide) (by omega)
      omega
  refine ⟨?_, fun _ => by omega, by omega⟩
  have e : IntKind.u64.wrap ((c : Int) % 128 * 2 ^ (7 * k)) = ((c % 128 * 2 ^ (7 * k) : Nat) : Int) := by
    rw [IntKind.wrap_u64]
    have e1 : ((c : Int) % 128 * 2 ^ (7 * k)) = ((c % 128 * 2 ^ (7 * k) : Nat) : Int) := by push_cast; rfl
    rw [e1]
    omega
  rw [e, or_u64 _ _ (by omega) (by omega), or_above _ _ _ hacc]

set_option maxRecDepth 20000 in
set_option maxHeartbeats 2000000 in
theorem uvat_any (l : List Int) (a : Option Addr) (cp p : Nat) (E0 E1 : Value) (w : World) (h : BytesAt w a l) (hB : IsBytes l) (hp : p ≤ l.length) (hl : l.length ≤ 4611686018427387904)
    (g0 : w.cell? ⟨2, 0, none⟩ = some E0) (g1 : w.cell? ⟨3, 0, none⟩ = some E1) :
    Calls Tryd.prog 76 #[.slice a l.length cp, .int .i64 p] w fun e w' => e = uvRes E0 E1 p (rdu 0 0 (l.drop p)) ∧ ∃ n, w' = w.drewN n := by
  have HH : Hid (BytesAt w a l) := h
  have HB : Hid (IsBytes l) := hB
  clear h hB
  go_enter Tryd.func76, Tryd.ntmps76
  go_wp2
  go_loop [7, 8] (fun vv i => ∃ (k acc : Nat), k ≤ 9 ∧ p + k ≤ l.length ∧ vv = .int .u64 acc ∧ i = .int .i64 k ∧ acc < 2 ^ (7 * k) ∧ rdu 0 0 (l.drop p) = rdu k acc (l.drop (p + k))) (fun _ i => 10 - (intOf i).toNat)
  case atStart => exact ⟨0, 0, by omega, hp, rfl, rfl, by decide, rfl⟩
  case round =>
    obtain ⟨k, acc, hk, hpk, rfl, rfl, hacc, hrd⟩ := hrel
    by_cases hlt : p + k < l.length
    · obtain ⟨b, off, rfl, hc⟩ := HH.out.get hlt
      obtain ⟨c, hc1, hc2, hc3⟩ := HB.out.at hlt
      rw [hc1] at hc
      have hd : l.drop (p + k) = (c : Int) :: l.drop (p + k + 1) := by rw [List.drop_eq_getElem_cons hlt, hc3]
      rw [hd, rdu] at hrd
      have hand := and127 c hc2
      have HR : Hid _ := hrd
      have HA : Hid (acc < 2 ^ (7 * k)) := hacc
      clear hrd hd hc1 hc3 hacc
      obtain ⟨na, hna⟩ : ∃ na, na = acc + c % 128 * 2 ^ (7 * k) := ⟨_, rfl⟩
      have hq := uv_or acc c k HA.out hk
      rw [← hna] at hq
      have HNA : Hid (na = acc + c % 128 * 2 ^ (7 * k)) := hna
      clear hna
      have HQ : Hid _ := hq
      clear hq
      by_cases hk9 : k < 9
      · obtain ⟨ho, hn1, hn2⟩ := HQ.out (.inl hk9)
        have hn3 := hn1 hk9
        have HN3 : Hid (na < 2 ^ (7 * (k + 1))) := hn3
        clear hn1 hn3 HQ HA
        by_cases hc128 : c < 128
        · have hr : rdu 0 0 (l.drop p) = if (c : Int) = 0 ∧ 0 < k then .error 1 else .ok (na, k + 1) := by
            rw [HR.out, if_neg (by omega), if_pos (by omega), HNA.out]
            simp
          have HR2 : Hid _ := hr
          clear hr HR HNA
          by_cases hc0 : c < 1
          · by_cases hk0 : 0 < k
            · go_wp2_with fail
              go_quiet (fail)
              go_wp2
              go_ret3
              refine ⟨?_, _, rfl⟩
              rw [HR2.out, if_pos ⟨by omega, hk0⟩]
              rfl
            · go_wp2
              go_ret3
              refine ⟨?_, 0, rfl⟩
              rw [HR2.out, if_neg (by omega)]
              simp [uvRes]
              omega
          · have hcp : 0 < c := by omega
            go_wp2
            go_ret3
            refine ⟨?_, 0, rfl⟩
            rw [HR2.out, if_neg (by omega)]
            simp [uvRes]
            omega
        · have hr : rdu 0 0 (l.drop p) = rdu (k + 1) na (l.drop (p + k + 1)) := by
            rw [HR.out, if_neg (by omega), if_neg (by omega), HNA.out]
            simp
          have HR2 : Hid _ := hr
          clear hr HR HNA
          go_wp2
          go_round
          case rel => exact ⟨k + 1, na, by omega, by omega, rfl, by go_num, HN3.out, HR2.out⟩
          case measure => simp [intOf]; omega
      · have hk99 : 9 ≤ k := by omega
        clear hk9
        by_cases hc1 : 1 < c
        · have hr : rdu 0 0 (l.drop p) = .error 1 := by
            rw [HR.out, if_pos ⟨by omega, by omega⟩]
          have HR2 : Hid _ := hr
          clear hr HR HNA HQ HA
          go_wp2_with fail
          go_quiet (fail)
          go_wp2
          go_ret3
          refine ⟨?_, _, rfl⟩
          rw [HR2.out]
          rfl
        · obtain ⟨ho, hn1, hn2⟩ := HQ.out (.inr (by omega))
          clear hn1 HQ HA
          have hr : rdu 0 0 (l.drop p) = if (c : Int) = 0 ∧ 0 < k then .error 1 else .ok (na, k + 1) := by
            rw [HR.out, if_neg (by omega), if_pos (by omega), HNA.out]
            simp
          have HR2 : Hid _ := hr
          clear hr HR HNA
          by_cases hc0 : c < 1
          · go_wp2_with fail
            go_quiet (fail)
            go_wp2
            go_ret3
            refine ⟨?_, _, rfl⟩
            rw [HR2.out, if_pos ⟨by omega, by omega⟩]
            rfl
          · have hcp : 0 < c := by omega
            have ho2 : bits .or .u64 (acc : Int) ((c : Int) % 128 * 9223372036854775808) = (na : Int) := by
              have e : IntKind.u64.wrap ((c : Int) % 128 * 2 ^ (7 * k)) = (c : Int) % 128 * 9223372036854775808 := by
                rw [show k = 9 by omega, IntKind.wrap_u64]
                have e2 : (2 : Int) ^ (7 * 9) = 9223372036854775808 := by decide
                rw [e2]
                omega
              rw [← e]
              exact ho
            go_wp2
            go_ret3
            refine ⟨?_, 0, rfl⟩
            rw [HR2.out, if_neg (by omega)]
            simp [uvRes]
            omega
    · have hd : l.drop (p + k) = [] := List.drop_eq_nil_of_le (by omega)
      rw [hd, rdu] at hrd
      have HR : Hid _ := hrd
      clear hrd hd
      go_wp2_with fail
      go_quiet (fail)
      go_wp2
      go_ret3
      refine ⟨?_, _, rfl⟩
      rw [HR.out]
      rfl
end Go.Proofs.YtcbhgpdookappaaDoor
