import Derived.Test.YtcbhgpdookappaaDoorDtf
namespace Go.Proofs.YtcbhgpdookappaaDoor.Ds
open Go.RowKit

/-- How many members stand below m. -/
def cnt (ws : Nat → Nat) : Nat → Nat
  | 0 => 0
  | m + 1 => cnt ws m + (mem ws m).toNat
theorem pcn_top (n x : Nat) : pcn (n + 1) x = pcn n x + (x.testBit n).toNat := by
  rw [pcn_add n 1, pcn, pcn]
  have h : (x.testBit n).toNat = x / 2 ^ n % 2 := by
    rw [Nat.testBit_eq_decide_div_mod_eq]
    by_cases h : x / 2 ^ n % 2 = 1
    · simp [h]
    · simp [show x / 2 ^ n % 2 = 0 by omega]
  omega
theorem cnt_word (ws : Nat → Nat) (k : Nat) : ∀ r, r ≤ 64 → cnt ws (64 * k + r) = cnt ws (64 * k) + pcn r (ws k)
  | 0, _ => by simp [pcn]
  | r + 1, h => by
    have e : mem ws (64 * k + r) = (ws k).testBit r := by
      unfold mem
      rw [show (64 * k + r) / 64 = k by omega, show (64 * k + r) % 64 = r by omega]
    rw [show 64 * k + (r + 1) = 64 * k + r + 1 by omega, cnt, cnt_word ws k r (by omega), e, pcn_top]
    omega
theorem cnt_words (ws : Nat → Nat) (k : Nat) : cnt ws (64 * (k + 1)) = cnt ws (64 * k) + pcn 64 (ws k) := by
  rw [show 64 * (k + 1) = 64 * k + 64 by omega, cnt_word ws k 64 (by omega)]
theorem cnt_blk (ws : Nat → Nat) (j : Nat) : cnt ws (256 * (j + 1)) = cnt ws (256 * j) + psum (blk ws j) 4 := by
  have h1 := cnt_words ws (4 * j)
  have h2 := cnt_words ws (4 * j + 1)
  have h3 := cnt_words ws (4 * j + 2)
  have h4 := cnt_words ws (4 * j + 3)
  have e : psum (blk ws j) 4 = pcn 64 (ws (4 * j)) + pcn 64 (ws (4 * j + 1)) + pcn 64 (ws (4 * j + 2)) + pcn 64 (ws (4 * j + 3)) := by
    simp only [psum, blk]
    rw [Nat.mul_comm j 4]
    simp
  rw [e, show 256 * (j + 1) = 64 * (4 * j + 3 + 1) by omega, h4, show 64 * (4 * j + 3) = 64 * (4 * j + 2 + 1) by omega, h3, show 64 * (4 * j + 2) = 64 * (4 * j + 1 + 1) by omega, h2, show 64 * (4 * j + 1) = 64 * (4 * j + 1) by rfl, h1, show 64 * (4 * j) = 256 * j by omega]
  omega
theorem pcn_zero : ∀ n, pcn n 0 = 0
  | 0 => rfl
  | n + 1 => by rw [pcn, Nat.zero_div, pcn_zero n]
theorem pcn_mod : ∀ (n x : Nat), pcn n (x % 2 ^ n) = pcn n x
  | 0, _ => rfl
  | n + 1, x => by
    rw [pcn, pcn, ← pcn_mod n (x / 2)]
    have h1 : x % 2 ^ (n + 1) % 2 = x % 2 := by rw [Nat.pow_succ, Nat.mod_mul_left_mod]
    have h2 : x % 2 ^ (n + 1) / 2 = x / 2 % 2 ^ n := by rw [Nat.pow_succ, Nat.mul_comm, Nat.mod_mul_right_div_self]
    rw [h1, h2, pcn_mod n (x / 2)]
theorem pcn_and (x s : Nat) (hs : s ≤ 64) : pcn 64 (x &&& (2 ^ s - 1)) = pcn s x := by
  rw [Nat.and_two_pow_sub_one_eq_mod, show (64 : Nat) = s + (64 - s) by omega, pcn_add, pcn_mod, Nat.div_eq_of_lt (Nat.mod_lt _ (Nat.two_pow_pos s)), pcn_zero, Nat.add_zero]
theorem cnt_part (ws : Nat → Nat) (j r : Nat) : ∀ i, i ≤ 4 → cnt ws (256 * j + min r (64 * i)) = cnt ws (256 * j) + psum (andB (blk ws j) (lw r)) i
  | 0, _ => by simp [psum]
  | i + 1, hi => by
    have ih := cnt_part ws j r i (by omega)
    have e : psum (andB (blk ws j) (lw r)) (i + 1) = psum (andB (blk ws j) (lw r)) i + pcn (min (r - 64 * i) 64) (ws (4 * j + i)) := by
      have e0 : pcn 64 (andB (blk ws j) (lw r) i) = pcn (min (r - 64 * i) 64) (ws (4 * j + i)) := by
        show pcn 64 (ws (j * 4 + i) &&& (2 ^ (min (r - 64 * i) 64) - 1)) = _
        rw [pcn_and _ _ (Nat.min_le_right _ _), Nat.mul_comm j 4]
      rw [psum, e0]
    rw [e, ← Nat.add_assoc, ← ih]
    by_cases h : r ≤ 64 * i
    · rw [Nat.min_eq_left h, Nat.min_eq_left (by omega), show r - 64 * i = 0 by omega]
      simp [pcn]
    · have h2 := cnt_word ws (4 * j + i) (min (r - 64 * i) 64) (Nat.min_le_right _ _)
      rw [show 64 * (4 * j + i) = 256 * j + 64 * i by omega] at h2
      rw [Nat.min_eq_right (show 64 * i ≤ r by omega), ← h2, show 256 * j + min r (64 * (i + 1)) = 256 * j + 64 * i + min (r - 64 * i) 64 by omega]
theorem cnt_rest (ws : Nat → Nat) (j r : Nat) (hr : r < 256) : cnt ws (256 * j + r) = cnt ws (256 * j) + psum (andB (blk ws j) (lw r)) 4 := by
  have h := cnt_part ws j r 4 (by omega)
  rwa [Nat.min_eq_left (by omega)] at h
theorem cnt_le (ws : Nat → Nat) : ∀ m, cnt ws m ≤ m
  | 0 => Nat.le_refl _
  | m + 1 => by
    have := cnt_le ws m
    rw [cnt]
    cases mem ws m <;> simp <;> omega
/-- The members below 64 K, rising. -/
def mlist (ws : Nat → Nat) (K : Nat) : List Nat := (List.range (64 * K)).filter (mem ws)
theorem mlist_zero (ws : Nat → Nat) : mlist ws 0 = [] := by simp [mlist]
theorem mlist_succ (ws : Nat → Nat) (K : Nat) : mlist ws (K + 1) = mlist ws K ++ (bl (ws K)).map (fun i => 64 * K + i) := by
  unfold mlist bl
  rw [show 64 * (K + 1) = 64 * K + 64 by omega, List.range_add, List.filter_append, List.filter_map]
  congr 2
  apply List.filter_congr
  intro i hi
  have hi := List.mem_range.1 hi
  show mem ws (64 * K + i) = _
  unfold mem
  rw [show (64 * K + i) / 64 = K by omega, show (64 * K + i) % 64 = i by omega]
theorem range_cnt (ws : Nat → Nat) : ∀ m, ((List.range m).filter (mem ws)).length = cnt ws m
  | 0 => by simp [cnt]
  | m + 1 => by
    rw [List.range_succ, List.filter_append, List.length_append, range_cnt ws m, cnt, List.filter_cons]
    cases mem ws m <;> simp
/-- A block's members. -/
def blist (b : Nat → Nat) : List Nat := mlist b 4
theorem blist_eq (b : Nat → Nat) : blist b = (bl (b 0)).map (fun i => 64 * 0 + i) ++ (bl (b 1)).map (fun i => 64 * 1 + i) ++ (bl (b 2)).map (fun i => 64 * 2 + i) ++ (bl (b 3)).map (fun i => 64 * 3 + i) := by
  unfold blist
  rw [mlist_succ, mlist_succ, mlist_succ, mlist_succ, mlist_zero, List.nil_append]
theorem mlist_blk (ws : Nat → Nat) (j : Nat) : mlist ws (4 * (j + 1)) = mlist ws (4 * j) ++ (blist (blk ws j)).map (fun i => 256 * j + i) := by
  unfold mlist blist mlist
  rw [show 64 * (4 * (j + 1)) = 64 * (4 * j) + 256 by omega, List.range_add, List.filter_append, List.filter_map, show 64 * 4 = 256 from rfl, show 64 * (4 * j) = 256 * j by omega]
  congr 2
  apply List.filter_congr
  intro i hi
  have hi := List.mem_range.1 hi
  show mem ws (256 * j + i) = _
  unfold mem blk
  rw [show (256 * j + i) / 64 = j * 4 + i / 64 by omega, show (256 * j + i) % 64 = i % 64 by omega]
/-- The members of a set. -/
def members (ws : Nat → Nat) (n : Nat) : List Nat := (List.range n).filter (mem ws)
theorem members_eq {ws : Nat → Nat} {n : Nat} (ht : ∀ i, mem ws i = true → i < n) : members ws n = mlist ws (4 * nbOf n) := by
  unfold members mlist
  have : 64 * (4 * nbOf n) = n + (64 * (4 * nbOf n) - n) := by unfold nbOf; omega
  rw [this, List.range_add, List.filter_append]
  have h0 : ((List.range (64 * (4 * nbOf n) - n)).map (fun x => n + x)).filter (mem ws) = [] := by
    rw [List.filter_eq_nil_iff]
    intro a ha
    obtain ⟨b, _, rfl⟩ := List.mem_map.1 ha
    intro hm
    have := ht _ hm
    omega
  rw [h0, List.append_nil]
theorem members_len (ws : Nat → Nat) (n : Nat) : (members ws n).length = cnt ws n := range_cnt ws n
end Go.Proofs.YtcbhgpdookappaaDoor.Ds
