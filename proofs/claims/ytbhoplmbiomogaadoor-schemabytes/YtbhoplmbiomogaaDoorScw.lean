import Derived.Test.YtbhoplmbiomogaaDoorRows
import Derived.Test.YtbhoplmbiomogaaDoorScm
import Derived.Test.YtbhoplmbiomogaaDoorBase
import Derived.WalkKit
import Derived.ProofKit
import Derived.OpenShut
import Derived.WalkLawsBesides
import Derived.OwnWalk
import Derived.Maps.OwnOps
namespace Go.Proofs.YtbhoplmbiomogaaDoor
open Go.ChangeShapes Go.WideShapes Go.ChangeAt Go.RowKit Go.Maps

def lz (c : Nat) : Bool := decide (97 ≤ c ∧ c ≤ 122)
def nz (c : Nat) : Bool := decide (48 ≤ c ∧ c ≤ 57)
theorem letter_any (c : Nat) (w : World) : Calls Tryd.prog 46 #[.int .u8 c] w fun e w' => e = .returned (.bool (lz c)) ∧ w' = w := by
  by_cases h1 : (97 : Int) ≤ c
  · by_cases h2 : (c : Int) ≤ 122
    · go_enter Tryd.func46, Tryd.ntmps46
      go_wp2
      go_ret
      exact ⟨by rw [show lz c = true from decide_eq_true (by omega)]; rfl, rfl⟩
    · go_enter Tryd.func46, Tryd.ntmps46
      go_wp2
      go_ret
      exact ⟨by rw [show lz c = false from decide_eq_false (by omega)]; rfl, rfl⟩
  · go_enter Tryd.func46, Tryd.ntmps46
    go_wp2
    go_ret
    exact ⟨by rw [show lz c = false from decide_eq_false (by omega)]; rfl, rfl⟩
theorem digit_any (c : Nat) (w : World) : Calls Tryd.prog 47 #[.int .u8 c] w fun e w' => e = .returned (.bool (nz c)) ∧ w' = w := by
  by_cases h1 : (48 : Int) ≤ c
  · by_cases h2 : (c : Int) ≤ 57
    · go_enter Tryd.func47, Tryd.ntmps47
      go_wp2
      go_ret
      exact ⟨by rw [show nz c = true from decide_eq_true (by omega)]; rfl, rfl⟩
    · go_enter Tryd.func47, Tryd.ntmps47
      go_wp2
      go_ret
      exact ⟨by rw [show nz c = false from decide_eq_false (by omega)]; rfl, rfl⟩
  · go_enter Tryd.func47, Tryd.ntmps47
    go_wp2
    go_ret
    exact ⟨by rw [show nz c = false from decide_eq_false (by omega)]; rfl, rfl⟩
theorem hideW {p : Prop} (h : p) : Hid p := h
theorem take_nw (s : ByteArray) (k : Nat) (h : k < s.size) : s.data.toList.take (k + 1) = s.data.toList.take k ++ [s[k]] := by
  rw [List.take_succ_eq_append_getElem (by simpa using h)]; rfl
theorem all_next (s : ByteArray) (k : Nat) (h : k < s.size) (ha : (s.data.toList.take k).all isW = true) : isW s[k] = true → Hid ((s.data.toList.take (k + 1)).all isW = true) := fun hw => by
  refine hideW ?_
  rw [take_nw s k h, List.all_append, ha, List.all_cons, List.all_nil, hw]; rfl
theorem all_bad (s : ByteArray) (k : Nat) (h : k < s.size) (hw : isW s[k] = false) : s.data.toList.all isW = false := by
  rw [List.all_eq_false]
  exact ⟨s[k], Array.getElem_mem_toList h, by rw [hw]; decide⟩
set_option maxRecDepth 20000 in
set_option maxHeartbeats 1000000 in
theorem gname_loop (s : ByteArray) (w : World) (h0 : 0 < s.size) (h1 : s.size ≤ 32) (hl : lz s[0].toNat = true) (hE : s.toList.isEmpty = false) :
    Calls Tryd.prog 31 #[.string s] w fun e w' => e = .returned (.bool (s.data.toList.all isW)) ∧ w' = w := by
  have h1' : ¬ 32 < (s.size : Int) := by omega
  go_enter Tryd.func31, Tryd.ntmps31
  go_wp2_with (first
    | (go_at_call 46; refine (letter_any _ _).mono ?_; rintro e w ⟨rfl, rfl⟩)
    | (go_at_call 47; refine (digit_any _ _).mono ?_; rintro e w ⟨rfl, rfl⟩))
  clear hl
  go_loopw [20] (fun i wr => ∃ (k : Nat), k ≤ s.size ∧ i = .int .i64 k ∧ Hid ((s.data.toList.take k).all isW = true) ∧ wr = w) (fun i _ => s.size - (intOf i).toNat)
  case atStart => exact ⟨0, by omega, rfl, rfl, rfl⟩
  case round =>
    obtain ⟨k, hk, rfl, hA, rfl⟩ := hrel
    by_cases hlt : k < s.size
    · have HN := all_next s k hlt hA.out
      have HB := all_bad s k hlt
      have eW : isW s[k] = (lz s[k].toNat || nz s[k].toNat || decide (s[k].toNat = 95)) := rfl
      rw [eW] at HN HB
      clear eW hA
      cases hL : lz s[k].toNat with
      | true =>
        rw [hL] at HN
        clear HB
        go_wp2_with (first
          | (go_at_call 46; refine (letter_any _ _).mono ?_; rintro e w ⟨rfl, rfl⟩)
          | (go_at_call 47; refine (digit_any _ _).mono ?_; rintro e w ⟨rfl, rfl⟩))
        go_roundw
        case rel => exact ⟨k + 1, by omega, by go_num, HN rfl, trivial⟩
        case measure => simp [intOf]; omega
      | false =>
        rw [hL] at HN HB
        cases hD : nz s[k].toNat with
        | true =>
          rw [hD] at HN
          clear HB
          go_wp2_with (first
            | (go_at_call 46; refine (letter_any _ _).mono ?_; rintro e w ⟨rfl, rfl⟩)
            | (go_at_call 47; refine (digit_any _ _).mono ?_; rintro e w ⟨rfl, rfl⟩))
          go_roundw
          case rel => exact ⟨k + 1, by omega, by go_num, HN rfl, trivial⟩
          case measure => simp [intOf]; omega
        | false =>
          rw [hD] at HN HB
          by_cases hU : s[k].toNat = 95
          · have HN := HN (decide_eq_true hU)
            have hU' : ((s[k].toNat : Nat) : Int) = 95 := by omega
            clear HB hU
            go_wp2_with (first
              | (go_at_call 46; refine (letter_any _ _).mono ?_; rintro e w ⟨rfl, rfl⟩)
              | (go_at_call 47; refine (digit_any _ _).mono ?_; rintro e w ⟨rfl, rfl⟩))
            go_roundw
            case rel => exact ⟨k + 1, by omega, by go_num, HN, trivial⟩
            case measure => simp [intOf]; omega
          · have HB := hideW (HB (decide_eq_false hU))
            have hU' : (((s[k].toNat : Nat) : Int) == 95) = false := by simp; omega
            clear HN hU
            go_wp2_with (first
              | (go_at_call 46; refine (letter_any _ _).mono ?_; rintro e w ⟨rfl, rfl⟩)
              | (go_at_call 47; refine (digit_any _ _).mono ?_; rintro e w ⟨rfl, rfl⟩))
            go_ret
            exact ⟨by rw [HB.out]; rfl, rfl⟩
    · obtain rfl : k = s.size := by omega
      go_wp2
      go_ret
      refine ⟨?_, rfl⟩
      have e := hA.out
      rw [List.take_of_length_le (by rw [Array.length_toList]; exact Nat.le_refl _)] at e
      rw [e]
      rfl
theorem empty_of (s : ByteArray) : s.toList.isEmpty = decide (s.size = 0) := by
  rw [ByteArray.toList_eq]
  obtain ⟨⟨l⟩⟩ := s
  cases l <;> rfl
theorem gname_eq (s : ByteArray) (h : 0 < s.size) : gname s.data.toList = (decide (s.size ≤ 32) && lz s[0].toNat && s.data.toList.all isW) := by
  obtain ⟨⟨l⟩⟩ := s
  match l, h with
  | c :: r, _ =>
    show (decide (r.length < 32) && isL c && (c :: r).all isW) = (decide (r.length + 1 ≤ 32) && isL c && (c :: r).all isW)
    rw [show decide (r.length < 32) = decide (r.length + 1 ≤ 32) from rfl]
set_option maxRecDepth 20000 in
/-- The project's goodName. -/
theorem gname_any (s : ByteArray) (w : World) (hs : s.size ≤ maxLen) :
    Calls Tryd.prog 31 #[.string s] w fun e w' => e = .returned (.bool (gname s.data.toList)) ∧ w' = w := by
  unfold maxLen at hs
  by_cases h0 : s.size = 0
  · have e : gname s.data.toList = false := by rw [List.eq_nil_of_length_eq_zero (l := s.data.toList) (by rw [Array.length_toList]; exact h0)]; rfl
    have hE : s.toList.isEmpty = true := by rw [empty_of]; exact decide_eq_true h0
    rw [e]
    go_enter Tryd.func31, Tryd.ntmps31
    go_wp2
    go_ret
    exact ⟨rfl, rfl⟩
  · have hp : 0 < s.size := by omega
    have hE : s.toList.isEmpty = false := by rw [empty_of]; exact decide_eq_false h0
    rw [gname_eq s hp]
    by_cases h1 : s.size ≤ 32
    · cases hL : lz s[0].toNat with
      | true =>
        have := gname_loop s w hp h1 hL hE
        simpa [h1] using this
      | false =>
        have h1' : ¬ 32 < (s.size : Int) := by omega
        rw [Bool.and_false, Bool.false_and]
        go_enter Tryd.func31, Tryd.ntmps31
        go_wp2_with (first
          | (go_at_call 46; refine (letter_any _ _).mono ?_; rintro e w ⟨rfl, rfl⟩)
          | (go_at_call 47; refine (digit_any _ _).mono ?_; rintro e w ⟨rfl, rfl⟩))
        go_ret
        exact ⟨rfl, rfl⟩
    · have h1' : 32 < (s.size : Int) := by omega
      rw [show decide (s.size ≤ 32) = false from decide_eq_false h1, Bool.false_and, Bool.false_and]
      clear h1
      go_enter Tryd.func31, Tryd.ntmps31
      go_wp2
      go_ret
      exact ⟨rfl, rfl⟩
end Go.Proofs.YtbhoplmbiomogaaDoor
