import Derived.Test.YtnchamenhpppdaaDoorDcr
import Derived.Laws.BytesArg
import Derived.Laws.Concat
namespace Go.Proofs.YtnchamenhpppdaaDoor
open Go.ChangeShapes Go.WideShapes Go.ChangeAt Go.RowKit

/-- A number's digits; none of 0. -/
def dds (n : Nat) : List UInt8 := if n = 0 then [] else dds (n / 10) ++ [UInt8.ofNat (48 + n % 10)]
  termination_by n
  decreasing_by omega
theorem dds_zero : dds 0 = [] := by rw [dds, if_pos rfl]
theorem dds_pos {n : Nat} (h : n ≠ 0) : dds n = dds (n / 10) ++ [UInt8.ofNat (48 + n % 10)] := by rw [dds, if_neg h]
theorem dig_nat (n : Nat) : (UInt8.ofNat (48 + n % 10)).toNat = 48 + n % 10 := by rw [UInt8.toNat_ofNat']; omega
theorem dval_dds (n : Nat) : dval 0 (dds n) = n := by
  induction n using Nat.strongRecOn with
  | ind n ih =>
    by_cases h : n = 0
    · subst h; rw [dds_zero]; rfl
    · rw [dds_pos h, dval_append, ih (n / 10) (by omega), dval_cons, dval_nil, dig_nat]; omega
theorem all_dds (n : Nat) : (dds n).all isD = true := by
  induction n using Nat.strongRecOn with
  | ind n ih =>
    by_cases h : n = 0
    · subst h; rw [dds_zero]; rfl
    · rw [dds_pos h, List.all_append, ih (n / 10) (by omega), List.all_cons, List.all_nil, isD, dig_nat]
      simp; omega
theorem dds_len : ∀ (k n : Nat), n < 10 ^ k → (dds n).length ≤ k
  | 0, n, h => by
    obtain rfl : n = 0 := by simp at h; exact h
    rw [dds_zero]; simp
  | k + 1, n, h => by
    by_cases h0 : n = 0
    · subst h0; rw [dds_zero]; simp
    · rw [dds_pos h0, List.length_append]
      have := dds_len k (n / 10) (by rw [Nat.pow_succ] at h; omega)
      simp; omega
theorem dds_ne {n : Nat} (h : n ≠ 0) : dds n ≠ [] := by rw [dds_pos h]; simp
/-- A number's decimal text. -/
def dl (v : Int) : List UInt8 := if v = 0 then [48] else if v < 0 then 45 :: dds v.natAbs else dds v.natAbs
theorem dl_len (v : Int) (h0 : -9223372036854775808 ≤ v) (h1 : v ≤ 9223372036854775807) : 1 ≤ (dl v).length ∧ (dl v).length ≤ 21 := by
  unfold dl
  split
  · simp
  · rename_i h
    have hl := dds_len 20 v.natAbs (by omega)
    have hp : 0 < (dds v.natAbs).length := List.length_pos_iff.2 (dds_ne (by omega))
    split
    · simp; omega
    · omega
/-- Noughts ahead. -/
def zl (k : Nat) : List UInt8 := List.replicate k 48
theorem dval_zl (k : Nat) (l : List UInt8) : dval 0 (zl k ++ l) = dval 0 l := by
  rw [dval_append]
  have : dval 0 (zl k) = 0 := by
    induction k with
    | zero => rfl
    | succ k ih => rw [zl, List.replicate_succ', dval_append, ← zl, ih, dval_cons, dval_nil]; rfl
  rw [this]
theorem all_zl (k : Nat) : (zl k).all isD = true := by
  rw [zl, List.all_replicate]
  split <;> rfl
theorem neg_of_all {l : List UInt8} (h : l.all isD = true) : ¬ neg l = true := by
  match l, h with
  | [], _ => simp [neg]
  | c :: r, h =>
    rw [List.all_cons, Bool.and_eq_true] at h
    have := of_decide_eq_true h.1
    simp only [neg, decide_eq_true_eq]
    omega
/-- The long text: noughts ahead of the digits, behind the sign. -/
def ll (v : Int) (k : Nat) : List UInt8 := if v < 0 then 45 :: (zl k ++ dds v.natAbs) else zl k ++ dl v
theorem ll_zero (v : Int) : ll v 0 = dl v := by
  unfold ll dl zl
  split
  · rw [if_neg (by omega)]; rfl
  · rfl
theorem dec_ll (v : Int) (k : Nat) (h0 : -9223372036854775808 ≤ v) (h1 : v ≤ 9223372036854775807) : dec (ll v k) = some v := by
  unfold ll
  split
  · rename_i hv
    have hn : neg (45 :: (zl k ++ dds v.natAbs)) = true := rfl
    have hb : body (45 :: (zl k ++ dds v.natAbs)) = zl k ++ dds v.natAbs := by rw [body, if_pos hn]; rfl
    refine dec_minus hb hn ?_ ?_ ?_ h0
    · rw [List.length_append]
      have hp : 0 < (dds v.natAbs).length := List.length_pos_iff.2 (dds_ne (by omega))
      omega
    · rw [List.all_append, all_zl, all_dds]; rfl
    · rw [dval_zl, dval_dds]; omega
  · rename_i hv
    have ha : (zl k ++ dl v).all isD = true := by
      rw [List.all_append, all_zl, dl]
      split
      · rfl
      · rw [all_dds]; rfl
    have hn := neg_of_all ha
    have hb : body (zl k ++ dl v) = zl k ++ dl v := by rw [body, if_neg hn]
    have hd : dval 0 (zl k ++ dl v) = v.natAbs := by
      rw [dval_zl, dl]
      split
      · rename_i h; subst h; rfl
      · exact dval_dds _
    have := dec_plain (z := -v) hb hn (by have := (dl_len v h0 h1).1; rw [List.length_append]; omega) ha (by rw [hd]; omega) (by omega)
    rwa [Int.neg_neg] at this
/-- A byte that is no digit, put in. -/
theorem dec_put (A B : List UInt8) (c : UInt8) (hc : isD c = false) (h : A ≠ [] ∨ c.toNat ≠ 45 ∨ B.all isD = false) : dec (A ++ c :: B) = none := by
  unfold dec
  rw [if_pos]
  right
  match A, h with
  | [], h =>
    rw [List.nil_append]
    by_cases e : c.toNat = 45
    · have hn : neg (c :: B) = true := decide_eq_true e
      rw [body, if_pos hn]
      rcases h with h | h | h
      · exact absurd rfl h
      · exact absurd e h
      · exact h
    · have hn : ¬ neg (c :: B) = true := by simp [neg, e]
      rw [body, if_neg hn, List.all_cons, hc]; rfl
  | a :: A, _ =>
    have q : ∀ l : List UInt8, (l ++ c :: B).all isD = false := by
      intro l
      rw [List.all_append, List.all_cons, hc]; simp
    rw [body]
    split
    · exact q A
    · exact q (a :: A)

theorem one_conv (w : World) (X : Int) : (convert 26 9 (.slice (some ⟨w.heap.size, 0, none⟩) 1 1)).run Tryd.prog (w.alloc (.cells #[.int .u8 X] 5)) = .ok (.string (strOfNums [X])) (w.alloc (.cells #[.int .u8 X] 5)) :=
  run_convert_bytes_arg (P := Tryd.prog) (w.alloc (.cells #[.int .u8 X] 5)) 26 5 Tryd.underlying26 Tryd.underlying5 w.heap.size 0 1 1 [X] rfl (by
    intro i hi
    obtain rfl : i = 0 := by omega
    simp) 9 Tryd.underlying9
theorem one_conv_drew (w : World) (X : Int) : (convert 26 9 (.slice (some ⟨w.heap.size, 0, none⟩) 1 1)).run Tryd.prog (w.alloc (.cells #[.int .u8 X] 5)).drew = .ok (.string (strOfNums [X])) (w.alloc (.cells #[.int .u8 X] 5)).drew :=
  run_convert_bytes_arg (P := Tryd.prog) (w.alloc (.cells #[.int .u8 X] 5)).drew 26 5 Tryd.underlying26 Tryd.underlying5 w.heap.size 0 1 1 [X] rfl (by
    intro i hi
    obtain rfl : i = 0 := by omega
    simp) 9 Tryd.underlying9
theorem str_size_one (X : Int) : (strOfNums [X]).size = 1 := strOfNums_size [X]

theorem app_list (a b : ByteArray) : (a ++ b).data.toList = a.data.toList ++ b.data.toList := by rw [ByteArray.data_append, Array.toList_append]
theorem dds_step (m : Nat) (h : m ≠ 0) (S : ByteArray) : dds (m / 10) ++ (strOfNums [48 + (m : Int) % 10] ++ S).data.toList = dds m ++ S.data.toList := by
  rw [app_list, strOfNums_data, dds_pos h, List.append_assoc, List.map_cons, List.map_nil, show (48 + (m : Int) % 10).toNat = 48 + m % 10 by omega]
theorem dds_small (v : Int) (m : Nat) (S : ByteArray) (h0 : -9223372036854775808 ≤ v) (h1 : v ≤ 9223372036854775807) (e : dds m ++ S.data.toList = dds v.natAbs) : S.size ≤ 20 := by
  have e := congrArg List.length e
  have hl := dds_len 20 v.natAbs (by omega)
  have es : S.data.toList.length = S.size := Array.length_toList
  rw [List.length_append] at e
  omega

set_option maxRecDepth 20000 in
set_option maxHeartbeats 1000000 in
theorem decimal_pos (v : Int) (w : World) (h0 : 0 < v) (h1 : v ≤ 9223372036854775807) :
    Calls Tryd.prog 11 #[.int .i64 v] w fun e w' => ∃ S : ByteArray, e = .returned (.string S) ∧ S.data.toList = dds v.natAbs ∧ Below w.heap.size w w' := by
  have hv0 : ¬ v = 0 := by omega
  have hv1 : ¬ v < 0 := by omega
  go_enter Tryd.func11, Tryd.ntmps11
  go_wp2
  go_loopw [3, 4] (fun s x wr => ∃ (m : Nat) (S : ByteArray), m ≤ 9223372036854775807 ∧ x = .int .i64 m ∧ s = .string S ∧ Hid (dds m ++ S.data.toList = dds v.natAbs) ∧ Below w.heap.size w wr) (fun _ x _ => (intOf x).toNat)
  case atStart => exact ⟨v.toNat, ⟨#[]⟩, by omega, congrArg _ (by omega), rfl, hideQ (by rw [show v.toNat = v.natAbs by omega]; simp), Below.refl _ _⟩
  case round =>
    obtain ⟨m, S, hm, rfl, rfl, hS, hbel⟩ := hrel
    by_cases hz : m = 0
    · subst hz
      go_wp2
      go_ret
      exact ⟨S, rfl, by rw [← hS.out, dds_zero]; rfl, hbel⟩
    · have hz' : ¬ (m : Int) = 0 := by omega
      have hsz : S.size ≤ 20 := dds_small v m S (by omega) h1 hS.out
      have hcv := one_conv wr
      have h1z := str_size_one
      go_wp2
      go_roundw
      case rel => exact ⟨m / 10, _, by omega, congrArg _ (by omega), rfl, hideQ (by rw [dds_step m hz S]; exact hS.out), hbel.alloc hbel.size _⟩
      case measure => simp [intOf]; omega
theorem neg_tmod (m : Nat) : (-(m : Int)).tmod 10 = -((m % 10 : Nat) : Int) := by rw [Int.neg_tmod]; rfl
theorem neg_tdiv (m : Nat) : (-(m : Int)).tdiv 10 = -((m / 10 : Nat) : Int) := by rw [Int.neg_tdiv]; rfl
set_option maxRecDepth 20000 in
set_option maxHeartbeats 1000000 in
theorem decimal_neg (v : Int) (w : World) (h0 : v < 0) (h1 : -9223372036854775808 ≤ v) :
    Calls Tryd.prog 11 #[.int .i64 v] w fun e w' => ∃ S : ByteArray, e = .returned (.string S) ∧ S.data.toList = 45 :: dds v.natAbs ∧ Below w.heap.size w w' := by
  have hv0 : ¬ v = 0 := by omega
  go_enter Tryd.func11, Tryd.ntmps11
  go_wp2
  go_loopw [3, 4] (fun s x wr => ∃ (m : Nat) (S : ByteArray), m ≤ 9223372036854775808 ∧ x = .int .i64 (-(m : Int)) ∧ s = .string S ∧ Hid (dds m ++ S.data.toList = dds v.natAbs) ∧ Below w.heap.size w wr) (fun _ x _ => (-(intOf x)).toNat)
  case atStart => exact ⟨v.natAbs, ⟨#[]⟩, by omega, congrArg _ (by omega), rfl, hideQ (by simp), Below.refl _ _⟩
  case round =>
    obtain ⟨m, S, hm, rfl, rfl, hS, hbel⟩ := hrel
    by_cases hz : m = 0
    · subst hz
      have hsz : S.size ≤ 20 := dds_small v 0 S h1 (by omega) hS.out
      go_wp2
      go_ret
      exact ⟨_, rfl, by rw [app_list, ← hS.out, dds_zero]; rfl, hbel⟩
    · have hz' : ¬ (m : Int) = 0 := by omega
      have hsz : S.size ≤ 20 := dds_small v m S h1 (by omega) hS.out
      have hcv := one_conv wr
      have h1z := str_size_one
      have q1 := neg_tmod m
      have q2 := neg_tdiv m
      go_wp2
      all_goals
        go_roundw
        case rel => first
          | exact ⟨m / 10, _, by omega, congrArg _ (by omega), rfl, hideQ (by rw [dds_step m hz S]; exact hS.out), hbel.alloc hbel.size _⟩
          | exact ⟨m / 10, _, by omega, congrArg _ (by omega), rfl, hideQ (by rw [show (48 + -((m : Int) % 10)) = 48 + (m : Int) % 10 by omega, dds_step m hz S]; exact hS.out), hbel.alloc hbel.size _⟩
        case measure => simp [intOf]; omega
set_option maxRecDepth 20000 in
theorem decimal_zero (w : World) :
    Calls Tryd.prog 11 #[.int .i64 0] w fun e w' => ∃ S : ByteArray, e = .returned (.string S) ∧ S.data.toList = [48] ∧ Below w.heap.size w w' := by
  go_enter Tryd.func11, Tryd.ntmps11
  go_wp2
  go_ret
  exact ⟨_, rfl, rfl, Below.refl _ _⟩
theorem decimal_any (v : Int) (w : World) (h0 : -9223372036854775808 ≤ v) (h1 : v ≤ 9223372036854775807) :
    Calls Tryd.prog 11 #[.int .i64 v] w fun e w' => ∃ S : ByteArray, e = .returned (.string S) ∧ S.data.toList = dl v ∧ Below w.heap.size w w' := by
  unfold dl
  by_cases hz : v = 0
  · subst hz
    rw [if_pos rfl]
    exact decimal_zero w
  · rw [if_neg hz]
    by_cases hn : v < 0
    · rw [if_pos hn]
      exact decimal_neg v w hn h0
    · rw [if_neg hn]
      exact decimal_pos v w (by omega) h1
theorem ext_list (L : ByteArray) (a b : Nat) : (L.extract a b).data.toList = (L.data.toList.take b).drop a := by
  rw [ByteArray.data_extract, Array.toList_extract, List.extract_eq_take_drop, List.drop_take]
theorem put_list (L : ByteArray) (q : Nat) (c : Int) : (((L.extract 0 q) ++ strOfNums [c]) ++ L.extract q L.size).data.toList = L.data.toList.take q ++ UInt8.ofNat c.toNat :: L.data.toList.drop q := by
  rw [app_list, app_list, ext_list, ext_list, strOfNums_data, List.drop_zero, List.take_of_length_le (l := L.data.toList) (i := L.size) (by rw [Array.length_toList]; exact Nat.le_refl _), List.append_assoc]
  rfl
theorem put_none (L : ByteArray) (q : Nat) (c : Int) (h0 : 0 ≤ c) (h1 : c ≤ 255) (hc : ¬ (48 ≤ c ∧ c ≤ 57)) (hq : q < L.size) (h : q ≠ 0 ∨ c ≠ 45 ∨ L.data.toList.all isD = false) :
    dec (((L.extract 0 q) ++ strOfNums [c]) ++ L.extract q L.size).data.toList = none := by
  have e : (UInt8.ofNat c.toNat).toNat = c.toNat := by rw [UInt8.toNat_ofNat']; omega
  have hl : L.data.toList.length = L.size := Array.length_toList
  rw [put_list]
  refine dec_put _ _ _ ?_ ?_
  · simp only [isD, decide_eq_false_iff_not]; rw [e]; omega
  · by_cases hq0 : q = 0
    · subst hq0
      rcases h with h | h | h
      · exact absurd rfl h
      · exact .inr (.inl (by rw [e]; omega))
      · exact .inr (.inr (by rw [List.drop_zero]; exact h))
    · left
      intro e2
      have := congrArg List.length e2
      rw [List.length_take, List.length_nil] at this
      omega
theorem put_size (L : ByteArray) (q : Nat) (c : Int) (h : L.size ≤ 3000) : (((L.extract 0 q) ++ strOfNums [c]) ++ L.extract q L.size).size ≤ 4000 := by
  have e : (((L.extract 0 q) ++ strOfNums [c]) ++ L.extract q L.size).data.toList.length = (((L.extract 0 q) ++ strOfNums [c]) ++ L.extract q L.size).size := Array.length_toList
  have hl : L.data.toList.length = L.size := Array.length_toList
  rw [← e, put_list, List.length_append, List.length_take, List.length_cons, List.length_drop]
  omega
end Go.Proofs.YtnchamenhpppdaaDoor
