import Derived.Test.YtacmmclamkhpcaaDoorGro
import Derived.Lib.Strings
namespace Go.Proofs.YtacmmclamkhpcaaDoor
open Go.RowKit

def bq (l : List UInt8) : ByteArray := ⟨l.toArray⟩
theorem bq_size (l : List UInt8) : (bq l).size = l.length := by show l.toArray.size = _; rw [List.size_toArray]
theorem bq_data (l : List UInt8) : (bq l).data.toList = l := rfl
theorem bq_of (s : ByteArray) : bq s.data.toList = s := rfl
theorem bq_list (l : List UInt8) : (bq l).toList = l := by unfold bq; rw [ByteArray.toList_mk]
theorem bq_append (a b : List UInt8) : bq a ++ bq b = bq (a ++ b) := by
  apply ByteArray.ext
  rw [ByteArray.data_append]
  show a.toArray ++ b.toArray = (a ++ b).toArray
  rw [List.append_toArray]
theorem bq_extract (l : List UInt8) (a b : Nat) : (bq l).extract a b = bq ((l.drop a).take (b - a)) := Lib.extract_eq (bq l) a b
theorem bq_get (l : List UInt8) (k : Nat) (h : k < (bq l).size) : (bq l)[k] = l[k]'(by rw [bq_size] at h; exact h) := rfl
/-- The vowels, from the left; the measure. -/
def isVw (c : UInt8) : Bool := c == 97 || (c == 101 || (c == 105 || (c == 111 || c == 117)))
def vb (p : Bool) (c : UInt8) : Bool := isVw c || (c == 121 && !p)
def vw : Bool → List UInt8 → List Bool
  | _, [] => []
  | p, c :: l => vb p c :: vw (vb p c) l
def vwl (l : List UInt8) : List Bool := vw true l
theorem vw_len (p : Bool) (l : List UInt8) : (vw p l).length = l.length := by
  induction l generalizing p with
  | nil => rfl
  | cons c l ih => simp only [vw, List.length_cons, ih]
theorem vwl_len (l : List UInt8) : (vwl l).length = l.length := vw_len true l
theorem vw_get (p : Bool) (l : List UInt8) (k : Nat) (h : k < l.length) : (vw p l)[k]'(by rw [vw_len]; exact h) = vb (if k = 0 then p else (vw p l).getD (k - 1) false) l[k] := by
  induction l generalizing p k with
  | nil => simp at h
  | cons c l ih =>
    cases k with
    | zero => rfl
    | succ k =>
      have hk : k < l.length := by simpa using h
      show (vw (vb p c) l)[k]'(by rw [vw_len]; exact hk) = vb (if k + 1 = 0 then p else (vb p c :: vw (vb p c) l).getD (k + 1 - 1) false) (l[k]'hk)
      rw [ih (vb p c) k hk, if_neg (Nat.succ_ne_zero k)]
      cases k with
      | zero => rfl
      | succ k => rfl
def mea : List Bool → Nat
  | a :: b :: r => (if a && !b then 1 else 0) + mea (b :: r)
  | _ => 0
def meas (l : List UInt8) : Nat := mea (vwl l)
def hasV (l : List UInt8) : Bool := (vwl l).any id
/-- The number of places up to k where a vowel is followed by a consonant. -/
def meaK (v : List Bool) (k : Nat) : Nat := mea (v.take k)
theorem mea_snoc (v : List Bool) (a b : Bool) : mea (v ++ [a] ++ [b]) = mea (v ++ [a]) + (if a && !b then 1 else 0) := by
  induction v with
  | nil => show _ + mea [b] = mea [a] + _; simp [mea]
  | cons x v ih =>
    cases v with
    | nil => simp only [List.nil_append, List.cons_append] at ih ⊢; simp only [mea] at ih ⊢; omega
    | cons y v => simp only [List.cons_append] at ih ⊢; simp only [mea]; rw [ih]; omega
theorem meaK_next (v : List Bool) (k : Nat) (h : k + 1 < v.length) : meaK v (k + 2) = meaK v (k + 1) + (if v[k] && !v[k + 1] then 1 else 0) := by
  unfold meaK
  rw [List.take_succ_eq_append_getElem h, List.take_succ_eq_append_getElem (by omega : k < v.length), mea_snoc]
theorem mea_le (v : List Bool) : mea v ≤ v.length := by
  induction v with
  | nil => exact Nat.le_refl _
  | cons a v ih =>
    cases v with
    | nil => exact Nat.zero_le _
    | cons b v =>
      simp only [mea, List.length_cons] at ih ⊢
      split <;> omega
theorem meaK_one (v : List Bool) : meaK v 1 = 0 := by
  unfold meaK
  cases v with
  | nil => rfl
  | cons a v => rfl
theorem meas_le (l : List UInt8) : meas l ≤ l.length := by unfold meas; have := mea_le (vwl l); rw [vwl_len] at this; exact this
/-- Endings. -/
abbrev sfx (l e : List UInt8) : Bool := Lib.hasSuffix l e
def cutE (l e : List UInt8) : List UInt8 := l.take (l.length - e.length)
theorem sfx_le {l e : List UInt8} (h : sfx l e = true) : e.length ≤ l.length := by
  obtain ⟨t, rfl⟩ := List.isSuffixOf_iff_suffix.1 h
  rw [List.length_append]; omega
theorem sfx_iff {l e : List UInt8} : sfx l e = true ↔ e.length ≤ l.length ∧ l.drop (l.length - e.length) = e := by
  have := Lib.hasSuffix_of_drop l e
  show Lib.hasSuffix l e = true ↔ _
  rw [← this, Bool.and_eq_true, decide_eq_true_eq, beq_iff_eq]
theorem sfx_eq {l e : List UInt8} (h : sfx l e = true) : cutE l e ++ e = l := by
  have := (sfx_iff.1 h).2
  unfold cutE
  conv => lhs; rhs; rw [← this]
  exact List.take_append_drop _ _
theorem cut_len {l e : List UInt8} (h : sfx l e = true) : (cutE l e).length + e.length = l.length := by
  rw [← List.length_append, sfx_eq h]
theorem trim_yes {l e : List UInt8} (h : sfx l e = true) : Lib.trimSuffix l e = cutE l e := by unfold Lib.trimSuffix; rw [if_pos h]; rfl
theorem trim_no {l e : List UInt8} (h : sfx l e = false) : Lib.trimSuffix l e = l := by unfold Lib.trimSuffix; rw [if_neg (by rw [show Lib.hasSuffix l e = false from h]; decide)]
def vat (l : List UInt8) (k : Nat) : Bool := (vwl l).getD k false
def dbl (l : List UInt8) : Bool := decide (2 ≤ l.length) && (l.getD (l.length - 1) 0 == l.getD (l.length - 2) 0) && !vat l (l.length - 1)
def wxy (l : List UInt8) : Bool := sfx l [119] || (sfx l [120] || sfx l [121])
def sht (l : List UInt8) : Bool := decide (3 ≤ l.length) && !wxy l && (!vat l (l.length - 3) && vat l (l.length - 2) && !vat l (l.length - 1))
/-- A list of endings. -/
abbrev Tbl := List (List UInt8 × List UInt8)
def lk (T : Tbl) (e : List UInt8) : Option (List UInt8) := (T.find? (fun p => p.1 == e)).map (·.2)
def repK (T : Tbl) (m : Nat) (l : List UInt8) : Nat → List UInt8
  | 0 => l
  | k + 1 => if k + 1 ≤ l.length then
      match lk T (l.drop (l.length - (k + 1))) with
      | some t => if meas (l.take (l.length - (k + 1))) < m then l else l.take (l.length - (k + 1)) ++ t
      | none => repK T m l k
    else repK T m l k
def rep (T : Tbl) (m : Nat) (l : List UInt8) : List UInt8 := repK T m l 7
def tb1 : Tbl := [([115, 115, 101, 115], [115, 115]), ([105, 101, 115], [105]), ([115, 115], [115, 115]), ([115], [])]
def tb2 : Tbl := [([97, 116, 105, 111, 110, 97, 108], [97, 116, 101]), ([116, 105, 111, 110, 97, 108], [116, 105, 111, 110]), ([101, 110, 99, 105], [101, 110, 99, 101]), ([97, 110, 99, 105], [97, 110, 99, 101]), ([105, 122, 101, 114], [105, 122, 101]), ([97, 98, 108, 105], [97, 98, 108, 101]), ([97, 108, 108, 105], [97, 108]), ([101, 110, 116, 108, 105], [101, 110, 116]), ([101, 108, 105], [101]), ([111, 117, 115, 108, 105], [111, 117, 115]), ([105, 122, 97, 116, 105, 111, 110], [105, 122, 101]), ([97, 116, 105, 111, 110], [97, 116, 101]), ([97, 116, 111, 114], [97, 116, 101]), ([97, 108, 105, 115, 109], [97, 108]), ([105, 118, 101, 110, 101, 115, 115], [105, 118, 101]), ([102, 117, 108, 110, 101, 115, 115], [102, 117, 108]), ([111, 117, 115, 110, 101, 115, 115], [111, 117, 115]), ([97, 108, 105, 116, 105], [97, 108]), ([105, 118, 105, 116, 105], [105, 118, 101]), ([98, 105, 108, 105, 116, 105], [98, 108, 101])]
def tb3 : Tbl := [([105, 99, 97, 116, 101], [105, 99]), ([97, 116, 105, 118, 101], []), ([97, 108, 105, 122, 101], [97, 108]), ([105, 99, 105, 116, 105], [105, 99]), ([105, 99, 97, 108], [105, 99]), ([102, 117, 108], []), ([110, 101, 115, 115], [])]
def tb4 : Tbl := [([97, 108], []), ([97, 110, 99, 101], []), ([101, 110, 99, 101], []), ([101, 114], []), ([105, 99], []), ([97, 98, 108, 101], []), ([105, 98, 108, 101], []), ([97, 110, 116], []), ([101, 109, 101, 110, 116], []), ([109, 101, 110, 116], []), ([101, 110, 116], []), ([105, 111, 110], []), ([111, 117], []), ([105, 115, 109], []), ([97, 116, 101], []), ([105, 116, 105], []), ([111, 117, 115], []), ([105, 118, 101], []), ([105, 122, 101], [])]
def mend (l : List UInt8) : List UInt8 :=
  if sfx l [97, 116] || (sfx l [98, 108] || sfx l [105, 122]) then l ++ [101]
  else if dbl l && !(sfx l [108] || (sfx l [115] || sfx l [122])) then l.take (l.length - 1)
  else if decide (meas l = 1) && sht l then l ++ [101] else l
def st1b (l : List UInt8) : List UInt8 :=
  if sfx l [101, 101, 100] then (if 0 < meas (cutE l [101, 101, 100]) then cutE l [101, 101, 100] ++ [101, 101] else l)
  else if sfx l [101, 100] then (if hasV (cutE l [101, 100]) then mend (cutE l [101, 100]) else l)
  else if sfx l [105, 110, 103] then (if hasV (cutE l [105, 110, 103]) then mend (cutE l [105, 110, 103]) else l)
  else l
def st1c (l : List UInt8) : List UInt8 := if sfx l [121] && hasV (cutE l [121]) then cutE l [121] ++ [105] else l
def st4 (l : List UInt8) : List UInt8 := if sfx l [105, 111, 110] && !(sfx l [115, 105, 111, 110] || sfx l [116, 105, 111, 110]) then l else rep tb4 2 l
def st5a (l : List UInt8) : List UInt8 := if sfx l [101] then (if decide (1 < meas (cutE l [101])) || (decide (meas (cutE l [101]) = 1) && !sht (cutE l [101])) then cutE l [101] else l) else l
def st5b (l : List UInt8) : List UInt8 := if sfx l [108, 108] && decide (1 < meas l) then l.take (l.length - 1) else l
def short (l : List UInt8) : List UInt8 := st5b (st5a (st4 (rep tb3 1 (rep tb2 1 (st1c (st1b (rep tb1 0 l)))))))
def isSm (c : UInt8) : Bool := decide (97 ≤ c.toNat) && decide (c.toNat ≤ 122)
def posx (l : List UInt8) : List UInt8 := if 2 < l.length then Lib.trimSuffix l [39, 115] else l
def stem (l : List UInt8) : List UInt8 := if 3 ≤ (posx l).length ∧ (posx l).all isSm = true then short (posx l) else posx l
theorem stem_motoring : stem [109, 111, 116, 111, 114, 105, 110, 103] = [109, 111, 116, 111, 114] := by decide +kernel

theorem repK_le (T : Tbl) (hT : ∀ p ∈ T, p.2.length ≤ p.1.length) (m : Nat) (l : List UInt8) (k : Nat) : (repK T m l k).length ≤ l.length := by
  induction k with
  | zero => exact Nat.le_refl _
  | succ k ih =>
    unfold repK
    split
    · rename_i hk
      split
      · rename_i t ht
        split
        · exact Nat.le_refl _
        · unfold lk at ht
          obtain ⟨p, hp, rfl⟩ := Option.map_eq_some_iff.1 ht
          have h1 := hT p (List.mem_of_find?_eq_some hp)
          have h2 := List.find?_some hp
          have h3 : p.1 = l.drop (l.length - (k + 1)) := eq_of_beq h2
          rw [h3, List.length_drop] at h1
          rw [List.length_append, List.length_take]
          omega
      · exact ih
    · exact ih
theorem tb1_le : ∀ p ∈ tb1, p.2.length ≤ p.1.length := by decide +kernel
theorem tb2_le : ∀ p ∈ tb2, p.2.length ≤ p.1.length := by decide +kernel
theorem tb3_le : ∀ p ∈ tb3, p.2.length ≤ p.1.length := by decide +kernel
theorem tb4_le : ∀ p ∈ tb4, p.2.length ≤ p.1.length := by decide +kernel
theorem rep1_le (m : Nat) (l : List UInt8) : (rep tb1 m l).length ≤ l.length := repK_le tb1 tb1_le m l 7
theorem rep2_le (m : Nat) (l : List UInt8) : (rep tb2 m l).length ≤ l.length := repK_le tb2 tb2_le m l 7
theorem rep3_le (m : Nat) (l : List UInt8) : (rep tb3 m l).length ≤ l.length := repK_le tb3 tb3_le m l 7
theorem rep4_le (m : Nat) (l : List UInt8) : (rep tb4 m l).length ≤ l.length := repK_le tb4 tb4_le m l 7
theorem mend_le (l : List UInt8) : (mend l).length ≤ l.length + 1 := by
  unfold mend
  split
  · rw [List.length_append]; exact Nat.le_refl _
  · split
    · rw [List.length_take]; omega
    · split
      · rw [List.length_append]; exact Nat.le_refl _
      · omega
theorem st1b_le (l : List UInt8) : (st1b l).length ≤ l.length := by
  unfold st1b
  split
  · rename_i h
    split
    · have := cut_len h
      rw [List.length_append]; simp only [List.length_cons, List.length_nil] at this ⊢; omega
    · exact Nat.le_refl _
  · split
    · rename_i h
      split
      · have := cut_len h
        have := mend_le (cutE l [101, 100])
        simp only [List.length_cons, List.length_nil] at *; omega
      · exact Nat.le_refl _
    · split
      · rename_i h
        split
        · have := cut_len h
          have := mend_le (cutE l [105, 110, 103])
          simp only [List.length_cons, List.length_nil] at *; omega
        · exact Nat.le_refl _
      · exact Nat.le_refl _
theorem st1c_le (l : List UInt8) : (st1c l).length ≤ l.length := by
  unfold st1c
  split
  · rename_i h
    rw [Bool.and_eq_true] at h
    have := cut_len h.1
    rw [List.length_append]; simp only [List.length_cons, List.length_nil] at this ⊢; omega
  · exact Nat.le_refl _
theorem st4_le (l : List UInt8) : (st4 l).length ≤ l.length := by
  unfold st4
  split
  · exact Nat.le_refl _
  · exact rep4_le 2 l
theorem st5a_le (l : List UInt8) : (st5a l).length ≤ l.length := by
  unfold st5a
  split
  · split
    · unfold cutE; rw [List.length_take]; omega
    · exact Nat.le_refl _
  · exact Nat.le_refl _
theorem st5b_le (l : List UInt8) : (st5b l).length ≤ l.length := by
  unfold st5b
  split
  · rw [List.length_take]; omega
  · exact Nat.le_refl _
theorem short_le (l : List UInt8) : (short l).length ≤ l.length :=
  Nat.le_trans (st5b_le _) (Nat.le_trans (st5a_le _) (Nat.le_trans (st4_le _) (Nat.le_trans (rep3_le _ _) (Nat.le_trans (rep2_le _ _) (Nat.le_trans (st1c_le _) (Nat.le_trans (st1b_le _) (rep1_le _ _)))))))
theorem posx_le (l : List UInt8) : (posx l).length ≤ l.length := by
  unfold posx Lib.trimSuffix
  split
  · split
    · rw [List.length_take]; omega
    · exact Nat.le_refl _
  · exact Nat.le_refl _
theorem stem_le (l : List UInt8) : (stem l).length ≤ l.length := by
  unfold stem
  split
  · exact Nat.le_trans (short_le _) (posx_le l)
  · exact posx_le l
end Go.Proofs.YtacmmclamkhpcaaDoor
