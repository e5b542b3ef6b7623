import Derived.Test.YtnkmjhcddegkhaaDoorStm
namespace Go.Proofs.YtnkmjhcddegkhaaDoor
open Go.RowKit

def isDg (c : UInt8) : Bool := decide (48 ≤ c.toNat) && decide (c.toNat ≤ 57)
def isCp (c : UInt8) : Bool := decide (65 ≤ c.toNat) && decide (c.toNat ≤ 90)
def isHi (c : UInt8) : Bool := decide (128 ≤ c.toNat)
/-- A word byte; a byte that stands in a word. -/
def wb (c : UInt8) : Bool := isSm c || (isCp c || (isDg c || (c == 95 || isHi c)))
def mk (a c b : UInt8) : Bool := (c == 39 && (wb a && wb b)) || (c == 46 && (isDg a && isDg b))
def inw (l : List UInt8) (k : Nat) : Bool := wb (l.getD k 0) || (decide (0 < k) && decide (k + 1 < l.length) && mk (l.getD (k - 1) 0) (l.getD k 0) (l.getD (k + 1) 0))
/-- Where the word that holds k ends; the words from k on. -/
def wend (l : List UInt8) : Nat → Nat → Nat
  | 0, k => k
  | f + 1, k => if k < l.length ∧ inw l k = true then wend l f (k + 1) else k
def wds (l : List UInt8) : Nat → Nat → List (Nat × Nat)
  | 0, _ => []
  | f + 1, k => if k < l.length then (if inw l k = true then (k, wend l (l.length - k) k) :: wds l f (wend l (l.length - k) k) else wds l f (k + 1)) else []
def words (l : List UInt8) : List (Nat × Nat) := wds l l.length 0
theorem wend_ge (l : List UInt8) (f k : Nat) : k ≤ wend l f k := by
  induction f generalizing k with
  | zero => exact Nat.le_refl _
  | succ f ih =>
    unfold wend
    split
    · exact Nat.le_trans (Nat.le_succ k) (ih (k + 1))
    · exact Nat.le_refl _
theorem wend_le (l : List UInt8) (f k : Nat) (h : k ≤ l.length) : wend l f k ≤ l.length := by
  induction f generalizing k with
  | zero => exact h
  | succ f ih =>
    unfold wend
    split
    · rename_i hk; exact ih (k + 1) hk.1
    · exact h
/-- Enough is enough. -/
theorem wend_fuel (l : List UInt8) (f g k : Nat) (hf : l.length - k ≤ f) (hg : l.length - k ≤ g) : wend l f k = wend l g k := by
  induction f generalizing k g with
  | zero =>
    have : l.length ≤ k := by omega
    cases g with
    | zero => rfl
    | succ g => unfold wend; rw [if_neg (fun h => by omega)]
  | succ f ih =>
    cases g with
    | zero => unfold wend; rw [if_neg (fun h => by omega)]
    | succ g =>
      unfold wend
      split
      · exact ih g (k + 1) (by omega) (by omega)
      · rfl
def wE (l : List UInt8) (k : Nat) : Nat := wend l (l.length - k) k
theorem wE_step (l : List UInt8) (k : Nat) (h : k < l.length) (hi : inw l k = true) : wE l k = wE l (k + 1) := by
  unfold wE
  obtain ⟨d, hd⟩ : ∃ d, l.length - k = d + 1 := ⟨l.length - k - 1, by omega⟩
  rw [hd]
  show (if k < l.length ∧ inw l k = true then wend l d (k + 1) else k) = _
  rw [if_pos ⟨h, hi⟩]
  exact wend_fuel l _ _ _ (by omega) (by omega)
theorem wE_stop (l : List UInt8) (k : Nat) (h : ¬ (k < l.length ∧ inw l k = true)) : wE l k = k := by
  unfold wE
  cases l.length - k with
  | zero => rfl
  | succ d => show (if k < l.length ∧ inw l k = true then wend l d (k + 1) else k) = _; rw [if_neg h]
theorem wE_gt (l : List UInt8) (k : Nat) (h : k < l.length) (hi : inw l k = true) : k < wE l k := by
  rw [wE_step l k h hi]; exact wend_ge l _ _
theorem wE_le (l : List UInt8) (k : Nat) (h : k ≤ l.length) : wE l k ≤ l.length := wend_le l _ k h
theorem wds_fuel (l : List UInt8) (f g k : Nat) (hf : l.length - k ≤ f) (hg : l.length - k ≤ g) : wds l f k = wds l g k := by
  induction f generalizing k g with
  | zero =>
    cases g with
    | zero => rfl
    | succ g => show [] = (if k < l.length then _ else _); rw [if_neg (by omega)]
  | succ f ih =>
    cases g with
    | zero => show (if k < l.length then _ else _) = []; rw [if_neg (by omega)]
    | succ g =>
      show (if k < l.length then _ else _) = (if k < l.length then _ else _)
      by_cases hk : k < l.length
      · rw [if_pos hk, if_pos hk]
        by_cases hi : inw l k = true
        · have := wE_gt l k hk hi
          rw [if_pos hi, if_pos hi]
          unfold wE at this
          rw [ih g _ (by omega) (by omega)]
        · rw [if_neg hi, if_neg hi]
          exact ih g _ (by omega) (by omega)
      · rw [if_neg hk, if_neg hk]
def wF (l : List UInt8) (k : Nat) : List (Nat × Nat) := wds l (l.length - k) k
theorem wF_in (l : List UInt8) (k : Nat) (h : k < l.length) (hi : inw l k = true) : wF l k = (k, wE l k) :: wF l (wE l k) := by
  unfold wF
  obtain ⟨d, hd⟩ : ∃ d, l.length - k = d + 1 := ⟨l.length - k - 1, by omega⟩
  have hg := wE_gt l k h hi
  conv => lhs; rw [hd]
  show (if k < l.length then (if inw l k = true then (k, wE l k) :: wds l d (wE l k) else wds l d (k + 1)) else []) = _
  rw [if_pos h, if_pos hi, wds_fuel l d (l.length - wE l k) _ (by omega) (Nat.le_refl _)]
theorem wF_out (l : List UInt8) (k : Nat) (h : k < l.length) (hi : inw l k = false) : wF l k = wF l (k + 1) := by
  unfold wF
  obtain ⟨d, hd⟩ : ∃ d, l.length - k = d + 1 := ⟨l.length - k - 1, by omega⟩
  rw [hd]
  show (if k < l.length then (if inw l k = true then (k, wE l k) :: wds l d (wE l k) else wds l d (k + 1)) else []) = _
  rw [if_pos h, if_neg (by rw [hi]; decide)]
  exact wds_fuel l _ _ _ (by omega) (by omega)
theorem wF_end (l : List UInt8) (k : Nat) (h : l.length ≤ k) : wF l k = [] := by
  unfold wF
  rw [show l.length - k = 0 by omega]; rfl
theorem words_F (l : List UInt8) : words l = wF l 0 := rfl
theorem wF_len (l : List UInt8) (d k : Nat) (h : l.length - k ≤ d) : (wF l k).length ≤ l.length - k := by
  induction d generalizing k with
  | zero => rw [wF_end l k (by omega)]; exact Nat.zero_le _
  | succ d ih =>
    by_cases hk : k < l.length
    · cases hi : inw l k with
      | true =>
        have hg := wE_gt l k hk hi
        have := ih (wE l k) (by omega)
        rw [wF_in l k hk hi, List.length_cons]; omega
      | false =>
        have := ih (k + 1) (by omega)
        rw [wF_out l k hk hi]; omega
    · rw [wF_end l k (by omega)]; exact Nat.zero_le _
/-- A token's cells; those of the words, numbered from i on. -/
def wtx (l : List UInt8) (p : Nat × Nat) : List UInt8 := (l.drop p.1).take (p.2 - p.1)
def tkC (t : List UInt8) (v i s e : Int) : List Value := [.string (bq t), .int .i64 v, .int .i64 i, .int .i64 s, .int .i64 e]
def tks (l : List UInt8) : Nat → List (Nat × Nat) → List Value
  | _, [] => []
  | i, p :: r => tkC (wtx l p) 0 i p.1 p.2 ++ tks l (i + 1) r
theorem tks_snoc (l : List UInt8) (i : Nat) (a : List (Nat × Nat)) (p : Nat × Nat) : tks l i (a ++ [p]) = tks l i a ++ tkC (wtx l p) 0 (i + a.length : Nat) p.1 p.2 := by
  induction a generalizing i with
  | nil => show tkC _ _ _ _ _ ++ [] = [] ++ _; rw [List.append_nil]; rfl
  | cons q a ih =>
    show tkC _ _ _ _ _ ++ tks l (i + 1) (a ++ [p]) = (tkC _ _ _ _ _ ++ tks l (i + 1) a) ++ _
    rw [ih (i + 1), List.append_assoc, List.length_cons, show i + 1 + a.length = i + (a.length + 1) by omega]
theorem lives_words : words [105, 116, 39, 115, 32, 51, 46, 49, 52, 44, 32, 111, 107, 46] = [(0, 4), (5, 9), (11, 13)] := by decide +kernel
end Go.Proofs.YtnkmjhcddegkhaaDoor
