import Derived.Test.YtbhoplmbiomogaaDoorRdb2
namespace Go.Proofs.YtbhoplmbiomogaaDoor
open Go.ChangeShapes Go.WideShapes Go.ChangeAt Go.RowKit

/-- The chain of a field: its byte, and what stands behind the ';' that ends it, if there is one. -/
def rin (b : Nat) (l : List UInt8) : Option (Nat × Option (List UInt8)) :=
  match l with
  | [] => some (b, none)
  | c :: r => if c.toNat = 59 then some (b, some r) else if rmN (c :: r) b = 0 then none else rin (b + rmN (c :: r) b) ((c :: r).drop 5)
  termination_by l.length
  decreasing_by simp; omega
theorem rin_nil (b : Nat) : rin b [] = some (b, none) := by rw [rin]
theorem rin_end {b : Nat} {c : UInt8} {r : List UInt8} (h : c.toNat = 59) : rin b (c :: r) = some (b, some r) := by rw [rin, if_pos h]
theorem rin_bad {b : Nat} {c : UInt8} {r : List UInt8} (h : c.toNat ≠ 59) (h2 : rmN (c :: r) b = 0) : rin b (c :: r) = none := by rw [rin, if_neg h, if_pos h2]
theorem rin_go {b : Nat} {c : UInt8} {r : List UInt8} (h : c.toNat ≠ 59) (h2 : rmN (c :: r) b ≠ 0) : rin b (c :: r) = rin (b + rmN (c :: r) b) ((c :: r).drop 5) := by rw [rin, if_neg h, if_neg h2]
theorem rm_cases (l : List UInt8) (b : Nat) : (rmN l b = 0 ∧ rmR l b = []) ∨ (rmN l b = 4 ∧ b < 4 ∧ rmR l b = l.drop 5) ∨ (rmN l b = 8 ∧ b < 8 ∧ rmR l b = l.drop 5) ∨ (rmN l b = 16 ∧ b < 16 ∧ rmR l b = l.drop 5) := by
  unfold rmN rmR
  by_cases h1 : Lib.hasPrefix l mFold ∧ b < 4
  · right; left; rw [if_pos h1, if_pos h1]; exact ⟨rfl, h1.2, rfl⟩
  · rw [if_neg h1, if_neg h1]
    by_cases h2 : Lib.hasPrefix l mStop ∧ b < 8
    · right; right; left; rw [if_pos h2, if_pos h2]; exact ⟨rfl, h2.2, rfl⟩
    · rw [if_neg h2, if_neg h2]
      by_cases h3 : Lib.hasPrefix l mStem ∧ b < 16
      · right; right; right; rw [if_pos h3, if_pos h3]; exact ⟨rfl, h3.2, rfl⟩
      · left; rw [if_neg h3, if_neg h3]; exact ⟨rfl, rfl⟩
theorem rk_lt (l : List UInt8) : rkN l < 4 := by unfold rkN; split <;> (try split) <;> (try split) <;> omega
theorem or_bit (b k : Nat) (h : (k = 4 ∧ b < 4) ∨ (k = 8 ∧ b < 8) ∨ (k = 16 ∧ b < 16)) : bits .or .u8 (b : Int) (k : Int) = ((b + k : Nat) : Int) := by
  rcases h with ⟨rfl, h⟩ | ⟨rfl, h⟩ | ⟨rfl, h⟩
  · have q : ∀ k : Fin 4, bits .or .u8 ((k.val : Nat) : Int) ((4 : Nat) : Int) = ((k.val + 4 : Nat) : Int) := by decide +kernel
    exact q ⟨b, h⟩
  · have q : ∀ k : Fin 8, bits .or .u8 ((k.val : Nat) : Int) ((8 : Nat) : Int) = ((k.val + 8 : Nat) : Int) := by decide +kernel
    exact q ⟨b, h⟩
  · have q : ∀ k : Fin 16, bits .or .u8 ((k.val : Nat) : Int) ((16 : Nat) : Int) = ((k.val + 16 : Nat) : Int) := by decide +kernel
    exact q ⟨b, h⟩
/-- Where the ':' stands. -/
def ci (l : List UInt8) : Option Nat := l.findIdx? (fun c => c == 58)
theorem index_none {l : List UInt8} (h : ci l = none) : Lib.indexByte l 58 = -1 := by
  induction l with
  | nil => rfl
  | cons c r ih =>
    unfold ci at h
    rw [List.findIdx?_cons] at h
    by_cases hc : (c == 58) = true
    · rw [if_pos hc] at h; cases h
    · rw [if_neg hc] at h
      have := ih (by unfold ci; cases e : List.findIdx? (fun c => c == 58) r with
        | none => rfl
        | some j => rw [e] at h; cases h)
      rw [Lib.indexByte, if_neg hc, this]; rfl
theorem index_some {l : List UInt8} {i : Nat} (h : ci l = some i) : Lib.indexByte l 58 = (i : Int) ∧ i < l.length := by
  induction l generalizing i with
  | nil => unfold ci at h; simp at h
  | cons c r ih =>
    unfold ci at h
    rw [List.findIdx?_cons] at h
    by_cases hc : (c == 58) = true
    · rw [if_pos hc] at h
      injection h with h
      subst h
      rw [Lib.indexByte, if_pos hc]
      exact ⟨rfl, by simp⟩
    · rw [if_neg hc] at h
      cases e : List.findIdx? (fun c => c == 58) r with
      | none => rw [e] at h; cases h
      | some j =>
        rw [e] at h
        simp at h
        subst h
        obtain ⟨q1, q2⟩ := ih (i := j) e
        rw [Lib.indexByte, if_neg hc, q1]
        refine ⟨?_, by simp; omega⟩
        have : ((j : Int) == -1) = false := by simp
        rw [this]
        simp
/-- The fields of a text, n of them at most. -/
def rout : Nat → List UInt8 → Option (List Fd)
  | 0, _ => none
  | n + 1, l => match ci l with
    | none => none
    | some i => if rkN (l.drop (i + 1)) = 0 then none else
      match rin (rkN (l.drop (i + 1))) (rkR (l.drop (i + 1))) with
      | none => none
      | some (b, none) => some [fdOf (bstr (l.take i)) b]
      | some (b, some rest) => (rout n rest).map (fdOf (bstr (l.take i)) b :: ·)
theorem rout_nocolon {n : Nat} {l : List UInt8} (h : ci l = none) : rout (n + 1) l = none := by rw [rout, h]
theorem rout_nokind {n i : Nat} {l : List UInt8} (h : ci l = some i) (h2 : rkN (l.drop (i + 1)) = 0) : rout (n + 1) l = none := by rw [rout, h]; simp only; rw [if_pos h2]
theorem rout_bad {n i : Nat} {l : List UInt8} (h : ci l = some i) (h2 : rkN (l.drop (i + 1)) ≠ 0) (h3 : rin (rkN (l.drop (i + 1))) (rkR (l.drop (i + 1))) = none) : rout (n + 1) l = none := by rw [rout, h]; simp only; rw [if_neg h2, h3]
theorem rout_last {n i b : Nat} {l : List UInt8} (h : ci l = some i) (h2 : rkN (l.drop (i + 1)) ≠ 0) (h3 : rin (rkN (l.drop (i + 1))) (rkR (l.drop (i + 1))) = some (b, none)) : rout (n + 1) l = some [fdOf (bstr (l.take i)) b] := by rw [rout, h]; simp only; rw [if_neg h2, h3]
theorem rout_more {n i b : Nat} {l rest : List UInt8} (h : ci l = some i) (h2 : rkN (l.drop (i + 1)) ≠ 0) (h3 : rin (rkN (l.drop (i + 1))) (rkR (l.drop (i + 1))) = some (b, some rest)) : rout (n + 1) l = (rout n rest).map (fdOf (bstr (l.take i)) b :: ·) := by rw [rout, h]; simp only; rw [if_neg h2, h3]
/-- The state of the reading: F has been read, r is left. -/
def Rst (l : List UInt8) (F : List Fd) (r : List UInt8) : Prop := rout 16 l = (rout (16 - F.length) r).map (F ++ ·)
theorem Rst.start (l : List UInt8) : Rst l [] l := by
  unfold Rst
  cases rout 16 l <;> simp
theorem Rst.none {l : List UInt8} {F : List Fd} {r : List UInt8} (h : Rst l F r) (h2 : rout (16 - F.length) r = none) : rout 16 l = none := by
  rw [h, h2]; rfl
theorem Rst.last {l : List UInt8} {F : List Fd} {r : List UInt8} {f : Fd} (h : Rst l F r) (h2 : rout (16 - F.length) r = some [f]) : rout 16 l = some (F ++ [f]) := by
  rw [h, h2]; rfl
theorem Rst.more {l : List UInt8} {F : List Fd} {r rest : List UInt8} {f : Fd} {n : Nat} (h : Rst l F r) (hn : 16 - F.length = n + 1) (h2 : rout (n + 1) r = (rout n rest).map (f :: ·)) : Rst l (F ++ [f]) rest := by
  unfold Rst at h ⊢
  rw [h, hn, h2, List.length_append, List.length_singleton, show 16 - (F.length + 1) = n by omega]
  cases rout n rest <;> simp
end Go.Proofs.YtbhoplmbiomogaaDoor
