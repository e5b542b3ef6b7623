import Derived.Test.YtacmmclamkhpcaaDoorAuw
namespace Go.Proofs.YtacmmclamkhpcaaDoor
open Go.ChangeShapes Go.WideShapes Go.ChangeAt Go.RowKit

def n1F (row : List Nat) (left k : Nat) : Nat := if k < row.length then min (left + 1) (row.getD k 0 + 1) else left + 1
def n2F (l : List UInt8) (x b : Nat) (row : List Nat) (n k : Nat) : Nat := if 0 < k then min n (row.getD (k - 1) 0 + chg (l.getD (x + k - 1) 0).toNat b) else n
/-- How far the beginning of the word is behind one more byte. -/
def lfs (l : List UInt8) (x f b : Nat) (row : List Nat) : Nat → Nat
  | 0 => f
  | k + 1 => min (n2F l x b row (n1F row (lfs l x f b row k) k) k) f
def ent (l : List UInt8) (x f b : Nat) (row : List Nat) (K : Nat) : List Nat := (List.range K).map (fun k => lfs l x f b row (k + 1))
theorem ent_succ (l : List UInt8) (x f b : Nat) (row : List Nat) (K : Nat) : ent l x f b row (K + 1) = ent l x f b row K ++ [lfs l x f b row (K + 1)] := by unfold ent; rw [List.range_succ, List.map_append]; rfl
theorem ent_len (l : List UInt8) (x f b : Nat) (row : List Nat) (K : Nat) : (ent l x f b row K).length = K := by unfold ent; simp
theorem lfs_le (l : List UInt8) (x f b : Nat) (row : List Nat) (k : Nat) : lfs l x f b row k ≤ f := by
  cases k with
  | zero => exact Nat.le_refl _
  | succ k => exact Nat.min_le_right _ _
def lim (l : List UInt8) (x : Nat) (row : List Nat) : Nat := min (row.length + 1) (l.length + 1 - x)
def nxF (l : List UInt8) (ed : Nat) (S : List Int) (b : Nat) : List Int := match zn S with
  | x :: row => nz (trm (ed + 1) x (ent l x (ed + 1) b row (lim l x row)))
  | [] => []
def IvF (l : List UInt8) (ed : Nat) (S : List Int) : Prop := S = [] ∨ ∃ x row, S = nz (x :: row) ∧ row ≠ [] ∧ (∀ r ∈ row, r ≤ ed + 1) ∧ x + row.length ≤ l.length + 1
theorem minN (a b : Nat) : ((min a b : Nat) : Int) = if (b : Int) < (a : Int) then (b : Int) else (a : Int) := by
  rw [Nat.min_def]
  split <;> split <;> omega
end Go.Proofs.YtacmmclamkhpcaaDoor
