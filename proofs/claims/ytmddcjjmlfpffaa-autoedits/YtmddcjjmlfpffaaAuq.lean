import Derived.Test.YtmddcjjmlfpffaaAup
namespace Go.Proofs.Ytmddcjjmlfpffaa
open Go.ChangeShapes Go.WideShapes Go.ChangeAt Go.RowKit

/-! A span. -/
def okB (l : List UInt8) (x : Int) : Prop := x = -1 ∨ ∃ n : Nat, x = (n : Int) ∧ n ≤ l.length
def bsd (l : List UInt8) (x : Int) (b : Nat) : Int × Int := if x = -1 then (-1, 0) else match l[x.toNat]? with
  | none => (-1, 1)
  | some c => if c.toNat < b then (-1, 1) else if b < c.toNat then (-1, -1) else (x + 1, 0)
theorem bsd_ok {l : List UInt8} {x : Int} {b : Nat} (h : okB l x) : okB l (bsd l x b).1 := by
  unfold bsd
  split
  · exact .inl rfl
  · rcases h with h | ⟨n, rfl, hn⟩
    · contradiction
    · split
      · exact .inl rfl
      · rename_i c hc
        split
        · exact .inl rfl
        · split
          · exact .inl rfl
          · refine .inr ⟨n + 1, by simp, ?_⟩
            rw [Int.toNat_natCast] at hc
            exact (List.getElem?_eq_some_iff.1 hc).1
def IvS (l L : List UInt8) (S : List Int) : Prop := S = [] ∨ ∃ x y, S = [x, y] ∧ okB l x ∧ okB L y
def nxS (l : List UInt8) (L : List UInt8) (I : Bool) (S : List Int) (b : Nat) : List Int := match S with
  | [x, y] => if (bsd l x b).2 < 0 ∨ 0 < (bsd L y b).2 then [] else if (bsd L y b).1 = (L.length : Int) ∧ I = false then [] else [(bsd l x b).1, (bsd L y b).1]
  | _ => []
def acS (l : List UInt8) (i : Bool) (S : List Int) : Bool := match S with
  | x :: _ => x == -1 || (x == (l.length : Int) && i)
  | [] => false
theorem ivS_next {l L : List UInt8} {I : Bool} {S : List Int} {b : Nat} (h : IvS l L S) (hne : S ≠ []) : IvS l L (nxS l L I S b) := by
  rcases h with h | ⟨x, y, rfl, hx, hy⟩
  · exact absurd h hne
  · unfold nxS
    simp only []
    split
    · exact .inl rfl
    · split
      · exact .inl rfl
      · exact .inr ⟨_, _, rfl, bsd_ok hx, bsd_ok hy⟩
theorem nsAt_two (w : World) (y z : Int) : NsAt (w.alloc (.cells #[.int .i64 y, .int .i64 z] 3)) (some ⟨w.heap.size, 0, none⟩) [y, z] := by
  intro _
  refine ⟨w.heap.size, 0, rfl, fun j hj => ?_⟩
  have : j = 0 ∨ j = 1 := by simp at hj; omega
  rcases this with rfl | rfl <;> simp
end Go.Proofs.Ytmddcjjmlfpffaa
