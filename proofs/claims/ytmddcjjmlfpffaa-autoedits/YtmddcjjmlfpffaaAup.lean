import Derived.Test.YtmddcjjmlfpffaaAuo
namespace Go.Proofs.Ytmddcjjmlfpffaa
open Go.ChangeShapes Go.WideShapes Go.ChangeAt Go.RowKit

variable {w0 : World} {ty : TypeId} {ag : Value} {fN fA : FuncId} {nx : List Int → Nat → List Int} {ac : List Int → Bool} {Inv : List Int → Prop}
def accK (nx : List Int → Nat → List Int) (ac : List Int → Bool) (S0 : List Int) (l : List UInt8) : Bool := decide (runK nx S0 l ≠ []) && ac (runK nx S0 l)
def alvK (nx : List Int → Nat → List Int) (S0 : List Int) (l : List UInt8) : Bool := decide (0 < (runK nx S0 l).length)
def IvX (l : List UInt8) (S : List Int) : Prop := S = [] ∨ ∃ n : Nat, S = [(n : Int)] ∧ n ≤ l.length
def nxX (l : List UInt8) (S : List Int) (b : Nat) : List Int := match S with
  | x :: _ => if (l[x.toNat]?).map UInt8.toNat = some b then [x + 1] else []
  | [] => []
def nxP (l : List UInt8) (S : List Int) (b : Nat) : List Int := match S with
  | x :: _ => if x = (l.length : Int) then [x] else if (l[x.toNat]?).map UInt8.toNat = some b then [x + 1] else []
  | [] => []
def acX (l : List UInt8) (S : List Int) : Bool := match S with
  | x :: _ => x == (l.length : Int)
  | [] => false
theorem ivX_next {l : List UInt8} {S : List Int} {b : Nat} (h : IvX l S) (hne : S ≠ []) : IvX l (nxX l S b) := by
  rcases h with h | ⟨n, rfl, hn⟩
  · exact absurd h hne
  · unfold nxX
    simp only []
    split
    · rename_i h2
      rcases Nat.lt_or_ge n l.length with hl | hl
      · exact .inr ⟨n + 1, by simp, hl⟩
      · rw [List.getElem?_eq_none (by simpa using hl)] at h2
        cases h2
    · exact .inl rfl
theorem ivP_next {l : List UInt8} {S : List Int} {b : Nat} (h : IvX l S) (hne : S ≠ []) : IvX l (nxP l S b) := by
  rcases h with h | ⟨n, rfl, hn⟩
  · exact absurd h hne
  · unfold nxP
    simp only []
    split
    · exact .inr ⟨n, rfl, hn⟩
    · split
      · rename_i h2
        rcases Nat.lt_or_ge n l.length with hl | hl
        · exact .inr ⟨n + 1, by simp, hl⟩
        · rw [List.getElem?_eq_none (by simpa using hl)] at h2
          cases h2
      · exact .inl rfl
theorem nsAt_one (w : World) (y : Int) : NsAt (w.alloc (.cells #[.int .i64 y] 3)) (some ⟨w.heap.size, 0, none⟩) [y] := by
  intro _
  refine ⟨w.heap.size, 0, rfl, fun j hj => ?_⟩
  obtain rfl : j = 0 := by simp at hj; omega
  simp
def StK (W w' : World) (L : List Int) (e : Ending) : Prop := (∃ a' c', e = .returned (.slice a' L.length c') ∧ NsAt w' a' L ∧ L.length ≤ c') ∧ Kept (fun _ => False) W w'
end Go.Proofs.Ytmddcjjmlfpffaa
