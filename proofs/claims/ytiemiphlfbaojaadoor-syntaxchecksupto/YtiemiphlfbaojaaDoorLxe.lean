import Derived.Test.YtiemiphlfbaojaaDoorLxd
namespace Go.Proofs.YtiemiphlfbaojaaDoor
open Go.ChangeShapes Go.WideShapes Go.ChangeAt Go.RowKit

/-- What is left of a pattern behind o. -/
def finP (o : List UInt8) (g : List (UInt8 × Bool)) : List UInt8 := if g.any isE then [] else ptF o g
theorem finP_cons (o : List UInt8) (x : UInt8 × Bool) (g : List (UInt8 × Bool)) (h : isE x = false) : finP o (x :: g) = finP (o ++ if isW x then [x.1] else pl o.isEmpty x.1) g := by
  unfold finP
  rw [List.any_cons, h, Bool.false_or]
  rfl
theorem finP_wild (o : List UInt8) (c : UInt8) (r : List UInt8) (h : wdB c = true) : finP o (sgn (c :: r)) = finP (o ++ [c]) (sgn r) := by
  have h2 : c ≠ 92 := by intro e; subst e; simp [wdB] at h
  rw [sgn_oth c r h2, finP_cons _ _ _ (by simp [isE, h2])]
  simp [isW, h]
theorem finP_oth (o : List UInt8) (c : UInt8) (r : List UInt8) (h : wdB c = false) (h2 : c ≠ 92) : finP o (sgn (c :: r)) = finP (o ++ pl o.isEmpty c) (sgn r) := by
  rw [sgn_oth c r h2, finP_cons _ _ _ (by simp [isE, h2])]
  simp [isW, h]
theorem finP_esc (o : List UInt8) (d : UInt8) (r : List UInt8) : finP o (sgn (92 :: d :: r)) = finP (o ++ pl o.isEmpty d) (sgn r) := by
  rw [sgn_esc, finP_cons _ _ _ (by simp [isE])]
  simp [isW]
theorem finP_lone (o : List UInt8) : finP o (sgn [92]) = [] := by rw [sgn_one]; simp [finP, isE]
theorem finP_nil (o : List UInt8) : finP o (sgn []) = o := by simp [sgn, finP, ptF]
theorem patF_fin (l : List UInt8) : patF l = if (sgn l).any isW then finP [] (sgn l) else [] := by
  unfold patF finP
  cases (sgn l).any isW <;> cases (sgn l).any isE <;> rfl
theorem kdF_two (l : List UInt8) : kdF l = 2 ↔ (sgn l).any isW = true := by
  unfold kdF
  by_cases h : rsv l = 1
  · rw [if_neg (by omega)]
    cases (sgn l).any isW <;> simp
  · rw [if_pos h, rsv_wild l h]
    unfold rsv
    (repeat' split) <;> simp
theorem kdF_lt (l : List UInt8) : kdF l ≤ 7 := by
  have := rsv_is l
  unfold kdF
  (repeat' split) <;> omega
end Go.Proofs.YtiemiphlfbaojaaDoor
