import Derived.Test.YtacmmclamkhpcaaDoorAur
namespace Go.Proofs.YtacmmclamkhpcaaDoor
open Go.ChangeShapes Go.WideShapes Go.ChangeAt Go.RowKit

/-! Fuzzy: one byte against another; a row without what is too far at its ends. -/
def chg (a b : Nat) : Nat := if a = b then 0 else 1
theorem changed_any (a b : Nat) (w : World) : Calls Tryd.prog 61 #[.int .u8 (a : Nat), .int .u8 (b : Nat)] w fun e w' => e = .returned (.int .i64 (chg a b : Nat)) ∧ w' = w := by
  by_cases h : a = b
  · subst h
    have e : chg a a = 0 := by unfold chg; rw [if_pos rfl]
    rw [e]
    go_enter Tryd.func61, Tryd.ntmps61
    go_wp2
    go_ret
    exact ⟨rfl, rfl⟩
  · have e : chg a b = 1 := by unfold chg; rw [if_neg h]
    have q1 : ((a : Int) == (b : Int)) = false := by simp; omega
    rw [e]
    go_enter Tryd.func61, Tryd.ntmps61
    go_wp2
    go_ret
    exact ⟨rfl, rfl⟩
/-- A list's end without what is f. -/
def rtr (f : Nat) (L : List Nat) : List Nat := (L.reverse.dropWhile (· == f)).reverse
theorem rtr_nil (f : Nat) : rtr f [] = [] := rfl
theorem rtr_snoc (f : Nat) (L : List Nat) (y : Nat) : rtr f (L ++ [y]) = if y = f then rtr f L else L ++ [y] := by
  unfold rtr
  rw [List.reverse_append]
  simp only [List.reverse_cons, List.reverse_nil, List.nil_append, List.cons_append, List.dropWhile_cons]
  by_cases h : y = f
  · rw [if_pos (by simpa using h), if_pos h]
  · rw [if_neg (by simpa using h), if_neg h]
    simp
/-- How many f stand at the beginning. -/
def led (f : Nat) (L : List Nat) : Nat := (L.takeWhile (· == f)).length
theorem led_le (f : Nat) (L : List Nat) : led f L ≤ L.length := by
  unfold led
  exact (List.takeWhile_prefix _).length_le
def trm (f : Nat) (x : Nat) (L : List Nat) : List Nat := if rtr f L = [] then [] else (x + led f (rtr f L)) :: (rtr f L).drop (led f (rtr f L))
end Go.Proofs.YtacmmclamkhpcaaDoor
