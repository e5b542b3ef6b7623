import Derived.Test.YtildonmckcflmaaDoorEnr
import Derived.BigQuiet
import Derived.OrdersHeld
import Derived.Deep.RegionWith
namespace Go.Proofs.YtildonmckcflmaaDoor
open Go.ChangeShapes Go.WideShapes Go.ChangeAt Go.RowKit

/-- What Mark answers hangs on its two numbers alone. -/
def MarkIs (mk : Nat → Nat → Int) : Prop := ∀ (i j : Nat), i < 281474976710656 → j < 281474976710656 → ∀ w, Calls Tryd.prog 22 #[.int .i64 i, .int .i64 j] w fun e w' => e = .returned (.int .i64 (mk i j)) ∧ w' = w
set_option maxRecDepth 20000 in
set_option maxHeartbeats 1000000 in
theorem mark_one (i j : Nat) (hi : i < 281474976710656) (hj : j < 281474976710656) : ∃ m : Int, ∀ w, Calls Tryd.prog 22 #[.int .i64 i, .int .i64 j] w fun e w' => e = .returned (.int .i64 m) ∧ w' = w := by
  apply Exists.intro
  case h =>
    intro w
    go_enter Tryd.func22, Tryd.ntmps22
    go_wp2
    go_ret
    exact ⟨rfl, rfl⟩
theorem mark_fun : ∃ mk, MarkIs mk := by
  have h : ∀ i j : Nat, ∃ m : Int, i < 281474976710656 → j < 281474976710656 → ∀ w, Calls Tryd.prog 22 #[.int .i64 i, .int .i64 j] w fun e w' => e = .returned (.int .i64 m) ∧ w' = w := by
    intro i j
    by_cases hi : i < 281474976710656
    · by_cases hj : j < 281474976710656
      · obtain ⟨m, hm⟩ := mark_one i j hi hj
        exact ⟨m, fun _ _ => hm⟩
      · exact ⟨0, fun _ h => (hj h).elim⟩
    · exact ⟨0, fun h => (hi h).elim⟩
  exact ⟨fun i j => Classical.choose (h i j), fun i j hi hj w => Classical.choose_spec (h i j) hi hj w⟩
/-- A mark's byte. -/
def mkb (mk : Nat → Nat → Int) (i j : Nat) : Int := mk i j % 256
theorem mkb_byte (mk : Nat → Nat → Int) (i j : Nat) : 0 ≤ mkb mk i j ∧ mkb mk i j ≤ 255 := by unfold mkb; omega
def mks (mk : Nat → Nat → Int) (i n : Nat) : List Int := (List.range n).map (mkb mk i)
theorem mks_length (mk : Nat → Nat → Int) (i n : Nat) : (mks mk i n).length = n := by simp [mks]
theorem mks_succ (mk : Nat → Nat → Int) (i n : Nat) : mks mk i (n + 1) = mks mk i n ++ [mkb mk i n] := by simp [mks, List.range_succ]
theorem mks_get (mk : Nat → Nat → Int) (i n j : Nat) (h : j < n) : (mks mk i n)[j]?.getD 0 = mkb mk i j := by simp [mks, h]
theorem mks_bytes (mk : Nat → Nat → Int) (i n : Nat) : IsBytes (mks mk i n) := by
  intro x hx
  obtain ⟨j, _, rfl⟩ := List.mem_map.1 hx
  exact mkb_byte mk i j
end Go.Proofs.YtildonmckcflmaaDoor
