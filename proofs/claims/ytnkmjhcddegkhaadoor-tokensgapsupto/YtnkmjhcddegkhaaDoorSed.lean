import Derived.Test.YtnkmjhcddegkhaaDoorSvx
namespace Go.Proofs.YtnkmjhcddegkhaaDoor
open Go.ChangeShapes Go.WideShapes Go.ChangeAt Go.RowKit

def lkT (T : Tbl) (e : List UInt8) : List UInt8 := (lk T e).getD []
def lkB (T : Tbl) (e : List UInt8) : Bool := (lk T e).isSome
theorem neqL {l : List UInt8} {c : List UInt8} (h : l ≠ c) : ((bq l).toList == c) = false := by rw [bq_list, beq_eq_false_iff_ne]; exact h
theorem lk_none (T : Tbl) (l : List UInt8) (h : ∀ p ∈ T, p.1 ≠ l) : lk T l = none := by
  unfold lk
  rw [List.find?_eq_none.2 (fun p hp => by simpa using h p hp)]; rfl
set_option maxRecDepth 20000 in
set_option maxHeartbeats 4000000 in
theorem end1_any (l : List UInt8) (w : World) : Calls Tryd.prog 33 #[.string (bq l)] w fun e w' => e = .returned (.tuple #[.string (bq (lkT tb1 l)), .bool (lkB tb1 l)]) ∧ w' = w := by
  by_cases h0 : l = [115, 115, 101, 115]
  · subst h0
    show Calls Tryd.prog 33 #[.string ⟨#[115, 115, 101, 115]⟩] w fun e w' => e = .returned (.tuple #[.string ⟨#[115, 115]⟩, .bool true]) ∧ w' = w
    go_enter Tryd.func33, Tryd.ntmps33
    go_wp2
    go_ret2
    exact ⟨rfl, rfl⟩
  by_cases h1 : l = [115, 115]
  · subst h1
    show Calls Tryd.prog 33 #[.string ⟨#[115, 115]⟩] w fun e w' => e = .returned (.tuple #[.string ⟨#[115, 115]⟩, .bool true]) ∧ w' = w
    go_enter Tryd.func33, Tryd.ntmps33
    go_wp2
    go_ret2
    exact ⟨rfl, rfl⟩
  by_cases h2 : l = [105, 101, 115]
  · subst h2
    show Calls Tryd.prog 33 #[.string ⟨#[105, 101, 115]⟩] w fun e w' => e = .returned (.tuple #[.string ⟨#[105]⟩, .bool true]) ∧ w' = w
    go_enter Tryd.func33, Tryd.ntmps33
    go_wp2
    go_ret2
    exact ⟨rfl, rfl⟩
  by_cases h3 : l = [115]
  · subst h3
    show Calls Tryd.prog 33 #[.string ⟨#[115]⟩] w fun e w' => e = .returned (.tuple #[.string ⟨#[]⟩, .bool true]) ∧ w' = w
    go_enter Tryd.func33, Tryd.ntmps33
    go_wp2
    go_ret2
    exact ⟨rfl, rfl⟩
  have hn : lk tb1 l = none := lk_none tb1 l (by simp only [tb1, List.forall_mem_cons]; exact ⟨fun e => h0 e.symm, fun e => h2 e.symm, fun e => h1 e.symm, fun e => h3 e.symm, by simp⟩)
  have e1 : lkT tb1 l = [] := by unfold lkT; rw [hn]; rfl
  have e2 : lkB tb1 l = false := by unfold lkB; rw [hn]; rfl
  rw [e1, e2]
  have n0 := neqL h0
  have n1 := neqL h1
  have n2 := neqL h2
  have n3 := neqL h3
  clear hn e1 e2 h0 h1 h2 h3
  generalize bq l = s at *
  go_enter Tryd.func33, Tryd.ntmps33
  go_wp2
  go_ret2
  exact ⟨rfl, rfl⟩
set_option maxRecDepth 20000 in
set_option maxHeartbeats 4000000 in
theorem end2_any (l : List UInt8) (w : World) : Calls Tryd.prog 36 #[.string (bq l)] w fun e w' => e = .returned (.tuple #[.string (bq (lkT tb2 l)), .bool (lkB tb2 l)]) ∧ w' = w := by
  by_cases h0 : l = [97, 116, 105, 111, 110, 97, 108]
  · subst h0
    show Calls Tryd.prog 36 #[.string ⟨#[97, 116, 105, 111, 110, 97, 108]⟩] w fun e w' => e = .returned (.tuple #[.string ⟨#[97, 116, 101]⟩, .bool true]) ∧ w' = w
    go_enter Tryd.func36, Tryd.ntmps36
    go_wp2
    go_ret2
    exact ⟨rfl, rfl⟩
  by_cases h1 : l = [116, 105, 111, 110, 97, 108]
  · subst h1
    show Calls Tryd.prog 36 #[.string ⟨#[116, 105, 111, 110, 97, 108]⟩] w fun e w' => e = .returned (.tuple #[.string ⟨#[116, 105, 111, 110]⟩, .bool true]) ∧ w' = w
    go_enter Tryd.func36, Tryd.ntmps36
    go_wp2
    go_ret2
    exact ⟨rfl, rfl⟩
  by_cases h2 : l = [101, 110, 99, 105]
  · subst h2
    show Calls Tryd.prog 36 #[.string ⟨#[101, 110, 99, 105]⟩] w fun e w' => e = .returned (.tuple #[.string ⟨#[101, 110, 99, 101]⟩, .bool true]) ∧ w' = w
    go_enter Tryd.func36, Tryd.ntmps36
    go_wp2
    go_ret2
    exact ⟨rfl, rfl⟩
  by_cases h3 : l = [97, 110, 99, 105]
  · subst h3
    show Calls Tryd.prog 36 #[.string ⟨#[97, 110, 99, 105]⟩] w fun e w' => e = .returned (.tuple #[.string ⟨#[97, 110, 99, 101]⟩, .bool true]) ∧ w' = w
    go_enter Tryd.func36, Tryd.ntmps36
    go_wp2
    go_ret2
    exact ⟨rfl, rfl⟩
  by_cases h4 : l = [105, 122, 101, 114]
  · subst h4
    show Calls Tryd.prog 36 #[.string ⟨#[105, 122, 101, 114]⟩] w fun e w' => e = .returned (.tuple #[.string ⟨#[105, 122, 101]⟩, .bool true]) ∧ w' = w
    go_enter Tryd.func36, Tryd.ntmps36
    go_wp2
    go_ret2
    exact ⟨rfl, rfl⟩
  by_cases h5 : l = [97, 98, 108, 105]
  · subst h5
    show Calls Tryd.prog 36 #[.string ⟨#[97, 98, 108, 105]⟩] w fun e w' => e = .returned (.tuple #[.string ⟨#[97, 98, 108, 101]⟩, .bool true]) ∧ w' = w
    go_enter Tryd.func36, Tryd.ntmps36
    go_wp2
    go_ret2
    exact ⟨rfl, rfl⟩
  by_cases h6 : l = [97, 108, 108, 105]
  · subst h6
    show Calls Tryd.prog 36 #[.string ⟨#[97, 108, 108, 105]⟩] w fun e w' => e = .returned (.tuple #[.string ⟨#[97, 108]⟩, .bool true]) ∧ w' = w
    go_enter Tryd.func36, Tryd.ntmps36
    go_wp2
    go_ret2
    exact ⟨rfl, rfl⟩
  by_cases h7 : l = [101, 110, 116, 108, 105]
  · subst h7
    show Calls Tryd.prog 36 #[.string ⟨#[101, 110, 116, 108, 105]⟩] w fun e w' => e = .returned (.tuple #[.string ⟨#[101, 110, 116]⟩, .bool true]) ∧ w' = w
    go_enter Tryd.func36, Tryd.ntmps36
    go_wp2
    go_ret2
    exact ⟨rfl, rfl⟩
  by_cases h8 : l = [101, 108, 105]
  · subst h8
    show Calls Tryd.prog 36 #[.string ⟨#[101, 108, 105]⟩] w fun e w' => e = .returned (.tuple #[.string ⟨#[101]⟩, .bool true]) ∧ w' = w
    go_enter Tryd.func36, Tryd.ntmps36
    go_wp2
    go_ret2
    exact ⟨rfl, rfl⟩
  by_cases h9 : l = [111, 117, 115, 108, 105]
  · subst h9
    show Calls Tryd.prog 36 #[.string ⟨#[111, 117, 115, 108, 105]⟩] w fun e w' => e = .returned (.tuple #[.string ⟨#[111, 117, 115]⟩, .bool true]) ∧ w' = w
    go_enter Tryd.func36, Tryd.ntmps36
    go_wp2
    go_ret2
    exact ⟨rfl, rfl⟩
  by_cases h10 : l = [105, 122, 97, 116, 105, 111, 110]
  · subst h10
    show Calls Tryd.prog 36 #[.string ⟨#[105, 122, 97, 116, 105, 111, 110]⟩] w fun e w' => e = .returned (.tuple #[.string ⟨#[105, 122, 101]⟩, .bool true]) ∧ w' = w
    go_enter Tryd.func36, Tryd.ntmps36
    go_wp2
    go_ret2
    exact ⟨rfl, rfl⟩
  by_cases h11 : l = [97, 116, 105, 111, 110]
  · subst h11
    show Calls Tryd.prog 36 #[.string ⟨#[97, 116, 105, 111, 110]⟩] w fun e w' => e = .returned (.tuple #[.string ⟨#[97, 116, 101]⟩, .bool true]) ∧ w' = w
    go_enter Tryd.func36, Tryd.ntmps36
    go_wp2
    go_ret2
    exact ⟨rfl, rfl⟩
  by_cases h12 : l = [97, 116, 111, 114]
  · subst h12
    show Calls Tryd.prog 36 #[.string ⟨#[97, 116, 111, 114]⟩] w fun e w' => e = .returned (.tuple #[.string ⟨#[97, 116, 101]⟩, .bool true]) ∧ w' = w
    go_enter Tryd.func36, Tryd.ntmps36
    go_wp2
    go_ret2
    exact ⟨rfl, rfl⟩
  by_cases h13 : l = [97, 108, 105, 115, 109]
  · subst h13
    show Calls Tryd.prog 36 #[.string ⟨#[97, 108, 105, 115, 109]⟩] w fun e w' => e = .returned (.tuple #[.string ⟨#[97, 108]⟩, .bool true]) ∧ w' = w
    go_enter Tryd.func36, Tryd.ntmps36
    go_wp2
    go_ret2
    exact ⟨rfl, rfl⟩
  by_cases h14 : l = [105, 118, 101, 110, 101, 115, 115]
  · subst h14
    show Calls Tryd.prog 36 #[.string ⟨#[105, 118, 101, 110, 101, 115, 115]⟩] w fun e w' => e = .returned (.tuple #[.string ⟨#[105, 118, 101]⟩, .bool true]) ∧ w' = w
    go_enter Tryd.func36, Tryd.ntmps36
    go_wp2
    go_ret2
    exact ⟨rfl, rfl⟩
  by_cases h15 : l = [102, 117, 108, 110, 101, 115, 115]
  · subst h15
    show Calls Tryd.prog 36 #[.string ⟨#[102, 117, 108, 110, 101, 115, 115]⟩] w fun e w' => e = .returned (.tuple #[.string ⟨#[102, 117, 108]⟩, .bool true]) ∧ w' = w
    go_enter Tryd.func36, Tryd.ntmps36
    go_wp2
    go_ret2
    exact ⟨rfl, rfl⟩
  by_cases h16 : l = [111, 117, 115, 110, 101, 115, 115]
  · subst h16
    show Calls Tryd.prog 36 #[.string ⟨#[111, 117, 115, 110, 101, 115, 115]⟩] w fun e w' => e = .returned (.tuple #[.string ⟨#[111, 117, 115]⟩, .bool true]) ∧ w' = w
    go_enter Tryd.func36, Tryd.ntmps36
    go_wp2
    go_ret2
    exact ⟨rfl, rfl⟩
  by_cases h17 : l = [97, 108, 105, 116, 105]
  · subst h17
    show Calls Tryd.prog 36 #[.string ⟨#[97, 108, 105, 116, 105]⟩] w fun e w' => e = .returned (.tuple #[.string ⟨#[97, 108]⟩, .bool true]) ∧ w' = w
    go_enter Tryd.func36, Tryd.ntmps36
    go_wp2
    go_ret2
    exact ⟨rfl, rfl⟩
  by_cases h18 : l = [105, 118, 105, 116, 105]
  · subst h18
    show Calls Tryd.prog 36 #[.string ⟨#[105, 118, 105, 116, 105]⟩] w fun e w' => e = .returned (.tuple #[.string ⟨#[105, 118, 101]⟩, .bool true]) ∧ w' = w
    go_enter Tryd.func36, Tryd.ntmps36
    go_wp2
    go_ret2
    exact ⟨rfl, rfl⟩
  by_cases h19 : l = [98, 105, 108, 105, 116, 105]
  · subst h19
    show Calls Tryd.prog 36 #[.string ⟨#[98, 105, 108, 105, 116, 105]⟩] w fun e w' => e = .returned (.tuple #[.string ⟨#[98, 108, 101]⟩, .bool true]) ∧ w' = w
    go_enter Tryd.func36, Tryd.ntmps36
    go_wp2
    go_ret2
    exact ⟨rfl, rfl⟩
  have hn : lk tb2 l = none := lk_none tb2 l (by simp only [tb2, List.forall_mem_cons]; exact ⟨fun e => h0 e.symm, fun e => h1 e.symm, fun e => h2 e.symm, fun e => h3 e.symm, fun e => h4 e.symm, fun e => h5 e.symm, fun e => h6 e.symm, fun e => h7 e.symm, fun e => h8 e.symm, fun e => h9 e.symm, fun e => h10 e.symm, fun e => h11 e.symm, fun e => h12 e.symm, fun e => h13 e.symm, fun e => h14 e.symm, fun e => h15 e.symm, fun e => h16 e.symm, fun e => h17 e.symm, fun e => h18 e.symm, fun e => h19 e.symm, by simp⟩)
  have e1 : lkT tb2 l = [] := by unfold lkT; rw [hn]; rfl
  have e2 : lkB tb2 l = false := by unfold lkB; rw [hn]; rfl
  rw [e1, e2]
  have n0 := neqL h0
  have n1 := neqL h1
  have n2 := neqL h2
  have n3 := neqL h3
  have n4 := neqL h4
  have n5 := neqL h5
  have n6 := neqL h6
  have n7 := neqL h7
  have n8 := neqL h8
  have n9 := neqL h9
  have n10 := neqL h10
  have n11 := neqL h11
  have n12 := neqL h12
  have n13 := neqL h13
  have n14 := neqL h14
  have n15 := neqL h15
  have n16 := neqL h16
  have n17 := neqL h17
  have n18 := neqL h18
  have n19 := neqL h19
  clear hn e1 e2 h0 h1 h2 h3 h4 h5 h6 h7 h8 h9 h10 h11 h12 h13 h14 h15 h16 h17 h18 h19
  generalize bq l = s at *
  go_enter Tryd.func36, Tryd.ntmps36
  go_wp2
  go_ret2
  exact ⟨rfl, rfl⟩
set_option maxRecDepth 20000 in
set_option maxHeartbeats 4000000 in
theorem end3_any (l : List UInt8) (w : World) : Calls Tryd.prog 37 #[.string (bq l)] w fun e w' => e = .returned (.tuple #[.string (bq (lkT tb3 l)), .bool (lkB tb3 l)]) ∧ w' = w := by
  by_cases h0 : l = [105, 99, 97, 116, 101]
  · subst h0
    show Calls Tryd.prog 37 #[.string ⟨#[105, 99, 97, 116, 101]⟩] w fun e w' => e = .returned (.tuple #[.string ⟨#[105, 99]⟩, .bool true]) ∧ w' = w
    go_enter Tryd.func37, Tryd.ntmps37
    go_wp2
    go_ret2
    exact ⟨rfl, rfl⟩
  by_cases h1 : l = [97, 116, 105, 118, 101]
  · subst h1
    show Calls Tryd.prog 37 #[.string ⟨#[97, 116, 105, 118, 101]⟩] w fun e w' => e = .returned (.tuple #[.string ⟨#[]⟩, .bool true]) ∧ w' = w
    go_enter Tryd.func37, Tryd.ntmps37
    go_wp2
    go_ret2
    exact ⟨rfl, rfl⟩
  by_cases h2 : l = [97, 108, 105, 122, 101]
  · subst h2
    show Calls Tryd.prog 37 #[.string ⟨#[97, 108, 105, 122, 101]⟩] w fun e w' => e = .returned (.tuple #[.string ⟨#[97, 108]⟩, .bool true]) ∧ w' = w
    go_enter Tryd.func37, Tryd.ntmps37
    go_wp2
    go_ret2
    exact ⟨rfl, rfl⟩
  by_cases h3 : l = [105, 99, 105, 116, 105]
  · subst h3
    show Calls Tryd.prog 37 #[.string ⟨#[105, 99, 105, 116, 105]⟩] w fun e w' => e = .returned (.tuple #[.string ⟨#[105, 99]⟩, .bool true]) ∧ w' = w
    go_enter Tryd.func37, Tryd.ntmps37
    go_wp2
    go_ret2
    exact ⟨rfl, rfl⟩
  by_cases h4 : l = [105, 99, 97, 108]
  · subst h4
    show Calls Tryd.prog 37 #[.string ⟨#[105, 99, 97, 108]⟩] w fun e w' => e = .returned (.tuple #[.string ⟨#[105, 99]⟩, .bool true]) ∧ w' = w
    go_enter Tryd.func37, Tryd.ntmps37
    go_wp2
    go_ret2
    exact ⟨rfl, rfl⟩
  by_cases h5 : l = [102, 117, 108]
  · subst h5
    show Calls Tryd.prog 37 #[.string ⟨#[102, 117, 108]⟩] w fun e w' => e = .returned (.tuple #[.string ⟨#[]⟩, .bool true]) ∧ w' = w
    go_enter Tryd.func37, Tryd.ntmps37
    go_wp2
    go_ret2
    exact ⟨rfl, rfl⟩
  by_cases h6 : l = [110, 101, 115, 115]
  · subst h6
    show Calls Tryd.prog 37 #[.string ⟨#[110, 101, 115, 115]⟩] w fun e w' => e = .returned (.tuple #[.string ⟨#[]⟩, .bool true]) ∧ w' = w
    go_enter Tryd.func37, Tryd.ntmps37
    go_wp2
    go_ret2
    exact ⟨rfl, rfl⟩
  have hn : lk tb3 l = none := lk_none tb3 l (by simp only [tb3, List.forall_mem_cons]; exact ⟨fun e => h0 e.symm, fun e => h1 e.symm, fun e => h2 e.symm, fun e => h3 e.symm, fun e => h4 e.symm, fun e => h5 e.symm, fun e => h6 e.symm, by simp⟩)
  have e1 : lkT tb3 l = [] := by unfold lkT; rw [hn]; rfl
  have e2 : lkB tb3 l = false := by unfold lkB; rw [hn]; rfl
  rw [e1, e2]
  have n0 := neqL h0
  have n1 := neqL h1
  have n2 := neqL h2
  have n3 := neqL h3
  have n4 := neqL h4
  have n5 := neqL h5
  have n6 := neqL h6
  clear hn e1 e2 h0 h1 h2 h3 h4 h5 h6
  generalize bq l = s at *
  go_enter Tryd.func37, Tryd.ntmps37
  go_wp2
  go_ret2
  exact ⟨rfl, rfl⟩
set_option maxRecDepth 20000 in
set_option maxHeartbeats 4000000 in
theorem end4_any (l : List UInt8) (w : World) : Calls Tryd.prog 51 #[.string (bq l)] w fun e w' => e = .returned (.tuple #[.string (bq (lkT tb4 l)), .bool (lkB tb4 l)]) ∧ w' = w := by
  by_cases h0 : l = [97, 108]
  · subst h0
    show Calls Tryd.prog 51 #[.string ⟨#[97, 108]⟩] w fun e w' => e = .returned (.tuple #[.string ⟨#[]⟩, .bool true]) ∧ w' = w
    go_enter Tryd.func51, Tryd.ntmps51
    go_wp2
    go_ret2
    exact ⟨rfl, rfl⟩
  by_cases h1 : l = [97, 110, 99, 101]
  · subst h1
    show Calls Tryd.prog 51 #[.string ⟨#[97, 110, 99, 101]⟩] w fun e w' => e = .returned (.tuple #[.string ⟨#[]⟩, .bool true]) ∧ w' = w
    go_enter Tryd.func51, Tryd.ntmps51
    go_wp2
    go_ret2
    exact ⟨rfl, rfl⟩
  by_cases h2 : l = [101, 110, 99, 101]
  · subst h2
    show Calls Tryd.prog 51 #[.string ⟨#[101, 110, 99, 101]⟩] w fun e w' => e = .returned (.tuple #[.string ⟨#[]⟩, .bool true]) ∧ w' = w
    go_enter Tryd.func51, Tryd.ntmps51
    go_wp2
    go_ret2
    exact ⟨rfl, rfl⟩
  by_cases h3 : l = [101, 114]
  · subst h3
    show Calls Tryd.prog 51 #[.string ⟨#[101, 114]⟩] w fun e w' => e = .returned (.tuple #[.string ⟨#[]⟩, .bool true]) ∧ w' = w
    go_enter Tryd.func51, Tryd.ntmps51
    go_wp2
    go_ret2
    exact ⟨rfl, rfl⟩
  by_cases h4 : l = [105, 99]
  · subst h4
    show Calls Tryd.prog 51 #[.string ⟨#[105, 99]⟩] w fun e w' => e = .returned (.tuple #[.string ⟨#[]⟩, .bool true]) ∧ w' = w
    go_enter Tryd.func51, Tryd.ntmps51
    go_wp2
    go_ret2
    exact ⟨rfl, rfl⟩
  by_cases h5 : l = [97, 98, 108, 101]
  · subst h5
    show Calls Tryd.prog 51 #[.string ⟨#[97, 98, 108, 101]⟩] w fun e w' => e = .returned (.tuple #[.string ⟨#[]⟩, .bool true]) ∧ w' = w
    go_enter Tryd.func51, Tryd.ntmps51
    go_wp2
    go_ret2
    exact ⟨rfl, rfl⟩
  by_cases h6 : l = [105, 98, 108, 101]
  · subst h6
    show Calls Tryd.prog 51 #[.string ⟨#[105, 98, 108, 101]⟩] w fun e w' => e = .returned (.tuple #[.string ⟨#[]⟩, .bool true]) ∧ w' = w
    go_enter Tryd.func51, Tryd.ntmps51
    go_wp2
    go_ret2
    exact ⟨rfl, rfl⟩
  by_cases h7 : l = [97, 110, 116]
  · subst h7
    show Calls Tryd.prog 51 #[.string ⟨#[97, 110, 116]⟩] w fun e w' => e = .returned (.tuple #[.string ⟨#[]⟩, .bool true]) ∧ w' = w
    go_enter Tryd.func51, Tryd.ntmps51
    go_wp2
    go_ret2
    exact ⟨rfl, rfl⟩
  by_cases h8 : l = [101, 109, 101, 110, 116]
  · subst h8
    show Calls Tryd.prog 51 #[.string ⟨#[101, 109, 101, 110, 116]⟩] w fun e w' => e = .returned (.tuple #[.string ⟨#[]⟩, .bool true]) ∧ w' = w
    go_enter Tryd.func51, Tryd.ntmps51
    go_wp2
    go_ret2
    exact ⟨rfl, rfl⟩
  by_cases h9 : l = [109, 101, 110, 116]
  · subst h9
    show Calls Tryd.prog 51 #[.string ⟨#[109, 101, 110, 116]⟩] w fun e w' => e = .returned (.tuple #[.string ⟨#[]⟩, .bool true]) ∧ w' = w
    go_enter Tryd.func51, Tryd.ntmps51
    go_wp2
    go_ret2
    exact ⟨rfl, rfl⟩
  by_cases h10 : l = [101, 110, 116]
  · subst h10
    show Calls Tryd.prog 51 #[.string ⟨#[101, 110, 116]⟩] w fun e w' => e = .returned (.tuple #[.string ⟨#[]⟩, .bool true]) ∧ w' = w
    go_enter Tryd.func51, Tryd.ntmps51
    go_wp2
    go_ret2
    exact ⟨rfl, rfl⟩
  by_cases h11 : l = [105, 111, 110]
  · subst h11
    show Calls Tryd.prog 51 #[.string ⟨#[105, 111, 110]⟩] w fun e w' => e = .returned (.tuple #[.string ⟨#[]⟩, .bool true]) ∧ w' = w
    go_enter Tryd.func51, Tryd.ntmps51
    go_wp2
    go_ret2
    exact ⟨rfl, rfl⟩
  by_cases h12 : l = [111, 117]
  · subst h12
    show Calls Tryd.prog 51 #[.string ⟨#[111, 117]⟩] w fun e w' => e = .returned (.tuple #[.string ⟨#[]⟩, .bool true]) ∧ w' = w
    go_enter Tryd.func51, Tryd.ntmps51
    go_wp2
    go_ret2
    exact ⟨rfl, rfl⟩
  by_cases h13 : l = [105, 115, 109]
  · subst h13
    show Calls Tryd.prog 51 #[.string ⟨#[105, 115, 109]⟩] w fun e w' => e = .returned (.tuple #[.string ⟨#[]⟩, .bool true]) ∧ w' = w
    go_enter Tryd.func51, Tryd.ntmps51
    go_wp2
    go_ret2
    exact ⟨rfl, rfl⟩
  by_cases h14 : l = [97, 116, 101]
  · subst h14
    show Calls Tryd.prog 51 #[.string ⟨#[97, 116, 101]⟩] w fun e w' => e = .returned (.tuple #[.string ⟨#[]⟩, .bool true]) ∧ w' = w
    go_enter Tryd.func51, Tryd.ntmps51
    go_wp2
    go_ret2
    exact ⟨rfl, rfl⟩
  by_cases h15 : l = [105, 116, 105]
  · subst h15
    show Calls Tryd.prog 51 #[.string ⟨#[105, 116, 105]⟩] w fun e w' => e = .returned (.tuple #[.string ⟨#[]⟩, .bool true]) ∧ w' = w
    go_enter Tryd.func51, Tryd.ntmps51
    go_wp2
    go_ret2
    exact ⟨rfl, rfl⟩
  by_cases h16 : l = [111, 117, 115]
  · subst h16
    show Calls Tryd.prog 51 #[.string ⟨#[111, 117, 115]⟩] w fun e w' => e = .returned (.tuple #[.string ⟨#[]⟩, .bool true]) ∧ w' = w
    go_enter Tryd.func51, Tryd.ntmps51
    go_wp2
    go_ret2
    exact ⟨rfl, rfl⟩
  by_cases h17 : l = [105, 118, 101]
  · subst h17
    show Calls Tryd.prog 51 #[.string ⟨#[105, 118, 101]⟩] w fun e w' => e = .returned (.tuple #[.string ⟨#[]⟩, .bool true]) ∧ w' = w
    go_enter Tryd.func51, Tryd.ntmps51
    go_wp2
    go_ret2
    exact ⟨rfl, rfl⟩
  by_cases h18 : l = [105, 122, 101]
  · subst h18
    show Calls Tryd.prog 51 #[.string ⟨#[105, 122, 101]⟩] w fun e w' => e = .returned (.tuple #[.string ⟨#[]⟩, .bool true]) ∧ w' = w
    go_enter Tryd.func51, Tryd.ntmps51
    go_wp2
    go_ret2
    exact ⟨rfl, rfl⟩
  have hn : lk tb4 l = none := lk_none tb4 l (by simp only [tb4, List.forall_mem_cons]; exact ⟨fun e => h0 e.symm, fun e => h1 e.symm, fun e => h2 e.symm, fun e => h3 e.symm, fun e => h4 e.symm, fun e => h5 e.symm, fun e => h6 e.symm, fun e => h7 e.symm, fun e => h8 e.symm, fun e => h9 e.symm, fun e => h10 e.symm, fun e => h11 e.symm, fun e => h12 e.symm, fun e => h13 e.symm, fun e => h14 e.symm, fun e => h15 e.symm, fun e => h16 e.symm, fun e => h17 e.symm, fun e => h18 e.symm, by simp⟩)
  have e1 : lkT tb4 l = [] := by unfold lkT; rw [hn]; rfl
  have e2 : lkB tb4 l = false := by unfold lkB; rw [hn]; rfl
  rw [e1, e2]
  have n0 := neqL h0
  have n1 := neqL h1
  have n2 := neqL h2
  have n3 := neqL h3
  have n4 := neqL h4
  have n5 := neqL h5
  have n6 := neqL h6
  have n7 := neqL h7
  have n8 := neqL h8
  have n9 := neqL h9
  have n10 := neqL h10
  have n11 := neqL h11
  have n12 := neqL h12
  have n13 := neqL h13
  have n14 := neqL h14
  have n15 := neqL h15
  have n16 := neqL h16
  have n17 := neqL h17
  have n18 := neqL h18
  clear hn e1 e2 h0 h1 h2 h3 h4 h5 h6 h7 h8 h9 h10 h11 h12 h13 h14 h15 h16 h17 h18
  generalize bq l = s at *
  go_enter Tryd.func51, Tryd.ntmps51
  go_wp2
  go_ret2
  exact ⟨rfl, rfl⟩
end Go.Proofs.YtnkmjhcddegkhaaDoor
