import Derived.Test.YtildonmckcflmaaDoorMmd
import Derived.Test.YtildonmckcflmaaDoorDce
namespace Go.Proofs.YtildonmckcflmaaDoor
open Go.ChangeShapes Go.WideShapes Go.ChangeAt Go.RowKit

set_option maxHeartbeats 1000000 in
/-- The sums of a list are those of another one that reads alike. -/
theorem sums_any (l : List Int) (a b : Option Addr) (n c d : Nat) (w : World) (hn : n = l.length) (hA : BytesAt w a l) (hB : BytesAt w b l) (hb : IsBytes l) (hl : n ≤ 281474976710656) (hT : TabAt w) :
    Calls Tryd.prog 8 #[.slice a n c, .slice b n d] w fun e w' => e = .returned (.bool true) ∧ w' = w := by
  have S1 := hideC (sum_any l a c w hA hb (by omega) hT)
  have S2 := hideC (rsum_any l b d w hB hb (by omega))
  have S3 := hideC (sealed_any l a c w hA hb (by omega) hT)
  have S4 := hideC (rsealed_any l b d w hB hb (by omega))
  have S5 := hideC (extend_any 7 l a c w (by decide) hA hb (by omega) hT)
  have S6 := hideC (rextend_any 7 l b d w (by decide) hB hb (by omega))
  have z7 : ((7 : Nat) : Int) = 7 := rfl
  rw [z7] at S5 S6
  rw [← hn] at S1 S2 S3 S4 S5 S6
  generalize ext 0 l = x1 at S1 S2
  generalize sealed l = x2 at S3 S4
  generalize ext 7 l = x3 at S5 S6
  clear hA hB hb hT hn
  go_enter Tryd.func8, Tryd.ntmps8
  go_wp2_with (first | (go_at_call 18; refine S1.out.mono ?_; rintro e w1 ⟨rfl, e1⟩; subst e1) | (go_at_call 21; refine S2.out.mono ?_; rintro e w1 ⟨rfl, e1⟩; subst e1) | (go_at_call 23; refine S3.out.mono ?_; rintro e w1 ⟨rfl, e1⟩; subst e1) | (go_at_call 24; refine S4.out.mono ?_; rintro e w1 ⟨rfl, e1⟩; subst e1) | (go_at_call 25; refine S5.out.mono ?_; rintro e w1 ⟨rfl, e1⟩; subst e1) | (go_at_call 26; refine S6.out.mono ?_; rintro e w1 ⟨rfl, e1⟩; subst e1))
  go_ret
  exact ⟨by first | rfl | simp, rfl⟩
end Go.Proofs.YtildonmckcflmaaDoor
