import Derived.Test.YthbfmgbielmaeaaDoorFth
namespace Go.Proofs.YthbfmgbielmaeaaDoor
open Go.ChangeShapes Go.WideShapes Go.ChangeAt Go.RowKit

theorem there_any (tag : Nat) (l R : List Int) (a b : Option Addr) (c d : Nat) (w : World) (ht2 : tag < 256) (hA : BytesAt w a l) (hR : BytesAt w b R) (bA : IsBytes l) (bR : IsBytes R) (zA : a = none → c = 0) (zR : b = none → d = 0) (lA : l.length ≤ 1099511627776) (lR : R.length ≤ 1099511627776) (cR : R.length ≤ d) (hT : TabAt w) {a0 a1 a2 a3 a4 a5 a6 : Addr} (hE : Errs7 w a0 a1 a2 a3 a4 a5 a6) :
    Calls Tryd.prog 5 #[.int .u8 tag, .slice a l.length c, .slice b R.length d] w fun e w' => e = .returned (.bool true) ∧ Kept (fun _ => False) w w' := by
  by_cases ht : tag = 0
  · subst ht
    exact there_zero l a c (.slice b R.length d) w hT hE
  · exact there_walk tag l R a b c d w (by omega) ht2 hA hR bA bR zA zR lA lR cR hT hE
end Go.Proofs.YthbfmgbielmaeaaDoor
