import Derived.Test.YtildonmckcflmaaDoorMmh
namespace Go.Proofs.YtildonmckcflmaaDoor
open Go.ChangeShapes Go.WideShapes Go.ChangeAt Go.RowKit

theorem ownsBlock_any (tag : Nat) (l : List Int) (a : Option Addr) (c : Nat) (w : World) (ht2 : tag < 256) (hA : BytesAt w a l) (bA : IsBytes l) (zA : a = none → c = 0) (lA : l.length ≤ 140737488351232) (hT : TabAt w) {a0 a1 a5 a6 : Addr} (hE : Errs4 w a0 a1 a5 a6) :
    Calls Tryd.prog 3 #[.int .u8 tag, .slice a l.length c] w fun e w' => e = .returned (.bool true) ∧ Kept (fun _ => False) w w' := by
  obtain ⟨mk, hmk⟩ := mark_fun
  by_cases h0 : tag = 0
  · subst h0
    exact ownsBlock_zero _ w hT
  · exact ownsBlock_walk mk hmk tag l a c w (by omega) ht2 hA bA zA lA hT hE
end Go.Proofs.YtildonmckcflmaaDoor
