import Derived.Test.YtnkmjhcddegkhaaDoorWds
import Derived.Test.YtnkmjhcddegkhaaDoorSte
namespace Go.Proofs.YtnkmjhcddegkhaaDoor
open Go.ChangeShapes Go.WideShapes Go.ChangeAt Go.RowKit

def lvL : List UInt8 := [105, 116, 39, 115, 32, 51, 46, 49, 52, 44, 32, 111, 107, 46]
theorem lv_tks : ∃ r, tks lvL 0 [(0, 4), (5, 9), (11, 13)] = tkC [105, 116, 39, 115] 0 0 0 4 ++ (tkC [51, 46, 49, 52] 0 1 5 9 ++ r) := ⟨_, rfl⟩
set_option maxRecDepth 20000 in
set_option maxHeartbeats 2000000 in
theorem livesT_any (w : World) : Calls Tryd.prog 5 #[] w fun e w' => e = .returned (.bool true) ∧ Kept (fun _ => False) w w' := by
  have CW : ∀ w, Hid (Calls Tryd.prog 7 #[.string ⟨#[105, 116, 39, 115, 32, 51, 46, 49, 52, 44, 32, 111, 107, 46]⟩] w fun e w' => ∃ g c, e = .returned (.slice (some ⟨g, 0, none⟩) 3 c) ∧ w'.cell? ⟨g, 5, none⟩ = some (.string ⟨#[51, 46, 49, 52]⟩) ∧ w'.cell? ⟨g, 7, none⟩ = some (.int .i64 1) ∧ Kept (fun _ => False) w w') := fun w => by
    refine (words_any lvL w (by decide)).mono ?_
    rintro e w' ⟨a, c, rfl, G⟩
    rw [show words lvL = [(0, 4), (5, 9), (11, 13)] from lives_words] at G ⊢
    obtain ⟨g, rfl, _, hc⟩ := G.cell (by decide)
    obtain ⟨r, hr⟩ := lv_tks
    rw [hr] at hc
    exact ⟨g, c, rfl, hc 5 _ rfl, hc 7 _ rfl, G.kept⟩
  have CS : ∀ w, Hid (Calls Tryd.prog 10 #[.string ⟨#[109, 111, 116, 111, 114, 105, 110, 103]⟩] w fun e w' => e = .returned (.string ⟨#[109, 111, 116, 111, 114]⟩) ∧ Kept (fun _ => False) w w') := fun w => by
    have := stem_any [109, 111, 116, 111, 114, 105, 110, 103] w (by decide)
    rw [stem_motoring] at this
    exact this
  go_enter Tryd.func5, Tryd.ntmps5
  go_wp2_with (first
    | (go_at_call 7; refine (CW _).out.mono ?_; rintro e W ⟨g, c, rfl, y5, y7, K1⟩)
    | (go_at_call 10; refine (CS _).out.mono ?_; rintro e W2 ⟨rfl, K2⟩))
  go_ret
  exact ⟨rfl, K1.trans K2 (fun _ f => f.elim)⟩
end Go.Proofs.YtnkmjhcddegkhaaDoor
