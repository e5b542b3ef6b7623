import Derived.Test.YtgngcppmmmchiaaDoorLxk
namespace Go.Proofs.YtgngcppmmmchiaaDoor
open Go.ChangeShapes Go.WideShapes Go.ChangeAt Go.RowKit

theorem word_ex : wordF [45, 97, 58, 98] = [92, 45, 97, 92, 58, 98] := by decide +kernel
theorem bq_self (l : List UInt8) : ((bq l).toList == (bq l).toList) = true := by simp
set_option maxRecDepth 20000 in
set_option maxHeartbeats 2000000 in
theorem writes_walk (l : List UInt8) (w : World) (hC : ClsAt w) (hl : l.length ≤ 400000000000) :
    Calls Tryd.prog 3 #[.string (bq l)] w fun e w' => e = .returned (.bool true) ∧ Kept (fun _ => False) w w' := by
  have C1 : Hid (∀ W, ClsAt W → Calls Tryd.prog 4 #[.string ⟨#[45, 97, 58, 98]⟩] W fun e w' => e = .returned (.string ⟨#[92, 45, 97, 92, 58, 98]⟩) ∧ Kept (fun _ => False) W w') := hideL (fun W h => by
    have := word_any [45, 97, 58, 98] W h (by decide)
    rwa [word_ex] at this)
  have C2 : Hid (∀ W, Calls Tryd.prog 5 #[.string ⟨#[]⟩] W fun e w' => e = .returned (.string ⟨#[34, 34]⟩) ∧ Kept (fun _ => False) W w') := hideL (fun W => quote_any [] W (by decide))
  have C3 := hideL (fun W h => word_any l W h hl)
  have C4 := hideL (fun W => rword_any l W hl)
  have C5 := hideL (fun W => quote_any l W hl)
  have C6 := hideL (fun W => rquote_any l W hl)
  have C7 := hideL (fun W h => pattern_any l W h hl)
  have C8 := hideL (fun W => rpattern_any l W hl)
  have HC := hideL hC
  generalize bq (wordF l) = v1 at *
  generalize bq (quoteF l) = v2 at *
  generalize bq (patF l) = v3 at *
  generalize bq l = s at *
  have q1 : (v1.toList == v1.toList) = true := by simp
  have q2 : (v2.toList == v2.toList) = true := by simp
  have q3 : (v3.toList == v3.toList) = true := by simp
  clear hC
  go_enter Tryd.func3, Tryd.ntmps3
  go_wp2_with (first
    | (go_at_call 4; refine (C1.out _ HC.out).mono ?_; clear C1; rintro e w1 ⟨rfl, k1⟩; have K1 := hideL k1; clear k1)
    | (go_at_call 5; refine (C2.out _).mono ?_; clear C2; rintro e w2 ⟨rfl, k2⟩; have K2 := hideL (K1.out.trans k2 (fun _ f => f.elim)); clear k2 K1)
    | (go_at_call 4; refine (C3.out _ (HC.out.later K2.out)).mono ?_; clear C3; rintro e w3 ⟨rfl, k3⟩; have K3 := hideL (K2.out.trans k3 (fun _ f => f.elim)); clear k3 K2)
    | (go_at_call 6; refine (C4.out _).mono ?_; clear C4; rintro e w4 ⟨rfl, k4⟩; have K4 := hideL (K3.out.trans k4 (fun _ f => f.elim)); clear k4 K3)
    | (go_at_call 5; refine (C5.out _).mono ?_; clear C5; rintro e w5 ⟨rfl, k5⟩; have K5 := hideL (K4.out.trans k5 (fun _ f => f.elim)); clear k5 K4)
    | (go_at_call 7; refine (C6.out _).mono ?_; clear C6; rintro e w6 ⟨rfl, k6⟩; have K6 := hideL (K5.out.trans k6 (fun _ f => f.elim)); clear k6 K5)
    | (go_at_call 8; refine (C7.out _ (HC.out.later K6.out)).mono ?_; clear C7; rintro e w7 ⟨rfl, k7⟩; have K7 := hideL (K6.out.trans k7 (fun _ f => f.elim)); clear k7 K6)
    | (go_at_call 9; refine (C8.out _).mono ?_; clear C8; rintro e w8 ⟨rfl, k8⟩; have K8 := hideL (K7.out.trans k8 (fun _ f => f.elim)); clear k8 K7))
  go_ret
  exact ⟨rfl, K8.out⟩
end Go.Proofs.YtgngcppmmmchiaaDoor
