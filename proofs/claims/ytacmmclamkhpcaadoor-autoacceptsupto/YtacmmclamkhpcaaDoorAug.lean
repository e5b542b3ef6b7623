import Derived.Test.YtacmmclamkhpcaaDoorAuf
namespace Go.Proofs.YtacmmclamkhpcaaDoor
open Go.ChangeShapes Go.WideShapes Go.ChangeAt Go.RowKit

/-- "a?b*". -/
def pt0 : List UInt8 := [97, 63, 98, 42]
theorem els0 : elsR [] pt0 = some [97, 256, 98, 257] := by
  unfold pt0
  rw [elsRo [] 97 _ (by decide) (by decide) (by decide), elsR63, elsRo _ 98 _ (by decide) (by decide) (by decide), elsR42, elsRn]
  decide
def el0 : List Int := [97, 256, 98, 257]
theorem aa1 : accW el0 [97, 120, 98] = true := by decide +kernel
theorem aa2 : accW el0 [97, 120, 98, 121, 121] = true := by decide +kernel
theorem aa3 : alvW el0 [97] = true := by decide +kernel
theorem aa4 : accW el0 [97, 98] = false := by decide +kernel
theorem aa5 : alvW el0 [98] = false := by decide +kernel
theorem rr1 : (runW el0 [97, 120, 98]).length ≤ 1099511627776 := by decide +kernel
theorem rr2 : (runW el0 [97, 120, 98, 121, 121]).length ≤ 1099511627776 := by decide +kernel
theorem rr4 : (runW el0 [97, 98]).length ≤ 1099511627776 := by decide +kernel
set_option maxRecDepth 20000 in
set_option maxHeartbeats 4000000 in
theorem lives_any (pa : Addr) (w : World) (hP : w.cell? ⟨1, 0, none⟩ = some (.iface 97 (.pointer (some pa)))) :
    Calls Tryd.prog 7 #[] w fun e w' => e = .returned (.bool true) ∧ Kept (fun _ => False) w w' := by
  have CW := hideG (Wild_any pt0 pa w (by decide) hP)
  rw [els0] at CW
  have C1 : Hid (∀ (ba : Nat) ea ec p sa sc (W : World), WAu W ba el0 ea ec p sa sc → Calls Tryd.prog 11 #[.pointer (some ⟨ba, 0, none⟩), .string ⟨#[97, 120, 98]⟩] W fun e w' => e = .returned (.bool true) ∧ Kept (fun _ => False) W w') := hideG (fun ba ea ec p sa sc W h => by have := acceptsW_any el0 ea ec p sa sc ba [97, 120, 98] W h (by decide) (by decide) rr1; rwa [aa1] at this)
  have C2 : Hid (∀ (ba : Nat) ea ec p sa sc (W : World), WAu W ba el0 ea ec p sa sc → Calls Tryd.prog 11 #[.pointer (some ⟨ba, 0, none⟩), .string ⟨#[97, 120, 98, 121, 121]⟩] W fun e w' => e = .returned (.bool true) ∧ Kept (fun _ => False) W w') := hideG (fun ba ea ec p sa sc W h => by have := acceptsW_any el0 ea ec p sa sc ba [97, 120, 98, 121, 121] W h (by decide) (by decide) rr2; rwa [aa2] at this)
  have C3 : Hid (∀ (ba : Nat) ea ec p sa sc (W : World), WAu W ba el0 ea ec p sa sc → Calls Tryd.prog 13 #[.pointer (some ⟨ba, 0, none⟩), .string ⟨#[97]⟩] W fun e w' => e = .returned (.bool true) ∧ Kept (fun _ => False) W w') := hideG (fun ba ea ec p sa sc W h => by have := aliveW_any el0 ea ec p sa sc ba [97] W h (by decide) (by decide); rwa [aa3] at this)
  have C4 : Hid (∀ (ba : Nat) ea ec p sa sc (W : World), WAu W ba el0 ea ec p sa sc → Calls Tryd.prog 11 #[.pointer (some ⟨ba, 0, none⟩), .string ⟨#[97, 98]⟩] W fun e w' => e = .returned (.bool false) ∧ Kept (fun _ => False) W w') := hideG (fun ba ea ec p sa sc W h => by have := acceptsW_any el0 ea ec p sa sc ba [97, 98] W h (by decide) (by decide) rr4; rwa [aa4] at this)
  have C5 : Hid (∀ (ba : Nat) ea ec p sa sc (W : World), WAu W ba el0 ea ec p sa sc → Calls Tryd.prog 13 #[.pointer (some ⟨ba, 0, none⟩), .string ⟨#[98]⟩] W fun e w' => e = .returned (.bool false) ∧ Kept (fun _ => False) W w') := hideG (fun ba ea ec p sa sc W h => by have := aliveW_any el0 ea ec p sa sc ba [98] W h (by decide) (by decide); rwa [aa5] at this)
  have CW2 : Hid (Calls Tryd.prog 17 #[.string ⟨#[97, 63, 98, 42]⟩] w fun e w' => ∃ ba ea ec sa sc, e = .returned (.tuple #[.pointer (some ⟨ba, 0, none⟩), .nilIface]) ∧ WAu w' ba el0 ea ec (bq pt0) sa sc ∧ Kept (fun _ => False) w w') := CW
  clear hP CW
  go_enter Tryd.func7, Tryd.ntmps7
  go_wp2_with (first
    | (go_at_call 17; refine CW2.out.mono ?_; clear CW2; rintro e W ⟨ba, ea, ec, sa, sc, rfl, hA, K1⟩; have HA := hideG hA; have HK1 := hideG K1; clear hA K1)
    | (go_at_call 11; first
      | (refine (C1.out ba ea ec _ sa sc W HA.out).mono ?_; clear C1; rintro e W2 ⟨rfl, K2⟩; have HK2 := hideG K2; clear K2)
      | (refine (C2.out ba ea ec _ sa sc W2 (HA.out.kept HK2.out)).mono ?_; clear C2; rintro e W3 ⟨rfl, K3⟩; have HK3 := hideG (HK2.out.trans K3 (fun _ f => f.elim)); clear K3)
      | (refine (C4.out ba ea ec _ sa sc W4 (HA.out.kept HK4.out)).mono ?_; clear C4; rintro e W5 ⟨rfl, K5⟩; have HK5 := hideG (HK4.out.trans K5 (fun _ f => f.elim)); clear K5))
    | (go_at_call 13; first
      | (refine (C3.out ba ea ec _ sa sc W3 (HA.out.kept HK3.out)).mono ?_; clear C3; rintro e W4 ⟨rfl, K4⟩; have HK4 := hideG (HK3.out.trans K4 (fun _ f => f.elim)); clear K4)
      | (refine (C5.out ba ea ec _ sa sc W5 (HA.out.kept HK5.out)).mono ?_; clear C5; rintro e W6 ⟨rfl, K6⟩; have HK6 := hideG (HK5.out.trans K6 (fun _ f => f.elim)); clear K6)))
  go_ret
  exact ⟨rfl, HK1.out.trans HK6.out (fun _ f => f.elim)⟩
end Go.Proofs.YtacmmclamkhpcaaDoor
