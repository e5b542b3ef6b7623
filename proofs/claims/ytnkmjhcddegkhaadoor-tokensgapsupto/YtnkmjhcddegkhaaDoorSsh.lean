import Derived.Test.YtnkmjhcddegkhaaDoorSdb
namespace Go.Proofs.YtnkmjhcddegkhaaDoor
open Go.ChangeShapes Go.WideShapes Go.ChangeAt Go.RowKit

theorem retb {a b : Bool} (h : a = b) : Ending.returned (.bool a) = .returned (.bool b) := by rw [h]
theorem wxy_any (l : List UInt8) : anyS l [[119], [120], [121]] = wxy l := by simp [anyS, wxy]
set_option maxRecDepth 20000 in
set_option maxHeartbeats 4000000 in
theorem endsShort_any (l : List UInt8) (w : World) (hl : l.length ≤ 281474976710656) :
    Calls Tryd.prog 52 #[.string (bq l)] w fun e w' => e = .returned (.bool (sht l)) ∧ Kept (fun _ => False) w w' := by
  have HV := fun w => hideV (vowels_any l w hl)
  have HW := fun w => hideV (ends_new l [[119], [120], [121]] w hl (by decide) 3 rfl #[.string ⟨#[119]⟩, .string ⟨#[120]⟩, .string ⟨#[121]⟩] rfl)
  rw [wxy_any] at HW
  have hz : (bq l).size = l.length := bq_size l
  have hz' : ((bq l).size : Int) = (l.length : Int) := by rw [hz]
  have w1 : wrap64 ((l.length : Int) - 1) = (l.length : Int) - 1 := by unfold wrap64; omega
  by_cases h3 : 3 ≤ l.length
  · obtain ⟨m, hm⟩ : ∃ m, l.length = m + 3 := ⟨l.length - 3, by omega⟩
    have hD : sht l = (!wxy l && (!vat l m && vat l (m + 1) && !vat l (m + 2))) := by
      unfold sht
      rw [decide_eq_true h3, Bool.true_and, hm, show m + 3 - 1 = m + 2 by omega, show m + 3 - 2 = m + 1 by omega, show m + 3 - 3 = m by omega]
    have H0 := vat_at l m (by omega)
    have H1 := vat_at l (m + 1) (by omega)
    have H2 := vat_at l (m + 2) (by omega)
    generalize sht l = D at hD ⊢
    generalize wxy l = X at HW hD
    generalize vat l m = v0 at H0 hD
    generalize vat l (m + 1) = v1 at H1 hD
    generalize vat l (m + 2) = v2 at H2 hD
    have HC : Hid (∀ g w w', Gro w w' 4 1 (.slice (some ⟨g, 0, none⟩) l.length l.length) l.length ((vwl l).map Value.bool) → w'.cell? ⟨g, m, none⟩ = some (.bool v0) ∧ w'.cell? ⟨g, m + 1, none⟩ = some (.bool v1) ∧ w'.cell? ⟨g, m + 2, none⟩ = some (.bool v2)) := hideV (fun g w w' h => ⟨h.at H0, h.at H1, h.at H2⟩)
    have l1 : ((m : Int) + 3) - 1 = (m : Int) + 2 := by omega
    have l2 : (m : Int) + 2 - 2 = (m : Int) := by omega
    have l3 : (m : Int) + 2 - 1 = (m : Int) + 1 := by omega
    have l7 : ¬ (m : Int) + 2 < 2 := by omega
    have e2 : (l.length : Int) = (m : Int) + 3 := by omega
    have l4 : IntKind.i64.wrap ((m : Int) + 1) = (m : Int) + 1 := by rw [IntKind.wrap_i64]; omega
    have l5 : IntKind.i64.wrap (m : Int) = (m : Int) := by rw [IntKind.wrap_i64]; omega
    have l6 : IntKind.i64.wrap ((m : Int) + 2) = (m : Int) + 2 := by rw [IntKind.wrap_i64]; omega
    generalize bq l = s at *
    clear H0 H1 H2 hm h3 
    cases X with
    | true =>
      subst hD
      clear HC
      go_enter Tryd.func52, Tryd.ntmps52
      go_wp2_with (go_at_call 50; refine (HW _).out.mono ?_; rintro e W ⟨rfl, K⟩)
      go_ret
      exact ⟨rfl, K⟩
    | false =>
      rw [Bool.not_false, Bool.true_and] at hD
      subst hD
      cases v0 <;> cases v1 <;> cases v2
      all_goals
        go_enter Tryd.func52, Tryd.ntmps52
        go_wp2_with (first
          | (go_at_call 50; refine (HW _).out.mono ?_; rintro e W ⟨rfl, K⟩)
          | (go_at_call 55; refine (HV _).out.mono ?_; rintro e W2 ⟨g, rfl, G⟩; obtain ⟨y0, y1, y2⟩ := HC.out _ _ _ G; have K2 := hideV G.kept; clear G))
        go_ret
        exact ⟨rfl, K.trans K2.out (fun _ f => f.elim)⟩
  · have hD : sht l = false := by unfold sht; rw [decide_eq_false h3]; rfl
    rw [hD]
    have z1 : (l.length : Int) - 1 < 2 := by omega
    generalize bq l = s at *
    clear HW HV
    go_enter Tryd.func52, Tryd.ntmps52
    go_wp2
    go_ret
    exact ⟨rfl, Kept.refl _ _⟩
end Go.Proofs.YtnkmjhcddegkhaaDoor
