import Derived.Test.YtmfdoohnladohaaPlm
import Derived.Test.YtmfdoohnladohaaLvt
namespace Go.Proofs.Ytmfdoohnladohaa
open Go.ChangeShapes Go.WideShapes Go.ChangeAt Go.RowKit

theorem ends_raw (l e : List UInt8) (r : Nat) (h : e.length ≤ l.length) (hr : r = l.length - e.length) : (((bq l).extract r l.length).toList == (bq e).toList) = sfx l e := by
  subst hr
  rw [ext_drop l _ _ rfl, bq_list, bq_list, Bool.eq_iff_iff, beq_iff_eq, sfx_iff]
  exact ⟨fun x => ⟨h, x⟩, fun x => x.2⟩
theorem sfx_long (l e : List UInt8) (h : ¬ e.length ≤ l.length) : sfx l e = false := by
  cases hs : sfx l e with
  | false => rfl
  | true => exact absurd (sfx_le hs) h
set_option maxRecDepth 20000 in
set_option maxHeartbeats 2000000 in
theorem lends_any (l e : List UInt8) (w : World) (hl : l.length ≤ 281474976710656) (he : e.length ≤ 1000) :
    Calls Try.prog 8 #[.string (bq l), .string (bq e)] w fun r w' => r = .returned (.bool (sfx l e)) ∧ w' = w := by
  have z1 : ((bq l).size : Int) = (l.length : Int) := by rw [bq_size]
  have z2 : ((bq e).size : Int) = (e.length : Int) := by rw [bq_size]
  have z3 : (bq l).size = l.length := bq_size l
  by_cases h : e.length ≤ l.length
  · obtain ⟨r, hr⟩ : ∃ r, r = l.length - e.length := ⟨_, rfl⟩
    have x1 := ends_raw l e r h hr
    have r1 : (l.length : Int) - (e.length : Int) = (r : Int) := by omega
    have r2 : r ≤ l.length := by omega
    have r3 : IntKind.i64.wrap (r : Int) = (r : Int) := by rw [IntKind.wrap_i64]; omega
    have r4 : (e.length : Int) ≤ (l.length : Int) := by omega
    generalize sfx l e = B at *
    generalize bq l = s at *
    generalize bq e = t at *
    clear h hr
    go_enter Try.func8, Try.ntmps8
    go_wp2
    go_ret
    exact ⟨rfl, rfl⟩
  · rw [sfx_long l e h]
    have r4 : ¬ (e.length : Int) ≤ (l.length : Int) := by omega
    generalize bq l = s at *
    generalize bq e = t at *
    clear h
    go_enter Try.func8, Try.ntmps8
    go_wp2
    go_ret
    exact ⟨rfl, rfl⟩
end Go.Proofs.Ytmfdoohnladohaa
