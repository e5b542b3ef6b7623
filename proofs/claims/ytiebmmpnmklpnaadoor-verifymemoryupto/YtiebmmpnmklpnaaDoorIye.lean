import Derived.Test.YtiebmmpnmklpnaaDoorPgm
import Derived.Test.YtiebmmpnmklpnaaDoorIzb
import Derived.BigQuiet
namespace Go.Proofs.YtiebmmpnmklpnaaDoor
open Go.ChangeShapes Go.WideShapes Go.ChangeAt Go.RowKit

theorem take_both {α : Type} {l m : List α} {j : Nat} (hl : j < l.length) (hm : j < m.length) (h : l.take j = m.take j) (e : l[j] = m[j]) : l.take (j + 1) = m.take (j + 1) := by
  rw [List.take_succ_eq_append_getElem hl, List.take_succ_eq_append_getElem hm, h, e]
set_option maxRecDepth 20000 in
set_option maxHeartbeats 4000000 in
theorem sameI_iff (l m : List Int) (a b : Option Addr) (c d : Nat) (w : World) (hA : IntsAt w a l) (hB : IntsAt w b m) (hl : l.length ≤ 9223372036854775807) (hm : m.length ≤ 9223372036854775807) :
    Calls Tryd.prog 13 #[.slice a l.length c, .slice b m.length d] w fun e w' => ∃ v, e = .returned (.bool v) ∧ (v = true ↔ l = m) ∧ Kept (fun _ => False) w w' := by
  have HA := hideI hA
  have HB := hideI hB
  clear hA hB
  obtain ⟨nl, hnl⟩ : ∃ nl, nl = l.length := ⟨_, rfl⟩
  obtain ⟨nm, hnm⟩ : ∃ nm, nm = m.length := ⟨_, rfl⟩
  rw [← hnl] at hl ⊢
  rw [← hnm] at hm ⊢
  have HNL := hideI hnl
  have HNM := hideI hnm
  clear hnl hnm
  by_cases hq : nl = nm
  · subst hq
    have hne : ((nl : Int) != (nl : Int)) = false := by simp
    go_enter Tryd.func13, Tryd.ntmps13
    go_wp2
    clear hne
    go_loopw [13] (fun v13 wr => ∃ (j : Nat), j ≤ nl ∧ v13 = .int .i64 j ∧ Hid (l.take j = m.take j) ∧ Hid (Kept (fun _ => False) w wr)) (fun v13 _ => nl - (intOf v13).toNat)
    case atStart => exact ⟨0, by omega, rfl, hideI rfl, hideI (Kept.refl _ _)⟩
    case round =>
      obtain ⟨j, hj, rfl, HT, HK⟩ := hrel
      by_cases hlt : j < nl
      · have hjl : j < l.length := by rw [← HNL.out]; exact hlt
        have hjm : j < m.length := by rw [← HNM.out]; exact hlt
        have hji : (j : Int) < (nl : Int) := by omega
        obtain ⟨b1, o1, rfl, hc1⟩ := HA.out.get hjl
        obtain ⟨b2, o2, rfl, hc2⟩ := HB.out.get hjm
        rw [List.getElem?_eq_getElem hjl, Option.getD_some] at hc1
        rw [List.getElem?_eq_getElem hjm, Option.getD_some] at hc2
        have h0 := HK.out.cell hc1 (fun f => f)
        have g0 := HK.out.cell hc2 (fun f => f)
        have HS : Hid (l[j] = m[j] → l.take (j + 1) = m.take (j + 1)) := hideI (fun e => take_both hjl hjm HT.out e)
        have HD : Hid (l[j] ≠ m[j] → l ≠ m) := hideI (fun e f => e (by subst f; rfl))
        generalize l[j] = x at *
        generalize m[j] = y at *
        clear hc1 hc2 hjl hjm HT
        by_cases hxy : x = y
        · have HS1 := hideI (HS.out hxy)
          clear HS HD
          subst hxy
          have hx0 : (x != x) = false := by simp
          go_wp2_with fail
          go_quiet (fail)
          have HKq := hideI (HK.out.trans (Kept.drewN wr nq) (fun _ f => f.elim))
          go_wp2
          go_roundw
          case rel => exact ⟨j + 1, hlt, by go_num, HS1, HKq⟩
          case measure => simp [intOf]; omega
        · have hx0 : (x != y) = true := by simp [hxy]
          have HXY := hideI hxy
          go_wp2_with fail
          go_quiet (fail)
          have HKq := hideI (HK.out.trans (Kept.drewN wr nq) (fun _ f => f.elim))
          go_wp2
          go_ret
          exact ⟨_, rfl, ⟨fun f => (by cases f), fun f => absurd f (HD.out HXY.out)⟩, HKq.out⟩
      · obtain rfl : j = nl := by omega
        go_wp2
        go_ret
        refine ⟨_, rfl, ⟨fun _ => ?_, fun _ => rfl⟩, HK.out⟩
        have := HT.out
        rw [List.take_of_length_le (by rw [HNL.out]; exact Nat.le_refl _), List.take_of_length_le (by rw [HNM.out]; exact Nat.le_refl _)] at this
        exact this
  · have hne : ((nl : Int) != (nm : Int)) = true := by simp; omega
    have HQ := hideI hq
    go_enter Tryd.func13, Tryd.ntmps13
    go_wp2
    go_ret
    exact ⟨_, rfl, ⟨fun f => (by cases f), fun f => absurd (by rw [HNL.out, HNM.out, f]) HQ.out⟩, Kept.refl _ _⟩
end Go.Proofs.YtiebmmpnmklpnaaDoor
