import Derived.Test.YthbepejoffkdjaaDoorIxb
import Derived.Test.YthbepejoffkdjaaDoorIxe
import Derived.BigQuiet
namespace Go.Proofs.YthbepejoffkdjaaDoor
open Go.ChangeShapes Go.WideShapes Go.ChangeAt Go.RowKit

set_option maxRecDepth 20000 in
set_option maxHeartbeats 4000000 in
/-- sameCode of two lists that are one. -/
theorem sameCode_true (l : List In) (a1 a2 : Option Addr) (c1 c2 : Nat) (w : World) (h1 : InsAt w a1 l) (h2 : InsAt w a2 l) (hl : l.length ≤ 9223372036854775807) :
    Calls Tryd.prog 17 #[.slice a1 l.length c1, .slice a2 l.length c2] w fun e w' => e = .returned (.bool true) ∧ Kept (fun _ => False) w w' := by
  have H1 := hideI h1
  have H2 := hideI h2
  clear h1 h2
  obtain ⟨nl, hnl⟩ : ∃ nl, nl = l.length := ⟨_, rfl⟩
  rw [← hnl] at hl ⊢
  have HNL := hideI hnl
  clear hnl
  have hne : ((nl : Int) != (nl : Int)) = false := by simp
  go_enter Tryd.func17, Tryd.ntmps17
  go_wp2
  clear hne
  go_loopw [13] (fun v13 wr => ∃ (j : Nat), j ≤ nl ∧ v13 = .int .i64 j ∧ Hid (Kept (fun _ => False) w wr)) (fun v13 _ => nl - (intOf v13).toNat)
  case atStart => exact ⟨0, by omega, rfl, hideI (Kept.refl _ _)⟩
  case round =>
    obtain ⟨j, hj, rfl, HK⟩ := hrel
    by_cases hlt : j < nl
    · have hjl : j < l.length := by rw [← HNL.out]; exact hlt
      have hji : (j : Int) < (nl : Int) := by omega
      obtain ⟨fb, fo, ea, hc⟩ := H1.out (by intro e; rw [e] at hjl; simp at hjl)
      obtain ⟨gb, go, eb, hd⟩ := H2.out (by intro e; rw [e] at hjl; simp at hjl)
      obtain ⟨x0, x1, x2⟩ := hc j hjl
      obtain ⟨y0, y1, y2⟩ := hd j hjl
      subst ea eb
      have z0 := HK.out.cell x0 (fun f => f)
      have z1 := HK.out.cell x1 (fun f => f)
      have z2 := HK.out.cell x2 (fun f => f)
      have u0' := HK.out.cell y0 (fun f => f)
      have u1' := HK.out.cell y1 (fun f => f)
      have u2' := HK.out.cell y2 (fun f => f)
      clear x0 x1 x2 y0 y1 y2 hc hd
      generalize l[j] = x at *
      obtain ⟨op, xa, xb⟩ := x
      simp only at *
      go_wp2_with fail
      go_quiet (fail)
      have HKq := hideI (HK.out.trans (Kept.drewN wr nq) (fun _ f => f.elim))
      go_wp2
      go_roundw
      case rel => exact ⟨j + 1, hlt, by go_num, HKq⟩
      case measure => simp [intOf]; omega
    · obtain rfl : j = nl := by omega
      go_wp2
      go_ret
      exact ⟨rfl, HK.out⟩
end Go.Proofs.YthbepejoffkdjaaDoor
