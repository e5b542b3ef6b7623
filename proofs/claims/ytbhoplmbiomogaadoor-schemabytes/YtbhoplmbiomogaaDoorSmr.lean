import Derived.Test.YtbhoplmbiomogaaDoorScx
import Derived.BigQuiet
namespace Go.Proofs.YtbhoplmbiomogaaDoor
open Go.ChangeShapes Go.WideShapes Go.ChangeAt Go.RowKit

theorem hideM {p : Prop} (h : p) : Hid p := h
set_option maxRecDepth 20000 in
set_option maxHeartbeats 8000000 in
/-- The document's Same, of two lists that hold the same fields. -/
theorem rsame_any (F : List Fd) (a a' : Option Addr) (c c' : Nat) (w : World) (hF : FsAt w a F) (hF' : FsAt w a' F) (hl : F.length ≤ 4398046511104) :
    Calls Tryd.prog 11 #[.agg #[.slice a F.length c], .agg #[.slice a' F.length c']] w fun e w' => e = .returned (.bool true) ∧ Kept (fun _ => False) w w' := by
  have K0 : Kept (fun _ => False) w ((w.alloc (.cells #[.slice a F.length c] 24)).alloc (.cells #[.slice a' F.length c'] 24)) := (Kept.alloc _ _).trans (Kept.alloc _ _) (fun _ f => f.elim)
  have HF := hideM (hF.kept K0)
  have HF' := hideM (hF'.kept K0)
  have HK0 := hideM K0
  have b0 : ((w.alloc (.cells #[.slice a F.length c] 24)).alloc (.cells #[.slice a' F.length c'] 24)).cell? ⟨w.heap.size, 0, none⟩ = some (.slice a F.length c) := (Kept.alloc _ _).cell (by simp) (fun f => f)
  have b1 : ((w.alloc (.cells #[.slice a F.length c] 24)).alloc (.cells #[.slice a' F.length c'] 24)).cell? ⟨w.heap.size + 1, 0, none⟩ = some (.slice a' F.length c') := by simp
  have B0 := hideM b0
  have B1 := hideM b1
  obtain ⟨n, hn⟩ : ∃ n, n = F.length := ⟨_, rfl⟩
  rw [← hn] at HK0 B0 B1 HF HF' b0 b1 hl ⊢
  have HN := hideM hn
  clear hn hF hF' K0
  have hnn : ((n : Int) != (n : Int)) = false := by simp
  go_enter Tryd.func11, Tryd.ntmps11
  go_wp2
  generalize (w.alloc (.cells #[.slice a n c] 24)).alloc (.cells #[.slice a' n c'] 24) = W0 at *
  generalize hbx : w.heap.size = bx at *
  go_loopw [16] (fun v16 wr => ∃ (i : Nat), i ≤ n ∧ v16 = .int .i64 i ∧ Hid (Kept (fun _ => False) W0 wr)) (fun v16 _ => n - (intOf v16).toNat)
  case atStart => exact ⟨0, by omega, rfl, Kept.refl _ _⟩
  case round =>
    obtain ⟨i, hi, rfl, KK⟩ := hrel
    clear b0 b1
    by_cases hlt : i < n
    · have hlt2 : i < F.length := by rw [← HN.out]; exact hlt
      have hii : (i : Int) < (n : Int) := by omega
      have hne : F ≠ [] := by intro e; rw [e] at hlt2; simp at hlt2
      obtain ⟨fb, fo, rfl, hc⟩ := HF.out hne
      obtain ⟨fb', fo', rfl, hc'⟩ := HF'.out hne
      obtain ⟨x0, x1, x2, x3, x4⟩ := hc i hlt2
      obtain ⟨y0, y1, y2, y3, y4⟩ := hc' i hlt2
      have x0 := KK.out.cell x0 (fun f => f)
      have x1 := KK.out.cell x1 (fun f => f)
      have x2 := KK.out.cell x2 (fun f => f)
      have x3 := KK.out.cell x3 (fun f => f)
      have x4 := KK.out.cell x4 (fun f => f)
      have y0 := KK.out.cell y0 (fun f => f)
      have y1 := KK.out.cell y1 (fun f => f)
      have y2 := KK.out.cell y2 (fun f => f)
      have y3 := KK.out.cell y3 (fun f => f)
      have y4 := KK.out.cell y4 (fun f => f)
      have c0 := KK.out.cell B0.out (fun f => f)
      have c1 := KK.out.cell B1.out (fun f => f)
      clear hc hc' HF HF' hne
      generalize F[i] = f at *
      obtain ⟨nm, kd, f1, f2, f3⟩ := f
      simp only at x0 x1 x2 x3 x4 y0 y1 y2 y3 y4
      go_wp2
      go_quiet (fail)
      have KD : Hid (Kept (fun _ => False) wr (wr.drewN nq)) := hideM ⟨rfl, rfl, rfl, Nat.le_refl _, fun _ _ _ => rfl⟩
      go_wp2
      go_roundw
      case rel => exact ⟨i + 1, hlt, by go_num, hideM (KK.out.trans KD.out (fun _ f => f.elim))⟩
      case measure => simp [intOf]; omega
    · obtain rfl : i = n := by omega
      go_wp2
      go_ret
      exact ⟨rfl, HK0.out.trans KK.out (fun _ f => f.elim)⟩
end Go.Proofs.YtbhoplmbiomogaaDoor
