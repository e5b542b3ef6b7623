import Derived.Test.YtiemiphlfbaojaaDoorSyl
namespace Go.Proofs.YtiemiphlfbaojaaDoor
open Go.ChangeShapes Go.WideShapes Go.ChangeAt Go.RowKit
variable {w : World} {b rc : Nat} {a0 : Option Addr} {R : List Tn}

/-! Follow, judge. -/
def s00 : MS := ⟨0, 0, 0, ⟨0, 0, false⟩, []⟩
/-- What run answers of a row, and what it leaves. -/
def runR (R : List Tn) : Bool × MS := runF R (R.length * 10 + 5) 0 s00
theorem goo_start (R : List Tn) : Goo R (runR R) 0 s00 := ⟨⟨Nat.le_refl _, Nat.le_refl _, trivial⟩, fun _ => rfl, Nat.zero_le _, _, rfl, by unfold rkM s00 lrk; simp⟩
theorem mc_start (hR : Rw w a0 R) (hr : R.length ≤ 500000000000) : Mc w (w.alloc (.cells #[.slice a0 R.length rc, .int .i64 0, .int .u32 0, .int .i64 0, .int .i64 0, .int .i64 0, .bool false, .slice none 0 0] 53)) w.heap.size rc a0 R (.slice none 0 0) s00 :=
  ⟨heap_alloc_new w _, ⟨rfl, .inl ⟨rfl, rfl⟩⟩, Kept.alloc _ _, Nat.le_refl _, hR, Nat.zero_le _, hr, by decide⟩
def folF (R : List Tn) : List Int := if (runR R).1 || decide ((runR R).2.at' < R.length) then [] else lackL (runR R).2.mi 22
set_option maxRecDepth 20000 in
set_option maxHeartbeats 4000000 in
theorem follow_any (n : Nat) (hn : n = R.length) (hR : Rw w a0 R) (hr : R.length ≤ 500000000000) : Calls Tryd.prog 9 #[.slice a0 n rc] w (lkPost w (folF R) (folF R).length) := by
  subst hn
  have CR := hideL (run_any (mc_start (rc := rc) hR hr) (goo_start R))
  unfold rnPost at CR
  have HP : Hid (∀ a c L w', folF R = L → Gro w w' 3 1 (.slice a L.length c) L.length (iv L) → lkPost w (folF R) (folF R).length (.returned (.slice a L.length c)) w') := hideL (fun a c L w' e g => by subst e; exact ⟨a, c, rfl, g⟩)
  generalize lkPost w (folF R) (folF R).length = Q at *
  obtain ⟨B, t, hZ⟩ : ∃ B t, runR R = (B, t) := ⟨_, _, rfl⟩
  have hfo : folF R = if B || decide (t.at' < R.length) then [] else lackL t.mi 22 := by unfold folF; rw [hZ]
  rw [hZ] at CR
  dsimp only at CR
  have HK0 := hideL (Kept.alloc w (.cells #[.slice a0 R.length rc, .int .i64 0, .int .u32 0, .int .i64 0, .int .i64 0, .int .i64 0, .bool false, .slice none 0 0] 53))
  clear hZ hR
  cases B with
  | true =>
    have HF : Hid (folF R = []) := hideL (by rw [hfo]; rfl)
    generalize R.length = n at *
    clear hfo
    go_enter Tryd.func9, Tryd.ntmps9
    go_wp2_with (go_at_call 17; refine CR.out.mono ?_; clear CR; rintro e W1 ⟨rfl, v1, h1⟩; have H1 := hideL h1; clear h1)
    exact HP.out none 0 [] _ HF.out ⟨⟨rfl, .inl ⟨rfl, rfl⟩⟩, H1.out.kept⟩
  | false =>
    by_cases hlt : t.at' < R.length
    · have HF : Hid (folF R = []) := hideL (by rw [hfo, decide_eq_true hlt]; rfl)
      have hz : (t.at' : Int) < (R.length : Int) := by omega
      generalize R.length = n at *
      clear hfo
      go_enter Tryd.func9, Tryd.ntmps9
      go_wp2_with (go_at_call 17; refine CR.out.mono ?_; clear CR; rintro e W1 ⟨rfl, v1, h1⟩; have H1 := hideL h1; have x1 := H1.out.cells.2.1; clear h1)
      exact HP.out none 0 [] _ HF.out ⟨⟨rfl, .inl ⟨rfl, rfl⟩⟩, H1.out.kept⟩
    · have HF : Hid (folF R = lackL t.mi 22) := hideL (by rw [hfo, decide_eq_false hlt]; rfl)
      have hz : ¬ (t.at' : Int) < (R.length : Int) := by omega
      have CL := hideL (fun W v1 (h : Mc w W w.heap.size rc a0 R v1 t) => lacking_any h)
      generalize R.length = n at *
      clear hfo
      unfold lkPost at CL
      go_enter Tryd.func9, Tryd.ntmps9
      go_wp2_with (first
        | (go_at_call 17; refine CR.out.mono ?_; clear CR; rintro e W1 ⟨rfl, v1, h1⟩; have H1 := hideL h1; have x1 := H1.out.cells.2.1; clear h1)
        | (go_at_call 18; refine (CL.out _ _ H1.out).mono ?_; clear CL; rintro e W2 ⟨a2, c2, rfl, g2⟩; have G2 := hideL (g2.baseA H1.out.kept); clear g2))
      exact HP.out _ _ _ _ HF.out G2.out
end Go.Proofs.YtiemiphlfbaojaaDoor
