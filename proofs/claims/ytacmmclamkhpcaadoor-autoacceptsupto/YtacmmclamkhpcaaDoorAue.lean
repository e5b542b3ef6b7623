import Derived.Test.YtacmmclamkhpcaaDoorAud
import Derived.Test.YtacmmclamkhpcaaDoorShl
namespace Go.Proofs.YtacmmclamkhpcaaDoor
open Go.ChangeShapes Go.WideShapes Go.ChangeAt Go.RowKit

theorem clone_any (s : ByteArray) (w : World) (hs : s.size ≤ 281474976710656) : Calls Tryd.prog 28 #[.string s] w fun e w' => e = .returned (.string s) ∧ Kept (fun _ => False) w w' := by
  have HC := hideG (Tryd.stringslite_Clone s w hs)
  go_enter Tryd.func28, Tryd.ntmps28
  go_wp2_with (go_at_call 38; refine HC.out.mono ?_; rintro e W ⟨rfl, hb⟩)
  go_ret
  exact ⟨rfl, Kept.of_below hb⟩
/-- Does the pattern match? Is the text alive? -/
def accW (E : List Int) (l : List UInt8) : Bool := decide (runW E l ≠ []) && decide ((runW E l).getLast? = some E.length)
def alvW (E : List Int) (l : List UInt8) : Bool := decide (0 < (runW E l).length)
theorem aliveW_any (E : List Int) (ea : Option Addr) (ec : Nat) (p : ByteArray) (sa : Option Addr) (sc ba : Nat) (l : List UInt8) (w : World) (hA : WAu w ba E ea ec p sa sc) (hEl : E.length ≤ 137438953000) (hl : l.length ≤ 1099511627776) :
    Calls Tryd.prog 13 #[.pointer (some ⟨ba, 0, none⟩), .string (bq l)] w fun e w' => e = .returned (.bool (alvW E l)) ∧ Kept (fun _ => False) w w' := by
  have CB := hideG (behindW_any E ea ec p sa sc ba l w hA hEl hl)
  clear hA hl
  go_enter Tryd.func13, Tryd.ntmps13
  go_wp2_with (first
    | (go_at_call 21; refine CB.out.mono ?_; clear CB; rintro e W ⟨⟨a, c, t, rfl, hN⟩, K1⟩)
    | (go_at_call 22; refine (isAlive_any a _ c W).mono ?_; rintro e W2 ⟨rfl, e2⟩; subst e2))
  go_ret
  exact ⟨rfl, K1⟩
set_option maxRecDepth 20000 in
set_option maxHeartbeats 4000000 in
theorem acceptsW_any (E : List Int) (ea : Option Addr) (ec : Nat) (p : ByteArray) (sa : Option Addr) (sc ba : Nat) (l : List UInt8) (w : World) (hA : WAu w ba E ea ec p sa sc) (hEl : E.length ≤ 137438953000) (hl : l.length ≤ 1099511627776) (hr : (runW E l).length ≤ 1099511627776) :
    Calls Tryd.prog 11 #[.pointer (some ⟨ba, 0, none⟩), .string (bq l)] w fun e w' => e = .returned (.bool (accW E l)) ∧ Kept (fun _ => False) w w' := by
  have CB := hideG (behindW_any E ea ec p sa sc ba l w hA hEl hl)
  have HA := hideG hA
  obtain ⟨R, hR⟩ : ∃ R, R = accW E l := ⟨_, rfl⟩
  rw [← hR]
  have hR' := hR
  unfold accW at hR'
  have HR := hideG hR'
  obtain ⟨S, hS⟩ : ∃ S, S = runW E l := ⟨_, rfl⟩
  rw [← hS] at HR CB hr
  clear hA hl hR hR' hS
  have M1 := methA
  by_cases hne : S = []
  · have HQ : Hid (R = false) := hideG (by rw [HR.out, hne]; simp)
    obtain rfl : R = false := HQ.out
    subst hne
    clear HR M1
    have CI : ∀ a c W, Calls Tryd.prog 22 #[.slice a 0 c] W fun e w' => e = .returned (.bool false) ∧ w' = W := fun a c W => isAlive_any a 0 c W
    go_enter Tryd.func11, Tryd.ntmps11
    go_wp2_with (first
      | (go_at_call 21; refine CB.out.mono ?_; clear CB; rintro e W ⟨⟨a, c, t, rfl, hN⟩, K1⟩)
      | (go_at_call 22; refine (CI a c W).mono ?_; rintro e W2 ⟨rfl, e2⟩; subst e2))
    go_ret
    exact ⟨rfl, K1⟩
  · have HQ : Hid (R = decide (S.getLast? = some E.length)) := hideG (by rw [HR.out, decide_eq_true hne, Bool.true_and])
    have hpos : 0 < S.length := List.length_pos_iff.2 hne
    have CI : ∀ a c W, Calls Tryd.prog 22 #[.slice a S.length c] W fun e w' => e = .returned (.bool true) ∧ w' = W := fun a c W => by have := isAlive_any a S.length c W; rwa [decide_eq_true hpos] at this
    have CA : Hid (∀ a c W, NsAt W a (nz S) → Calls Tryd.prog 64 #[.agg #[.slice ea E.length ec, .string p], .slice a S.length c] W fun e w' => e = .returned (.bool R) ∧ Kept (fun _ => False) W w') := hideG (fun a c W h => by rw [HQ.out]; exact waccepts_any E ea ec p W S a c h hne hr)
    obtain ⟨m, hm⟩ : ∃ m, m = E.length := ⟨_, rfl⟩
    have HC0 : Hid (∀ W, Kept (fun _ => False) w W → W.cell? ⟨ba, 0, none⟩ = some (.iface 77 (.agg #[.slice ea m ec, .string p]))) := hideG (fun W k => by rw [hm]; exact k.cell HA.out.c0 (fun f => f))
    rw [← hm] at CA
    obtain ⟨n, hn⟩ : ∃ n, n = S.length := ⟨_, rfl⟩
    rw [← hn] at CI CA CB hpos
    clear HR HQ hm hne hn
    go_enter Tryd.func11, Tryd.ntmps11
    go_wp2_with (first
      | (go_at_call 21; refine CB.out.mono ?_; clear CB; rintro e W ⟨⟨a, c, t, rfl, hN⟩, K1⟩; have c0 := HC0.out W K1; have HNs := hideG hN; clear hN)
      | (go_at_call 22; refine (CI a c W).mono ?_; rintro e W2 ⟨rfl, e2⟩; subst e2)
      | (go_at_call 64; refine (CA.out a c _ HNs.out).mono ?_; rintro e W3 ⟨rfl, K3⟩))
    go_ret
    exact ⟨rfl, K1.trans K3 (fun _ f => f.elim)⟩
end Go.Proofs.YtacmmclamkhpcaaDoor
