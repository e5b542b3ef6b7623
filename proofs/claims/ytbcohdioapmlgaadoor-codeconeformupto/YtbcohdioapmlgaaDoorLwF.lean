import Derived.Test.YtbcohdioapmlgaaDoorLwE
namespace Go.Proofs.YtbcohdioapmlgaaDoor
open Go.ChangeShapes Go.WideShapes Go.ChangeAt Go.RowKit

set_option maxRecDepth 20000 in
set_option maxHeartbeats 1000000 in
theorem same_ok (l : List Int) (a b : Option Addr) (c d : Nat) (w : World) (hA : IntsAt w a l) (hB : IntsAt w b l) (hl : l.length ≤ 17592186044416) :
    Calls Tryd.prog 19 #[.slice a l.length c, .slice b l.length d] w fun e w' => e = .returned (.bool true) ∧ ∃ n, w' = w.drewN n := by
  have HA := hide hA
  have HB := hide hB
  clear hA hB
  go_enter Tryd.func19, Tryd.ntmps19
  go_wp2
  go_loopw [13] (fun i wr => (∃ n, wr = w.drewN n) ∧ ∃ k : Nat, k ≤ l.length ∧ i = .int .i64 k) (fun i _ => l.length - (intOf i).toNat)
  case atStart => exact ⟨⟨0, rfl⟩, 0, Nat.zero_le _, rfl⟩
  case round =>
    obtain ⟨⟨n, rfl⟩, k, hk, rfl⟩ := hrel
    by_cases hlt : k < l.length
    · obtain ⟨b1, off, rfl, hc⟩ := HA.out.get hlt
      obtain ⟨b2, off', rfl, hc'⟩ := HB.out.get hlt
      obtain ⟨x, hx⟩ : ∃ x, x = l[k]?.getD 0 := ⟨_, rfl⟩
      rw [← hx] at hc hc'
      clear hx
      go_wp2_with fail
      go_quiet (fail)
      go_wp2
      go_roundw
      case rel => exact ⟨⟨_, rfl⟩, k + 1, by omega, by go_num⟩
      case measure => simp [intOf]; omega
    · obtain rfl : k = l.length := by omega
      clear hlt hk
      go_wp2
      go_ret
      exact ⟨rfl, n, rfl⟩
theorem ints_kept {F : Nat → Prop} {w w' : World} {a : Option Addr} {l : List Int} (h : IntsAt w a l) (k : Kept F w w') (hF : l ≠ [] → ∀ ad, a = some ad → ¬ F ad.block) : IntsAt w' a l := by
  intro hne
  obtain ⟨b, off, e, hc⟩ := h hne
  exact ⟨b, off, e, fun j hj => k.cell (hc j hj) (hF hne ⟨b, off, none⟩ e)⟩
theorem ints_own {w : World} {base n : Nat} {v : Value} {l : List Int} (h : w.ownsRow base 3 1 v n (is l)) : ∃ a c, v = .slice a l.length c ∧ IntsAt w a l := by
  obtain ⟨a, c, e, hn, hc⟩ := ints_of_own h
  refine ⟨a, c, by rw [e, hn], fun hne => ?_⟩
  obtain ⟨b, off, e, _, _, hc'⟩ := hc hne
  exact ⟨b, off, e, hc'⟩

end Go.Proofs.YtbcohdioapmlgaaDoor
