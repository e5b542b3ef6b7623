import Derived.Test.YtoglgicmnhklbaaDoorFen
import Derived.Test.YtoglgicmnhklbaaDoorRdD
namespace Go.Proofs.YtoglgicmnhklbaaDoor
open Go.ChangeShapes Go.WideShapes Go.ChangeAt Go.RowKit

theorem bytes_take {w : World} {a : Option Addr} {l : List Int} (h : BytesAt w a l) (m : Nat) : BytesAt w a (l.take m) := by
  intro hne
  obtain ⟨b, off, e, hc⟩ := h (by intro e; rw [e] at hne; simp at hne)
  refine ⟨b, off, e, fun k hk => ?_⟩
  rw [List.length_take] at hk
  rw [List.getElem?_take, if_pos (by omega)]
  exact hc k (by omega)
/-- What the number with which bytes begin comes to. -/
def leadV (a0 a1 : Addr) : Except Nat (Nat × Nat) → Value
  | .ok (x, k) => .tuple #[.int .u64 x, .int .i64 k, .nilIface]
  | .error e => .tuple #[.int .u64 0, .int .i64 0, errOf a0 a1 e]
set_option maxRecDepth 20000 in
set_option maxHeartbeats 1000000 in
theorem lead_len (l : List Int) (m : Nat) (a : Option Addr) (n c : Nat) (a0 a1 : Addr) (w : World) (hB : BytesAt w a l) (hb : IsBytes l) (hn : n = l.length) (hm : (n ≤ 10 ∧ m = n) ∨ (10 < n ∧ m = 10)) (hc : n ≤ c) (hl : n ≤ 281474976710656)
    (g0 : w.cell? ⟨2, 0, none⟩ = some (errV a0)) (g1 : w.cell? ⟨4, 0, none⟩ = some (errV a1)) :
    Calls Tryd.prog 41 #[.slice a n c] w fun e w' => e = .returned (leadV a0 a1 (rdu 0 0 (l.take 10))) ∧ Kept (fun _ => False) w w' := by
  have hml : (l.take m).length = m := by rw [List.length_take]; omega
  have htk : l.take m = l.take 10 := by
    rcases hm with ⟨h1, h2⟩ | ⟨h1, h2⟩
    · rw [List.take_of_length_le (by omega), List.take_of_length_le (by omega)]
    · rw [h2]
  have NR : Hid (Calls Tryd.prog 44 #[.slice a m c] w fun e W => ∃ br v, e = .returned (.pointer (some ⟨br, 0, none⟩)) ∧ Hid (Rd W br v (l.take m) 0 ∧ w.heap.size ≤ br ∧ Kept (fun _ => False) w W)) := by
    have q := newr_any (l.take m) a c w (bytes_take hB m) (fun x hx => hb x (List.mem_of_mem_take hx)) (by omega)
    rw [hml] at q
    refine q.mono ?_
    rintro e W ⟨br, v, rfl, r1, r2, _, r4⟩
    exact ⟨br, v, rfl, r1, r2, r4⟩
  cases hr : rdu 0 0 (l.take 10) with
  | ok xk =>
    obtain ⟨x, k⟩ := xk
    have UV : Hid (∀ W br v, Hid (Rd W br v (l.take m) 0 ∧ w.heap.size ≤ br ∧ Kept (fun _ => False) w W) → Calls Tryd.prog 45 #[.pointer (some ⟨br, 0, none⟩)] W fun e W' => e = .returned (.tuple #[.int .u64 x, .nilIface]) ∧ Hid (Rd W' br v (l.take m) k ∧ Kept (fun _ => False) w W')) := by
      intro W br v q
      obtain ⟨q1, q2, q3⟩ := q.out
      refine (ruv_ok br v (l.take m) 0 x k a0 a1 W q1 (by rw [List.drop_zero, htk]; exact hr) (q3.cell g0 (fun f => f)) (q3.cell g1 (fun f => f))).mono ?_
      rintro e W' ⟨rfl, r1, r2⟩
      rw [Nat.zero_add] at r1
      exact ⟨rfl, r1, q3.trans r2 (fun i e => .inr (by omega))⟩
    have AT : Hid (∀ W br v, Hid (Rd W br v (l.take m) k ∧ Kept (fun _ => False) w W) → Calls Tryd.prog 46 #[.pointer (some ⟨br, 0, none⟩)] W fun e W' => e = .returned (.int .i64 k) ∧ W' = W) := fun W br v q => at_any br v (l.take m) k W q.out.1
    have ev : leadV a0 a1 (.ok (x, k)) = .tuple #[.int .u64 x, .int .i64 k, .nilIface] := rfl
    rw [ev]
    clear hB hb g0 g1 hr hml htk hn ev
    rcases hm with ⟨h1, rfl⟩ | ⟨h1, rfl⟩
    · go_enter Tryd.func41, Tryd.ntmps41
      go_wp2_with (first | (go_at_call 44; refine NR.out.mono ?_; rintro e W2 ⟨br, v, rfl, K2⟩) | (go_at_call 45; refine (UV.out W2 br v K2).mono ?_; rintro e W3 ⟨rfl, K3⟩) | (go_at_call 46; refine (AT.out W3 br v K3).mono ?_; rintro e W3 ⟨rfl, e2⟩; subst e2))
      go_ret3
      exact ⟨rfl, K3.out.2⟩
    · go_enter Tryd.func41, Tryd.ntmps41
      go_wp2_with (first | (go_at_call 44; refine NR.out.mono ?_; rintro e W2 ⟨br, v, rfl, K2⟩) | (go_at_call 45; refine (UV.out W2 br v K2).mono ?_; rintro e W3 ⟨rfl, K3⟩) | (go_at_call 46; refine (AT.out W3 br v K3).mono ?_; rintro e W3 ⟨rfl, e2⟩; subst e2))
      go_ret3
      exact ⟨rfl, K3.out.2⟩
  | error er =>
    have UV : Hid (∀ W br v, Hid (Rd W br v (l.take m) 0 ∧ w.heap.size ≤ br ∧ Kept (fun _ => False) w W) → Calls Tryd.prog 45 #[.pointer (some ⟨br, 0, none⟩)] W fun e W' => e = .returned (.tuple #[.int .u64 0, errOf a0 a1 er]) ∧ Hid (Rd W' br v (l.take m) 0 ∧ Kept (fun _ => False) w W')) := by
      intro W br v q
      obtain ⟨q1, q2, q3⟩ := q.out
      refine (ruv_err br v (l.take m) 0 er a0 a1 W q1 (by rw [List.drop_zero, htk]; exact hr) (q3.cell g0 (fun f => f)) (q3.cell g1 (fun f => f))).mono ?_
      rintro e W' ⟨rfl, n, rfl⟩
      exact ⟨rfl, q1.drewN n, q3.trans (Kept.drewN _ _) (fun _ f => f.elim)⟩
    have AT : Hid (∀ W br v, Hid (Rd W br v (l.take m) 0 ∧ Kept (fun _ => False) w W) → Calls Tryd.prog 46 #[.pointer (some ⟨br, 0, none⟩)] W fun e W' => e = .returned (.int .i64 0) ∧ W' = W) := fun W br v q => at_any br v (l.take m) 0 W q.out.1
    have ev : leadV a0 a1 (.error er) = .tuple #[.int .u64 0, .int .i64 0, errOf a0 a1 er] := rfl
    rw [ev]
    obtain ⟨ad, had⟩ : ∃ ad, errOf a0 a1 er = .iface 98 (.pointer (some ad)) := by unfold errOf errV; split <;> exact ⟨_, rfl⟩
    rw [had] at UV ⊢
    clear hB hb g0 g1 hr hml htk hn ev had
    rcases hm with ⟨h1, rfl⟩ | ⟨h1, rfl⟩
    · go_enter Tryd.func41, Tryd.ntmps41
      go_wp2_with (first | (go_at_call 44; refine NR.out.mono ?_; rintro e W2 ⟨br, v, rfl, K2⟩) | (go_at_call 45; refine (UV.out W2 br v K2).mono ?_; rintro e W3 ⟨rfl, K3⟩) | (go_at_call 46; refine (AT.out W3 br v K3).mono ?_; rintro e W3 ⟨rfl, e2⟩; subst e2))
      go_ret3
      exact ⟨rfl, K3.out.2⟩
    · go_enter Tryd.func41, Tryd.ntmps41
      go_wp2_with (first | (go_at_call 44; refine NR.out.mono ?_; rintro e W2 ⟨br, v, rfl, K2⟩) | (go_at_call 45; refine (UV.out W2 br v K2).mono ?_; rintro e W3 ⟨rfl, K3⟩) | (go_at_call 46; refine (AT.out W3 br v K3).mono ?_; rintro e W3 ⟨rfl, e2⟩; subst e2))
      go_ret3
      exact ⟨rfl, K3.out.2⟩
theorem lead_any (l : List Int) (a : Option Addr) (c : Nat) (a0 a1 : Addr) (w : World) (hB : BytesAt w a l) (hb : IsBytes l) (hc : l.length ≤ c) (hl : l.length ≤ 281474976710656)
    (g0 : w.cell? ⟨2, 0, none⟩ = some (errV a0)) (g1 : w.cell? ⟨4, 0, none⟩ = some (errV a1)) :
    Calls Tryd.prog 41 #[.slice a l.length c] w fun e w' => e = .returned (leadV a0 a1 (rdu 0 0 (l.take 10))) ∧ Kept (fun _ => False) w w' := by
  by_cases h : l.length ≤ 10
  · exact lead_len l l.length a l.length c a0 a1 w hB hb rfl (.inl ⟨h, rfl⟩) hc hl g0 g1
  · exact lead_len l 10 a l.length c a0 a1 w hB hb rfl (.inr ⟨by omega, rfl⟩) hc hl g0 g1
end Go.Proofs.YtoglgicmnhklbaaDoor
