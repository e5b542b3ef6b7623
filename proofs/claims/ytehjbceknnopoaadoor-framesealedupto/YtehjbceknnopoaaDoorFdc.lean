import Derived.Test.YtehjbceknnopoaaDoorRdd
import Derived.Test.YtehjbceknnopoaaDoorFsw
namespace Go.Proofs.YtehjbceknnopoaaDoor
open Go.ChangeShapes Go.WideShapes Go.ChangeAt Go.RowKit

theorem rdecode_any (l : List Int) (a : Option Addr) (n c : Nat) (w : World) (hn : n = l.length) (hB : BytesAt w a l) (hb : IsBytes l) (hc : l.length ≤ c) (hl : l.length ≤ 140737488355000) :
    Calls Tryd.prog 23 #[.slice a n c] w fun e w' => RdPost w e w' (decR l) := by
  cases hr : bodyR l with
  | error er =>
    have e : decR l = .error er := by unfold decR; rw [hr]
    rw [e]
    exact rdec_err l a n c er w hn hB hb hc (by omega) hr
  | ok pq =>
    obtain ⟨p, q⟩ := pq
    exact rdec_ok l a n c p q w hn hB hb hc hl hr
theorem num_short {w : World} {a0 a1 a2 a3 a4 a5 a6 : Addr} (h : Errs7 w a0 a1 a2 a3 a4 a5 a6) : Calls Tryd.prog 18 #[.iface 103 (.pointer (some a0))] w fun e w' => e = .returned (.int .i64 1) ∧ w' = w := by
  have v0 := h.s0.var
  have e0 := err_eqF a0
  clear h
  go_enter Tryd.func18, Tryd.ntmps18
  go_wp2
  go_ret
  exact ⟨rfl, rfl⟩
theorem num_varint {w : World} {a0 a1 a2 a3 a4 a5 a6 : Addr} (h : Errs7 w a0 a1 a2 a3 a4 a5 a6) : Calls Tryd.prog 18 #[.iface 103 (.pointer (some a1))] w fun e w' => e = .returned (.int .i64 2) ∧ w' = w := by
  have v0 := h.s0.var
  have v1 := h.s1.var
  have e0 := err_neqF h.s1 h.s0 (by decide)
  have e1 := err_eqF a1
  clear h
  go_enter Tryd.func18, Tryd.ntmps18
  go_wp2
  go_ret
  exact ⟨rfl, rfl⟩
theorem decR_codes {l : List Int} {er : Nat} (h : decR l = .error er) : er = 0 ∨ er = 1 ∨ er = 5 ∨ er = 6 := by
  unfold decR at h
  split at h
  · rename_i e hb
    cases h
    unfold bodyR at hb
    split at hb
    · cases hb; exact .inl rfl
    split at hb
    · cases hb; exact .inr (.inr (.inl rfl))
    split at hb
    · rename_i hr
      cases hb
      rcases rdu_codes _ _ _ _ hr with e | e
      · exact .inl e
      · exact .inr (.inl e)
    · split at hb
      · cases hb; exact .inl rfl
      · cases hb
  · split at h
    · cases h
    · cases h; exact .inr (.inr (.inr rfl))
theorem num_er {w : World} {a0 a1 a2 a3 a4 a5 a6 : Addr} {er : Nat} (h : Errs7 w a0 a1 a2 a3 a4 a5 a6) (he : er = 0 ∨ er = 1 ∨ er = 5 ∨ er = 6) : Calls Tryd.prog 18 #[erD a0 a1 a5 a6 er] w fun e w' => e = .returned (.int .i64 ((er + 1 : Nat) : Int)) ∧ w' = w := by
  rcases he with rfl | rfl | rfl | rfl
  · exact num_short h
  · exact num_varint h
  · exact num_tag h
  · exact num_sum h
end Go.Proofs.YtehjbceknnopoaaDoor
