import Derived.Test.YtehjbceknnopoaaDoorSpo
import Derived.Test.YtehjbceknnopoaaDoorOpc
import Derived.BigRegion
namespace Go.Proofs.YtehjbceknnopoaaDoor
open Go.ChangeShapes Go.WideShapes Go.ChangeAt Go.RowKit

theorem num_sum {w : World} {a0 a1 a2 a3 a4 a5 a6 : Addr} (h : Errs7 w a0 a1 a2 a3 a4 a5 a6) : Calls Tryd.prog 18 #[.iface 103 (.pointer (some a6))] w fun e w' => e = .returned (.int .i64 7) ∧ w' = w := by
  have v0 := h.s0.var
  have v1 := h.s1.var
  have v2 := h.s2.var
  have v3 := h.s3.var
  have v4 := h.s4.var
  have v5 := h.s5.var
  have v6 := h.s6.var
  have e0 := err_neqF h.s6 h.s0 (by decide)
  have e1 := err_neqF h.s6 h.s1 (by decide)
  have e2 := err_neqF h.s6 h.s2 (by decide)
  have e3 := err_neqF h.s6 h.s3 (by decide)
  have e4 := err_neqF h.s6 h.s4 (by decide)
  have e5 := err_neqF h.s6 h.s5 (by decide)
  have e6 := err_eqF a6
  clear h
  go_enter Tryd.func18, Tryd.ntmps18
  go_wp2
  go_ret
  exact ⟨rfl, rfl⟩
theorem bytes_set {W : World} {g i n : Nat} {E : List Int} {x : Int} (ho : W.ownsRow g 5 1 (.slice (some ⟨g, 0, none⟩) n n) n (bs E)) (hi : i < E.length) : BytesAt (W.setCell ⟨g, i, none⟩ (.int .u8 x)) (some ⟨g, 0, none⟩) (E.set i x) ∧ W.cell? ⟨g, i, none⟩ = some (.int .u8 (E[i]?.getD 0)) ∧ W.frozen? ⟨g, i, none⟩ = false := by
  have hb := (own_bytesF ho).1
  rcases ho.2 with ⟨e, _⟩ | ⟨g', cap, cur, hv, _, hg, _⟩
  · cases e
  simp only [Value.slice.injEq, Option.some.injEq, Addr.mk.injEq, and_true] at hv
  obtain ⟨rfl, -, -⟩ := hv
  obtain ⟨b', off', e, hc⟩ := hb (by intro e; rw [e] at hi; simp at hi)
  simp only [Option.some.injEq, Addr.mk.injEq, and_true] at e
  obtain ⟨rfl, rfl⟩ := e
  have hci := hc i hi
  rw [Nat.zero_add] at hci
  refine ⟨fun _ => ⟨g, 0, rfl, fun k hk => ?_⟩, hci, by simp [World.frozen?, hg]⟩
  rw [List.length_set] at hk
  rw [Nat.zero_add]
  by_cases hki : k = i
  · subst hki
    rw [List.getElem?_set_self hk]
    have h1 := heap_setCell_same W g k cur _ (.int .u8 x) hg
    rw [cell_of_row _ _ _ _ _ _ h1]
    have hlt : k < cur.size := by
      have := cell_of_row W g k cur _ _ hg
      rw [this] at hci
      exact (Array.getElem?_eq_some_iff.1 hci).1
    simp [hlt]
  · rw [List.getElem?_set_ne (fun e => hki e.symm)]
    have h1 := heap_setCell_same W g i cur _ (.int .u8 x) hg
    have hck := hc k hk
    rw [Nat.zero_add, cell_of_row W g k cur _ _ hg] at hck
    rw [cell_of_row _ _ _ _ _ _ h1]
    rw [Array.getElem?_setIfInBounds_ne (fun e => hki e.symm)]
    exact hck
end Go.Proofs.YtehjbceknnopoaaDoor
