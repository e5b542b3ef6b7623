import Derived.Test.YtcbhgpdookappaaDoorRdB
import Derived.Laws.BytesArg
namespace Go.Proofs.YtcbhgpdookappaaDoor
open Go.ChangeShapes Go.WideShapes Go.ChangeAt Go.RowKit

theorem rdu_le : ∀ (l : List Int) (i acc v k : Nat), rdu i acc l = .ok (v, k) → i < k ∧ k ≤ i + l.length := by
  intro l
  induction l with
  | nil => intro i acc v k h; simp [rdu] at h
  | cons c r ih =>
    intro i acc v k h
    rw [rdu] at h
    split at h
    · cases h
    · split at h
      · split at h
        · cases h
        · simp at h
          obtain ⟨_, rfl⟩ := h
          simp
      · have := ih _ _ _ _ h
        simp at *
        omega
theorem rdu_lt : ∀ (l : List Int) (i acc v k : Nat), i ≤ 9 → acc < 2 ^ (7 * i) → (∀ x ∈ l, 0 ≤ x ∧ x ≤ 255) → rdu i acc l = .ok (v, k) → v < 18446744073709551616 := by
  intro l
  induction l with
  | nil => intro i acc v k _ _ _ h; simp [rdu] at h
  | cons c r ih =>
    intro i acc v k hi ha hb h
    have hc := hb c (List.mem_cons_self ..)
    rw [rdu] at h
    split at h
    · cases h
    · rename_i h9
      have hq := uv_or acc c.toNat i ha hi (by omega)
      split at h
      · split at h
        · cases h
        · simp at h
          obtain ⟨rfl, _⟩ := h
          exact hq.2.2
      · exact ih _ _ _ _ (by omega) (hq.2.1 (by omega)) (fun x hx => hb x (List.mem_cons_of_mem _ hx)) h

/-- string(b) of an owned row. -/
theorem conv_own {w : World} {base g n cap : Nat} {l : List Int} (h : w.ownsRow base 5 1 (.slice (some ⟨g, 0, none⟩) n cap) n (bs l)) :
    (convert 22 9 (.slice (some ⟨g, 0, none⟩) n cap)).run Tryd.prog w = .ok (.string (strOfNums l)) w := by
  obtain ⟨a, c, e, hb, hn⟩ := bytes_of_own h
  simp only [Value.slice.injEq] at e
  obtain ⟨rfl, _, rfl⟩ := e
  refine run_convert_bytes_arg w 22 5 Tryd.underlying22 Tryd.underlying5 g 0 n cap l hn.symm (fun i hi => ?_) 9 Tryd.underlying9
  have hl : l ≠ [] := by intro e; rw [e] at hn; simp at hn; omega
  obtain ⟨b, off, e, hc⟩ := hb hl
  simp only [Option.some.injEq, Addr.mk.injEq, and_true] at e
  obtain ⟨rfl, rfl⟩ := e
  have := hc i (by omega)
  simpa [List.getD] using this
/-- An error as an answer. -/
def errV (a : Addr) : Value := .iface 112 (.pointer (some a))

theorem at_any (br : Nat) (v : Value) (l : List Int) (p : Nat) (w : World) (h : Rd w br v l p) :
    Calls Tryd.prog 37 #[.pointer (some ⟨br, 0, none⟩)] w fun e w' => e = .returned (.int .i64 p) ∧ w' = w := by
  have hc := h.cell1
  clear h
  go_enter Tryd.func37, Tryd.ntmps37
  go_wp2
  go_ret
  exact ⟨rfl, rfl⟩
end Go.Proofs.YtcbhgpdookappaaDoor
