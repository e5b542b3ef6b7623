import Derived.Test.YtiebmmpnmklpnaaDoorRdB
import Derived.Laws.BytesArg
namespace Go.Proofs.YtiebmmpnmklpnaaDoor
open Go.ChangeShapes Go.WideShapes Go.ChangeAt Go.RowKit

theorem rdu_le : ∀ (l : List Int) (i acc v k : Nat), rdu i acc l = .ok (v, k) → i < k ∧ k ≤ i + l.length := by
  intro l
  induction l with
  | nil => intro i acc v k h; simp [rdu] at h
  | cons c r ih =>
    intro i acc v k h
    rw [rdu] at h
    split at h
    · cases h
    · split at h
      · split at h
        · cases h
        · simp at h
          obtain ⟨_, rfl⟩ := h
          simp
      · have := ih _ _ _ _ h
        simp at *
        omega
theorem rdu_lt : ∀ (l : List Int) (i acc v k : Nat), i ≤ 9 → acc < 2 ^ (7 * i) → (∀ x ∈ l, 0 ≤ x ∧ x ≤ 255) → rdu i acc l = .ok (v, k) → v < 18446744073709551616 := by
  intro l
  induction l with
  | nil => intro i acc v k _ _ _ h; simp [rdu] at h
  | cons c r ih =>
    intro i acc v k hi ha hb h
    have hc := hb c (List.mem_cons_self ..)
    rw [rdu] at h
    split at h
    · cases h
    · rename_i h9
      have hq := uv_or acc c.toNat i ha hi (by omega)
      split at h
      · split at h
        · cases h
        · simp at h
          obtain ⟨rfl, _⟩ := h
          exact hq.2.2
      · exact ih _ _ _ _ (by omega) (hq.2.1 (by omega)) (fun x hx => hb x (List.mem_cons_of_mem _ hx)) h

/-- string(b) of an owned row. -/
theorem conv_own {w : World} {base g n cap : Nat} {l : List Int} (h : w.ownsRow base 5 1 (.slice (some ⟨g, 0, none⟩) n cap) n (bs l)) :
    (convert 25 9 (.slice (some ⟨g, 0, none⟩) n cap)).run Tryd.prog w = .ok (.string (strOfNums l)) w := by
  obtain ⟨a, c, e, hb, hn⟩ := bytes_of_own h
  simp only [Value.slice.injEq] at e
  obtain ⟨rfl, _, rfl⟩ := e
  refine run_convert_bytes_arg w 25 5 Tryd.underlying25 Tryd.underlying5 g 0 n cap l hn.symm (fun i hi => ?_) 9 Tryd.underlying9
  have hl : l ≠ [] := by intro e; rw [e] at hn; simp at hn; omega
  obtain ⟨b, off, e, hc⟩ := hb hl
  simp only [Option.some.injEq, Addr.mk.injEq, and_true] at e
  obtain ⟨rfl, rfl⟩ := e
  have := hc i (by omega)
  simpa [List.getD] using this
/-- An error as an answer. -/
def errV (a : Addr) : Value := .iface 120 (.pointer (some a))

theorem left_any (br : Nat) (v : Value) (l : List Int) (p : Nat) (w : World) (h : Rd w br v l p) :
    Calls Tryd.prog 36 #[.pointer (some ⟨br, 0, none⟩)] w fun e w' => e = .returned (.int .i64 ((l.length - p : Nat) : Int)) ∧ ∃ n, w' = w.drewN n := by
  have hc := h.cell1
  have hc0 := h.cell0
  have hp := h.le
  have hs := h.sm
  obtain ⟨a, c, rfl, _, _⟩ := bytes_of_own h.own
  clear h
  go_enter Tryd.func36, Tryd.ntmps36
  go_wp2_with fail
  go_quiet (fail)
  go_wp2
  go_ret
  exact ⟨ret_int (by first | omega | (rw [IntKind.wrap_i64]; omega)), _, rfl⟩

set_option maxRecDepth 20000 in
set_option maxHeartbeats 1000000 in
theorem ruv_ok (br : Nat) (v : Value) (l : List Int) (p x k : Nat) (a0 a1 : Addr) (w : World) (h : Rd w br v l p) (hr : rdu 0 0 (l.drop p) = .ok (x, k))
    (g0 : w.cell? ⟨1, 0, none⟩ = some (errV a0)) (g1 : w.cell? ⟨2, 0, none⟩ = some (errV a1)) :
    Calls Tryd.prog 56 #[.pointer (some ⟨br, 0, none⟩)] w fun e w' => e = .returned (.tuple #[.int .u64 x, .nilIface]) ∧ Rd w' br v l (p + k) ∧ Kept (fun i => i = br) w w' := by
  have hc := h.cell1
  have hc0 := h.cell0
  have hf := h.free1
  have hp := h.le
  have hs := h.sm
  have HH := hide h
  have hk := rdu_le _ _ _ _ _ hr
  rw [List.length_drop] at hk
  obtain ⟨a, c, rfl, hb, _⟩ := bytes_of_own h.own
  have c1 : ∀ n, Calls Tryd.prog 59 #[.slice a l.length c, .int .i64 p] (w.drewN n) fun e w' => e = .returned (.tuple #[.int .u64 x, .int .i64 ((p : Int) + k), .nilIface]) ∧ ∃ m, w' = w.drewN m := by
    intro n
    refine (uvat_any l a c p (errV a0) (errV a1) (w.drewN n) hb h.isb h.le (by omega) g0 g1).mono ?_
    rintro e w' ⟨rfl, m, rfl⟩
    refine ⟨?_, n + m, by rw [World.drewN_drewN]⟩
    rw [hr]
    simp [uvRes]
  have C1 := hide c1
  clear h hb g0 g1 hr c1
  go_enter Tryd.func56, Tryd.ntmps56
  go_wp2_with fail
  go_quiet ((exact C1.out _))
  go_wp2
  go_ret2
  have e : (p : Int) + k = ((p + k : Nat) : Int) := by omega
  have q := (HH.out.kept (Kept.drewN w nq) (fun f => f) (fun _ _ f => f)).move (q := p + k) (by omega)
  rw [e]
  exact ⟨rfl, q, ((Kept.drewN w nq).mono (fun _ f => f.elim)).trans (Kept.setCell _ _ _) (fun i hi => .inl hi)⟩
end Go.Proofs.YtiebmmpnmklpnaaDoor
