import Derived.Test.YtmpneljkpcniiaaDoorWrG
namespace Go.Proofs.YtmpneljkpcniiaaDoor
open Go.ChangeShapes Go.WideShapes Go.ChangeAt Go.RowKit

theorem Rd.drewN {w : World} {br : Nat} {v : Value} {l : List Int} {p : Nat} (h : Rd w br v l p) (n : Nat) : Rd (w.drewN n) br v l p := h.kept (Kept.drewN w n) (fun f => f) (fun _ _ f => f)
theorem RKept {br : Nat} {w : World} (n : Nat) (q : Value) : Kept (fun i => i = br) w ((w.drewN n).setCell ⟨br, 1, none⟩ q) :=
  ((Kept.drewN w n).mono (fun _ f => f.elim)).trans (Kept.setCell _ _ _) (fun _ hi => .inl hi)

/-- Which error a uvarint's refusal is. -/
def errOf (a0 a1 : Addr) (e : Nat) : Value := if e = 0 then errV a0 else errV a1
set_option maxRecDepth 20000 in
theorem ruv_err (br : Nat) (v : Value) (l : List Int) (p er : Nat) (a0 a1 : Addr) (w : World) (h : Rd w br v l p) (hr : rdu 0 0 (l.drop p) = .error er)
    (g0 : w.cell? ⟨3, 0, none⟩ = some (errV a0)) (g1 : w.cell? ⟨4, 0, none⟩ = some (errV a1)) :
    Calls Tryd.prog 21 #[.pointer (some ⟨br, 0, none⟩)] w fun e w' => e = .returned (.tuple #[.int .u64 0, errOf a0 a1 er]) ∧ ∃ n, w' = w.drewN n := by
  have hc := h.cell1
  have hc0 := h.cell0
  have hs := h.sm
  obtain ⟨a, c, rfl, hb, _⟩ := bytes_of_own h.own
  obtain ⟨ad, had⟩ : ∃ ad, errOf a0 a1 er = .iface 77 (.pointer (some ad)) := by
    unfold errOf errV
    split
    · exact ⟨_, rfl⟩
    · exact ⟨_, rfl⟩
  have c1 : ∀ n, Calls Tryd.prog 31 #[.slice a l.length c, .int .i64 p] (w.drewN n) fun e w' => e = .returned (.tuple #[.int .u64 0, .int .i64 0, .iface 77 (.pointer (some ad))]) ∧ ∃ m, w' = w.drewN m := by
    intro n
    refine (uvat_any l a c p (errV a0) (errV a1) (w.drewN n) hb h.isb h.le (by omega) g0 g1).mono ?_
    rintro e w' ⟨rfl, m, rfl⟩
    refine ⟨?_, n + m, by rw [World.drewN_drewN]⟩
    rw [hr, ← had]
    cases er with
    | zero => rfl
    | succ k => rfl
  have C1 := hide c1
  rw [had]
  clear h hb g0 g1 hr c1 had
  go_enter Tryd.func21, Tryd.ntmps21
  go_wp2_with fail
  go_quiet ((exact C1.out _))
  go_wp2
  go_ret2
  exact ⟨rfl, _, rfl⟩

theorem zag0 : zag 0 = 0 := by decide
end Go.Proofs.YtmpneljkpcniiaaDoor
