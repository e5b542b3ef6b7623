import Derived.Test.YtiebmmpnmklpnaaDoorWrG
namespace Go.Proofs.YtiebmmpnmklpnaaDoor
open Go.ChangeShapes Go.WideShapes Go.ChangeAt Go.RowKit

theorem Rd.drewN {w : World} {br : Nat} {v : Value} {l : List Int} {p : Nat} (h : Rd w br v l p) (n : Nat) : Rd (w.drewN n) br v l p := h.kept (Kept.drewN w n) (fun f => f) (fun _ _ f => f)
theorem RKept {br : Nat} {w : World} (n : Nat) (q : Value) : Kept (fun i => i = br) w ((w.drewN n).setCell ⟨br, 1, none⟩ q) :=
  ((Kept.drewN w n).mono (fun _ f => f.elim)).trans (Kept.setCell _ _ _) (fun _ hi => .inl hi)

set_option maxRecDepth 20000 in
theorem rbyte_ok (br : Nat) (v : Value) (l : List Int) (p : Nat) (w : World) (h : Rd w br v l p) (hp : p < l.length) :
    Calls Tryd.prog 54 #[.pointer (some ⟨br, 0, none⟩)] w fun e w' => e = .returned (.tuple #[.int .u8 (l[p]?.getD 0), .nilIface]) ∧ Rd w' br v l (p + 1) ∧ Kept (fun i => i = br) w w' := by
  have hc := h.cell1
  have hc0 := h.cell0
  have hf := h.free1
  have hs := h.sm
  have HH := hide h
  have c1 := left_any br v l p w h
  obtain ⟨a, c, rfl, hb, _⟩ := bytes_of_own h.own
  obtain ⟨b, off, rfl, hcl⟩ := hb.get hp
  have h1 : (1 : Int) ≤ ((l.length - p : Nat) : Int) := by omega
  obtain ⟨lf, hlf⟩ : ∃ lf, lf = l.length - p := ⟨_, rfl⟩
  rw [← hlf] at c1 h1
  clear h hb hlf
  obtain ⟨x, hx⟩ : ∃ x, x = l[p]?.getD 0 := ⟨_, rfl⟩
  rw [← hx] at hcl ⊢
  clear hx
  go_enter Tryd.func54, Tryd.ntmps54
  go_wp2_with (go_at_call 36; refine c1.mono ?_; rintro e w' ⟨rfl, n, rfl⟩)
  go_quiet (fail)
  go_wp2
  go_ret2
  refine ⟨rfl, ?_, ?_⟩
  · have q := (HH.out.drewN (n + nq)).move (q := p + 1) (by omega)
    exact q
  · exact RKept (n + nq) _
set_option maxRecDepth 20000 in
theorem rbyte_short (br : Nat) (v : Value) (l : List Int) (a0 : Addr) (w : World) (h : Rd w br v l l.length) (g0 : w.cell? ⟨1, 0, none⟩ = some (errV a0)) :
    Calls Tryd.prog 54 #[.pointer (some ⟨br, 0, none⟩)] w fun e w' => e = .returned (.tuple #[.int .u8 0, errV a0]) ∧ ∃ n, w' = w.drewN n := by
  have c1 := left_any br v l l.length w h
  rw [Nat.sub_self] at c1
  clear h
  go_enter Tryd.func54, Tryd.ntmps54
  go_wp2_with (go_at_call 36; refine c1.mono ?_; rintro e w' ⟨rfl, n, rfl⟩)
  go_quiet (fail)
  go_wp2
  go_ret2
  exact ⟨rfl, n + nq, by rw [World.drewN_drewN]⟩

/-- Which error a uvarint's refusal is. -/
def errOf (a0 a1 : Addr) (e : Nat) : Value := if e = 0 then errV a0 else errV a1
set_option maxRecDepth 20000 in
theorem ruv_err (br : Nat) (v : Value) (l : List Int) (p er : Nat) (a0 a1 : Addr) (w : World) (h : Rd w br v l p) (hr : rdu 0 0 (l.drop p) = .error er)
    (g0 : w.cell? ⟨1, 0, none⟩ = some (errV a0)) (g1 : w.cell? ⟨2, 0, none⟩ = some (errV a1)) :
    Calls Tryd.prog 56 #[.pointer (some ⟨br, 0, none⟩)] w fun e w' => e = .returned (.tuple #[.int .u64 0, errOf a0 a1 er]) ∧ ∃ n, w' = w.drewN n := by
  have hc := h.cell1
  have hc0 := h.cell0
  have hs := h.sm
  obtain ⟨a, c, rfl, hb, _⟩ := bytes_of_own h.own
  obtain ⟨ad, had⟩ : ∃ ad, errOf a0 a1 er = .iface 120 (.pointer (some ad)) := by
    unfold errOf errV
    split
    · exact ⟨_, rfl⟩
    · exact ⟨_, rfl⟩
  have c1 : ∀ n, Calls Tryd.prog 59 #[.slice a l.length c, .int .i64 p] (w.drewN n) fun e w' => e = .returned (.tuple #[.int .u64 0, .int .i64 0, .iface 120 (.pointer (some ad))]) ∧ ∃ m, w' = w.drewN m := by
    intro n
    refine (uvat_any l a c p (errV a0) (errV a1) (w.drewN n) hb h.isb h.le (by omega) g0 g1).mono ?_
    rintro e w' ⟨rfl, m, rfl⟩
    refine ⟨?_, n + m, by rw [World.drewN_drewN]⟩
    rw [hr, ← had]
    cases er with
    | zero => rfl
    | succ k => rfl
  have C1 := hide c1
  rw [had]
  clear h hb g0 g1 hr c1 had
  go_enter Tryd.func56, Tryd.ntmps56
  go_wp2_with fail
  go_quiet ((exact C1.out _))
  go_wp2
  go_ret2
  exact ⟨rfl, _, rfl⟩

theorem zag0 : zag 0 = 0 := by decide
end Go.Proofs.YtiebmmpnmklpnaaDoor
