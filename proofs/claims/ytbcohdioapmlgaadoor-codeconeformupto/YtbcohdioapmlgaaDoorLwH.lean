import Derived.Test.YtbcohdioapmlgaaDoorRdQ
namespace Go.Proofs.YtbcohdioapmlgaaDoor
open Go.ChangeShapes Go.WideShapes Go.ChangeAt Go.RowKit

/-- A refused call: too short, and nothing moves. -/
def Cut (br : Nat) (v : Value) (l : List Int) (z : Value) (a0 : Addr) (w : World) (e : Ending) (w' : World) : Prop :=
  e = .returned (.tuple #[z, .iface 100 (.pointer (some a0))]) ∧ Hid (Rd w' br v l 0 ∧ Kept (fun _ => False) w w')
theorem Cut.quiet {br : Nat} {v : Value} {l : List Int} {z : Value} {a0 : Addr} {w : World} {e : Ending} {w' : World} (h : Rd w br v l 0) (hq : e = .returned (.tuple #[z, errV a0]) ∧ ∃ n, w' = w.drewN n) : Cut br v l z a0 w e w' := by
  obtain ⟨rfl, n, rfl⟩ := hq
  exact ⟨rfl, h.drewN n, Kept.drewN _ _⟩
def SGot (w : World) (e : Ending) (w' : World) : Prop := e = .returned (.bool true) ∧ Kept (fun _ => False) w w'
theorem errOf_zero (a0 a1 : Addr) : errOf a0 a1 0 = errV a0 := rfl
theorem upto_cut (l : List Int) (most : Int) (a0 a1 : Addr) (w : World) (hB : IsBytes l) (hl : l.length ≤ 140737488355328) (g0 : w.cell? ⟨3, 0, none⟩ = some (errV a0)) (g1 : w.cell? ⟨4, 0, none⟩ = some (errV a1)) (hr : rdu 0 0 l = .error 0) :
    ∀ a c, BytesAt w a l → ∀ n, Calls Tryd.prog 42 #[.slice a l.length c, .int .i64 (0 : Nat), .int .i64 most] (w.drewN n) fun e w' => e = .returned (.tuple #[.int .i64 0, .int .i64 0, errV a0]) ∧ ∃ m, w' = (w.drewN n).drewN m := by
  intro a c hb n
  exact upat_err l a c 0 0 most a0 a1 (w.drewN n) hb hB (Nat.zero_le _) (by omega) g0 g1 hr

end Go.Proofs.YtbcohdioapmlgaaDoor
