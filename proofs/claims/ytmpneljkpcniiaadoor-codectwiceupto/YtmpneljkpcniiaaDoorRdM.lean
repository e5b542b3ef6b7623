import Derived.Test.YtmpneljkpcniiaaDoorRdK
import Derived.Deep.DeepFit
import Derived.Deep.DeepMust
namespace Go.Proofs.YtmpneljkpcniiaaDoor
open Go.ChangeShapes Go.WideShapes Go.ChangeAt Go.RowKit

set_option maxRecDepth 20000 in
set_option maxHeartbeats 4000000 in
theorem rpak_short (br g : Nat) (l : List Int) (p q n cc : Nat) (most : Int) (a0 a2 a3 : Addr) (w : World) (h : Rd w br (.slice (some ⟨g, 0, none⟩) l.length l.length) l p) (hsm : l.length ≤ 1099511627776)
    (C1 : Hid (∀ n', Calls Tryd.prog 30 #[.slice (some ⟨g, 0, none⟩) l.length l.length, .int .i64 p, .int .i64 most] (w.drewN n') fun e w' => e = .returned (.tuple #[.int .i64 n, .int .i64 (q : Int), .nilIface]) ∧ ∃ m, w' = w.drewN m))
    (hq : q < l.length) (hnp : 0 < n) (hcl : w.cell? ⟨g, q, none⟩ = some (.int .u8 (cc : Int))) (hc0 : 0 < cc) (hc63 : cc ≤ 63) (hD : (((l.length : Int) - ((q : Int) + 1)) * 8) / cc < (n : Int))
    (g0 : w.cell? ⟨3, 0, none⟩ = some (errV a0)) :
    Calls Tryd.prog 13 #[.pointer (some ⟨br, 0, none⟩), .int .i64 most] w fun e w' => PakPost br (.slice (some ⟨g, 0, none⟩) l.length l.length) l p q a0 a2 a3 w e w' (.error 0) := by
  have hc := h.cell1
  have hcc0 := h.cell0
  have HH := hide h
  clear h
  have hccI : (0 : Int) < cc := by omega
  have hD0 : 0 ≤ (((l.length : Int) - ((q : Int) + 1)) * 8) / cc := Int.ediv_nonneg (by omega) (by omega)
  have hD1 : (((l.length : Int) - ((q : Int) + 1)) * 8) / cc ≤ ((l.length : Int) - ((q : Int) + 1)) * 8 := Int.ediv_le_self _ (by omega)
  have hD2 : Int.tdiv (((l.length : Int) - ((q : Int) + 1)) * 8) cc = (((l.length : Int) - ((q : Int) + 1)) * 8) / cc := Int.tdiv_eq_ediv_of_nonneg (by omega)
  have fin0 : ∀ (a b : Nat), PakPost br (.slice (some ⟨g, 0, none⟩) l.length l.length) l p q a0 a2 a3 w (.returned (.tuple #[.slice none 0 0, errV a0])) ((w.drewN a).drewN b) (.error 0) := fun a b => ⟨rfl, (HH.out.drewN _).drewN _, (Kept.drewN _ _).trans (Kept.drewN _ _) (fun _ f => f.elim)⟩
  have F0 := hide fin0
  clear fin0
  go_enter Tryd.func13, Tryd.ntmps13
  go_wp2_with fail
  go_quiet ((exact C1.out _))
  go_wp2
  go_quiet (fail)
  go_wp2
  go_ret2
  first
    | exact F0.out _ _
    | (rw [← World.drewN_drewN]; exact F0.out _ _)
end Go.Proofs.YtmpneljkpcniiaaDoor
