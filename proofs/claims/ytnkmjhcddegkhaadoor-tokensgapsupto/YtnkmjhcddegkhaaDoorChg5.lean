import Derived.Test.YtnkmjhcddegkhaaDoorLvt
import Derived.Test.YtnkmjhcddegkhaaDoorFlw
import Derived.Test.YtnkmjhcddegkhaaDoorStg
namespace Go.Proofs.YtnkmjhcddegkhaaDoor
open Go.ChangeShapes Go.WideShapes Go.ChangeAt Go.RowKit

theorem fold_q (l : List UInt8) (w : World) (hl : l.length ≤ 281474976710000) : Calls Tryd.prog 8 #[.string (bq l)] w fun e w' => e = .returned (.string (bq (fl 0 l))) ∧ Kept (fun _ => False) w w' := fold_any (bq l) w (by rw [bq_size]; omega)
theorem takeF_any (l : List UInt8) (w : World) (hl : l.length ≤ 281474976710000) :
    Calls Tryd.prog 100 #[.agg #[], .string (bq l)] w fun e w' => e = .returned (.tuple #[.string (bq (fl 0 l)), .bool true]) ∧ Kept (fun _ => False) w w' := by
  have C := fun w => hideV (fold_q l w hl)
  generalize bq (fl 0 l) = Z at *
  generalize bq l = s at *
  go_enter Tryd.func100, Tryd.ntmps100
  go_wp2_with (go_at_call 8; refine (C _).out.mono ?_; rintro e W ⟨rfl, K⟩)
  go_ret2
  exact ⟨rfl, (Kept.alloc _ _).trans K (fun _ f => f.elim)⟩
theorem takeP_any (TT : Nat → ByteArray) (l : List UInt8) (w : World) (hS : StopsT TT w) :
    Calls Tryd.prog 101 #[.agg #[], .string (bq l)] w fun e w' => e = .returned (.tuple #[.string (bq l), .bool (!isT TT (bq l))]) ∧ Kept (fun _ => False) w w' := by
  have C := hideV (fun w' (k : Kept (fun _ => False) w w') => isStop_any TT (bq l) w' (hS.kept k (fun f => f)))
  generalize isT TT (bq l) = b at *
  generalize bq l = s at *
  clear hS
  go_enter Tryd.func101, Tryd.ntmps101
  go_wp2_with (go_at_call 9; refine (C.out _ (Kept.alloc _ _)).mono ?_; rintro e W ⟨rfl, K⟩)
  go_ret2
  exact ⟨rfl, (Kept.alloc _ _).trans K (fun _ f => f.elim)⟩
theorem takeM_any (l : List UInt8) (w : World) (hl : l.length ≤ 281474976710000) :
    Calls Tryd.prog 102 #[.agg #[], .string (bq l)] w fun e w' => e = .returned (.tuple #[.string (bq (stem l)), .bool true]) ∧ Kept (fun _ => False) w w' := by
  have C := fun w => hideV (stem_any l w hl)
  generalize bq (stem l) = Z at *
  generalize bq l = s at *
  go_enter Tryd.func102, Tryd.ntmps102
  go_wp2_with (go_at_call 10; refine (C _).out.mono ?_; rintro e W ⟨rfl, K⟩)
  go_ret2
  exact ⟨rfl, (Kept.alloc _ _).trans K (fun _ f => f.elim)⟩
end Go.Proofs.YtnkmjhcddegkhaaDoor
