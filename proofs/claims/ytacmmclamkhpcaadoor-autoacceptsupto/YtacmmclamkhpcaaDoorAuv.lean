import Derived.Test.YtacmmclamkhpcaaDoorAur
namespace Go.Proofs.YtacmmclamkhpcaaDoor
open Go.ChangeShapes Go.WideShapes Go.ChangeAt Go.RowKit

/-! The makers, with the automaton that they make. -/
def AuP (w w' : World) (ty : TypeId) (ag : Value) (Inv : List Int → Prop) (e : Ending) : Prop := (∃ ba S0 sa sc, e = .returned (.pointer (some ⟨ba, 0, none⟩)) ∧ AuK w' ba ty ag S0 sa sc ∧ Inv S0) ∧ Kept (fun _ => False) w w'
theorem xstartK_any (s : ByteArray) (w : World) : Calls Tryd.prog 83 #[.agg #[.string s]] w fun e w' => StK w w' [0] e := by
  have HN := hideG (nsAt_one (w.alloc (.cells #[.string s] 94)) 0)
  rw [World.size_alloc] at HN
  go_enter Tryd.func83, Tryd.ntmps83
  go_wp2
  go_ret
  exact ⟨⟨_, _, rfl, HN.out, Nat.le_refl _⟩, (Kept.alloc _ _).trans (Kept.alloc _ _) (fun _ f => f.elim)⟩
theorem pstartK_any (s : ByteArray) (w : World) : Calls Tryd.prog 72 #[.agg #[.string s]] w fun e w' => StK w w' [0] e := by
  have HN := hideG (nsAt_one (w.alloc (.cells #[.string s] 89)) 0)
  rw [World.size_alloc] at HN
  go_enter Tryd.func72, Tryd.ntmps72
  go_wp2
  go_ret
  exact ⟨⟨_, _, rfl, HN.out, Nat.le_refl _⟩, (Kept.alloc _ _).trans (Kept.alloc _ _) (fun _ f => f.elim)⟩
theorem newAutoK_exact (l : List UInt8) (w : World) : Calls Tryd.prog 27 #[.iface 94 (.agg #[.string (bq l)])] w fun e w' => AuP w w' 94 (.agg #[.string (bq l)]) (fun S => S = [0]) e := by
  have CS := hideG (xstartK_any (bq l) w)
  have M0 := meth_exact
  go_enter Tryd.func27, Tryd.ntmps27
  go_wp2_with (go_at_call 83; refine CS.out.mono ?_; clear CS; rintro e W ⟨⟨a, c, rfl, hN, hc⟩, K1⟩)
  go_ret
  have ka := Kept.alloc W (.cells #[.iface 94 (.agg #[.string (bq l)]), .slice a 1 c] 60)
  exact ⟨⟨W.heap.size, [0], a, c, rfl, ⟨by simp, by simp, hN.kept ka, hc⟩, rfl⟩, K1.trans ka (fun _ f => f.elim)⟩
theorem newAutoK_prefix (l : List UInt8) (w : World) : Calls Tryd.prog 27 #[.iface 89 (.agg #[.string (bq l)])] w fun e w' => AuP w w' 89 (.agg #[.string (bq l)]) (fun S => S = [0]) e := by
  have CS := hideG (pstartK_any (bq l) w)
  have M0 := meth_prefix
  go_enter Tryd.func27, Tryd.ntmps27
  go_wp2_with (go_at_call 72; refine CS.out.mono ?_; clear CS; rintro e W ⟨⟨a, c, rfl, hN, hc⟩, K1⟩)
  go_ret
  have ka := Kept.alloc W (.cells #[.iface 89 (.agg #[.string (bq l)]), .slice a 1 c] 60)
  exact ⟨⟨W.heap.size, [0], a, c, rfl, ⟨by simp, by simp, hN.kept ka, hc⟩, rfl⟩, K1.trans ka (fun _ f => f.elim)⟩
theorem ExactK_any (l : List UInt8) (w : World) (hl : l.length ≤ 1099511627776) : Calls Tryd.prog 34 #[.string (bq l)] w fun e w' => AuP w w' 94 (.agg #[.string (bq l)]) (fun S => S = [0]) e := by
  have CC := hideG (clone_any (bq l) w (by rw [bq_size]; omega))
  have CN := fun W => hideG (newAutoK_exact l W)
  generalize bq l = s at *
  go_enter Tryd.func34, Tryd.ntmps34
  go_wp2_with (first
    | (go_at_call 28; refine CC.out.mono ?_; clear CC; rintro e W ⟨rfl, K1⟩)
    | (go_at_call 27; refine (CN W).out.mono ?_; rintro e W2 ⟨⟨ba, S0, sa, sc, rfl, hA, hI⟩, K2⟩))
  go_ret
  exact ⟨⟨ba, S0, sa, sc, rfl, hA, hI⟩, K1.trans K2 (fun _ f => f.elim)⟩
theorem PrefixK_any (l : List UInt8) (w : World) (hl : l.length ≤ 1099511627776) : Calls Tryd.prog 32 #[.string (bq l)] w fun e w' => AuP w w' 89 (.agg #[.string (bq l)]) (fun S => S = [0]) e := by
  have CC := hideG (clone_any (bq l) w (by rw [bq_size]; omega))
  have CN := fun W => hideG (newAutoK_prefix l W)
  generalize bq l = s at *
  go_enter Tryd.func32, Tryd.ntmps32
  go_wp2_with (first
    | (go_at_call 28; refine CC.out.mono ?_; clear CC; rintro e W ⟨rfl, K1⟩)
    | (go_at_call 27; refine (CN W).out.mono ?_; rintro e W2 ⟨⟨ba, S0, sa, sc, rfl, hA, hI⟩, K2⟩))
  go_ret
  exact ⟨⟨ba, S0, sa, sc, rfl, hA, hI⟩, K1.trans K2 (fun _ f => f.elim)⟩
end Go.Proofs.YtacmmclamkhpcaaDoor
