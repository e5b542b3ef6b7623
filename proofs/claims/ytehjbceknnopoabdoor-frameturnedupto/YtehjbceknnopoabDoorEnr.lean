import Derived.Test.YtehjbceknnopoabDoorApp
import Derived.Test.YtehjbceknnopoabDoorTab
import Derived.Deep.QuietTactic
import Derived.BigQuiet
import Derived.Laws.BytesArg
import Derived.Laws.BytesString
namespace Go.Proofs.YtehjbceknnopoabDoor
open Go.ChangeShapes Go.WideShapes Go.ChangeAt Go.RowKit

theorem OwnB.alloc {w W : World} {v : Value} {xs : List Int} (h : OwnB w W v xs) (o : Obj) : OwnB w (W.alloc o) v xs :=
  ⟨(Kept.alloc W o).row h.row (fun _ _ f => f), h.kept.trans (Kept.alloc W o) (fun _ f => f.elim)⟩
theorem OwnB.same {w W W' : World} {v : Value} {xs : List Int} (h : OwnB w W v xs) (k : Kept (fun _ => False) W W') : OwnB w W' v xs :=
  ⟨k.row h.row (fun _ _ f => f), h.kept.trans k (fun _ f => f.elim)⟩
theorem ownB_nil (w : World) : OwnB w w (.slice none 0 0) [] := ⟨⟨rfl, .inl ⟨rfl, rfl⟩⟩, Kept.refl _ _⟩
theorem ownB_lit (w : World) (l : List Int) (hl : l.length ≤ 1099511627776) : OwnB w (w.alloc (.cells (bs l).toArray 5)) (.slice (some ⟨w.heap.size, 0, none⟩) l.length l.length) l :=
  ⟨⟨by rw [bs_length]; omega, .inr ⟨w.heap.size, l.length, (bs l).toArray, rfl, Nat.le_refl _, heap_alloc_new w _, Nat.le_refl _, by unfold maxLen; omega, by simp [bs_length], by rw [List.toList_toArray, List.take_of_length_le (by rw [bs_length]; omega)]⟩⟩, Kept.alloc w _⟩
theorem OwnB.from {w w1 W : World} {v : Value} {xs : List Int} (h : OwnB w1 W v xs) (k : Kept (fun _ => False) w w1) : OwnB w W v xs := by
  refine ⟨⟨h.row.1, ?_⟩, k.trans h.kept (fun _ f => f.elim)⟩
  rcases h.row.2 with e | ⟨g, cap, cur, e, hb, r⟩
  · exact .inl e
  · exact .inr ⟨g, cap, cur, e, Nat.le_trans k.size hb, r⟩
theorem encode_zero (v : Value) (a5 : Addr) (w : World) (g5 : w.cell? ⟨0, 0, none⟩ = some (.iface 78 (.pointer (some a5)))) :
    Calls Tryd.prog 8 #[.int .u8 0, v] w fun e w' => e = .returned (.tuple #[.slice none 0 0, .iface 78 (.pointer (some a5))]) ∧ ∃ n, w' = w.drewN n := by
  go_enter Tryd.func8, Tryd.ntmps8
  go_wp2
  go_quiet (fail)
  go_wp2
  go_ret2
  exact ⟨rfl, _, rfl⟩
theorem num_nil (w : World) : Calls Tryd.prog 7 #[.nilIface] w fun e w' => e = .returned (.int .i64 0) ∧ w' = w := by
  go_enter Tryd.func7, Tryd.ntmps7
  go_wp2
  go_ret
  exact ⟨rfl, rfl⟩
theorem conv_atF {W : World} {a : Option Addr} {B : List Int} {c : Nat} (h : BytesAt W a B) : (convert 27 9 (.slice a B.length c)).run Tryd.prog W = .ok (.string (strOfNums B)) W := by
  by_cases hne : B = []
  · subst hne
    cases a with
    | none => exact run_convert_bytes_nil W 27 5 Tryd.underlying27 Tryd.underlying5 0 c 9 Tryd.underlying9
    | some ad =>
      have hl : (loadCells ad 0).run Tryd.prog W = .ok (([] : List Int).map (Value.int .u8)).toArray W := by
        have := run_loadCells_list (P := Tryd.prog) W ad [] (fun j v hj => by simp at hj)
        simpa using this
      show (convert 27 9 (.slice (some ad) 0 c)).run Tryd.prog W = _
      rw [run_convert_bytes_string W 27 9 5 _ 0 c Tryd.underlying27 Tryd.underlying5 Tryd.underlying9, run_bytesToString W _ 0 c [] hl]
      rfl
  · obtain ⟨b, off, rfl, hc⟩ := h hne
    refine run_convert_bytes_arg W 27 5 Tryd.underlying27 Tryd.underlying5 b off B.length c B rfl (fun i hi => ?_) 9 Tryd.underlying9
    simpa [List.getD] using hc i hi
end Go.Proofs.YtehjbceknnopoabDoor
