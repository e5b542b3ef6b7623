import Derived.Test.YtbcohdioapmlgaaDoorLwF
namespace Go.Proofs.YtbcohdioapmlgaaDoor
open Go.ChangeShapes Go.WideShapes Go.ChangeAt Go.RowKit

/-- string(b) of bytes that lie anywhere. -/
theorem conv_at {W : World} {a : Option Addr} {B : List Int} {c : Nat} (h : BytesAt W a B) : (convert 22 9 (.slice a B.length c)).run Tryd.prog W = .ok (.string (strOfNums B)) W := by
  by_cases hne : B = []
  · subst hne
    cases a with
    | none => exact run_convert_bytes_nil W 22 5 Tryd.underlying22 Tryd.underlying5 0 c 9 Tryd.underlying9
    | some ad =>
      have hl : (loadCells ad 0).run Tryd.prog W = .ok (([] : List Int).map (Value.int .u8)).toArray W := by
        have := run_loadCells_list (P := Tryd.prog) W ad [] (fun j v hj => by simp at hj)
        simpa using this
      show (convert 22 9 (.slice (some ad) 0 c)).run Tryd.prog W = _
      rw [run_convert_bytes_string W 22 9 5 _ 0 c Tryd.underlying22 Tryd.underlying5 Tryd.underlying9, run_bytesToString W _ 0 c [] hl]
      rfl
  · obtain ⟨b, off, rfl, hc⟩ := h hne
    refine run_convert_bytes_arg W 22 5 Tryd.underlying22 Tryd.underlying5 b off B.length c B rfl (fun i hi => ?_) 9 Tryd.underlying9
    simpa [List.getD] using hc i hi
theorem bytes_kept {F : Nat → Prop} {w w' : World} {a : Option Addr} {l : List Int} (h : BytesAt w a l) (k : Kept F w w') (hF : l ≠ [] → ∀ ad, a = some ad → ¬ F ad.block) : BytesAt w' a l := by
  intro hne
  obtain ⟨b, off, e, hc⟩ := h hne
  exact ⟨b, off, e, fun j hj => k.cell (hc j hj) (hF hne ⟨b, off, none⟩ e)⟩

end Go.Proofs.YtbcohdioapmlgaaDoor
