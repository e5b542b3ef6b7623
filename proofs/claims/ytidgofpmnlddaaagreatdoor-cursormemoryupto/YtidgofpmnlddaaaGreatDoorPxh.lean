import Derived.Test.YtidgofpmnlddaaaGreatDoorPxg
import Derived.Test.YtidgofpmnlddaaaGreatDoorMrg8
namespace Go.Proofs.YtidgofpmnlddaaaGreatDoor
open Go.ChangeShapes Go.WideShapes Go.ChangeAt Go.RowKit

theorem opn_small {l : List Int} {L : List Po} (hI : IsBytes l) (h : opn l = some L) : tot L ≤ l.length ∧ L.length ≤ l.length := by
  obtain ⟨h1, h2, -⟩ := opn_back hI h
  have t1 := tot_bkb (L := L) (b := -1) rfl
  have t2 := len_tot h2
  have h3 := congrArg List.length h1
  unfold img at h3
  rw [List.length_append, List.length_append, List.length_append] at h3
  omega
end Go.Proofs.YtidgofpmnlddaaaGreatDoor
