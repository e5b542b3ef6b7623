import Derived.Test.YtidgofpmnlddaaaGreatDoorRfx
import Derived.Test.YtidgofpmnlddaaaGreatDoorMrg10
import Derived.Test.YtidgofpmnlddaaaGreatDoorFxb
namespace Go.Proofs.YtidgofpmnlddaaaGreatDoor
open Go.ChangeShapes Go.WideShapes Go.ChangeAt Go.RowKit

theorem LiAt.kept {w w' : World} {a : Option Addr} {L : List Il} (h : LiAt w a L) (k : Kept (fun _ => False) w w') : LiAt w' a L := by
  intro hne
  obtain ⟨b, off, e, hc⟩ := h hne
  exact ⟨b, off, e, fun j hj => ⟨k.cell (hc j hj).1 (fun f => f), (hc j hj).2.kept k⟩⟩
/-- How many numbers lists hold. -/
def ltot : List Il → Nat
  | [] => 0
  | x :: r => x.l.length + ltot r
theorem ltot_mem {x : Il} : ∀ {L : List Il}, x ∈ L → x.l.length ≤ ltot L
  | y :: r, h => by
    rw [ltot]
    rcases List.mem_cons.1 h with e | e
    · rw [e]; omega
    · have := ltot_mem e
      omega
theorem spk_tot (L : List Il) (O : List Int) : ∀ k, k ≤ L.length → (spk L O k).length + ltot (L.drop k) = ltot L
  | 0, _ => by simp [spk]
  | k + 1, h => by
    have ih := spk_tot L O k (by omega)
    have hk : k < L.length := by omega
    rw [List.drop_eq_getElem_cons hk, ltot] at ih
    rw [spk, List.getElem?_eq_getElem hk, List.length_append, spw, List.length_map]
    simp only
    omega
end Go.Proofs.YtidgofpmnlddaaaGreatDoor
