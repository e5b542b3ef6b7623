import Derived.Test.YtidgofpmnlddaaaGreatDoorPxg
import Derived.Test.YtidgofpmnlddaaaGreatDoorPxh
import Derived.Test.YtidgofpmnlddaaaGreatDoorFxb
namespace Go.Proofs.YtidgofpmnlddaaaGreatDoor
open Go.ChangeShapes Go.WideShapes Go.ChangeAt Go.RowKit

set_option maxRecDepth 20000 in
set_option maxHeartbeats 2000000 in
/-- cursor.Open of bytes that are refused. -/
theorem copen_bad (l : List Int) (a : Option Addr) (c : Nat) (ad : Nat → Addr) (w : World) (hA : BytesAt w a l) (hI : IsBytes l) (hl : l.length ≤ 1073741824) (ho : opn l = none) (hE : ErQ w ad) :
    Calls Tryz.prog 7 #[.slice a l.length c] w fun e w' => e = .returned (.tuple #[.pointer none, .iface 163 (.pointer (some (ad 9)))]) ∧ Kept (fun _ => False) w w' := by
  have h := popen_any l a c ad w hA hI hl hE.p hE.v9
  rw [ho] at h
  have CO := hideP h
  generalize l.length = N at *
  clear hA hI hl hE ho h
  go_enter Tryz.func7, Tryz.ntmps7
  go_wp2_with (go_at_call 26; refine StpQ.go ?_)
  refine ⟨?_⟩
  refine CO.out.mono ?_
  clear CO
  rintro e W1 ⟨rfl, k1⟩
  rw [show errV (ad 9) = .iface 163 (.pointer (some (ad 9))) from rfl]
  have HK1 := hideP k1
  clear k1
  go_wp2
  go_ret2
  exact ⟨rfl, HK1.out⟩
theorem dpU_at {P : List Po} {i : Nat} (h : i < P.length) : docU P (i + 1) = P[i].d ∧ posU P (i + 1) = P[i].ps := by
  have e := List.getElem?_eq_getElem h
  exact ⟨by simp [docU, e], by simp [posU, e]⟩
theorem dpU_end (P : List Po) : docU P (P.length + 1) = 2147483647 ∧ posU P (P.length + 1) = [] := ⟨docU_end P, posU_end P⟩
theorem ps_le : ∀ {P : List Po} {i : Nat} (h : i < P.length), P[i].ps.length ≤ tot P
  | x :: P, 0, _ => by simp [tot]
  | x :: P, i + 1, h => by
    have := ps_le (P := P) (i := i) (by simpa using h)
    simp [tot]
    omega
end Go.Proofs.YtidgofpmnlddaaaGreatDoor
