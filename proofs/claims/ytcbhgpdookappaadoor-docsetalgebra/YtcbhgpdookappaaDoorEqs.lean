import Derived.Test.YtcbhgpdookappaaDoorWrG
import Derived.Laws.BytesArg
import Derived.Laws.BytesString
namespace Go.Proofs.YtcbhgpdookappaaDoor.Ds
open Go.ChangeShapes Go.WideShapes Go.ChangeAt Go.RowKit

theorem sb_of_strS {t : List Int} (h : IsBytes t) : sb (strOfNums t) = t := by
  show ((t.map fun n => UInt8.ofNat n.toNat).toArray.toList.map fun b => ((b.toNat : Nat) : Int)) = t
  simp only [List.map_map]
  conv => rhs; rw [← List.map_id t]
  apply List.map_congr_left
  intro x hx
  have := h x hx
  simp only [Function.comp, id]
  have e : (UInt8.ofNat x.toNat).toNat = x.toNat := by
    rw [UInt8.toNat_ofNat']
    exact Nat.mod_eq_of_lt (by omega)
  rw [e]
  omega
theorem strS_inj {A B : List Int} (hA : IsBytes A) (hB : IsBytes B) (h : strOfNums A = strOfNums B) : A = B := by
  rw [← sb_of_strS hA, ← sb_of_strS hB, h]
/-- Are these bytes alike, as the program asks it? -/
def eqS (A B : List Int) : Bool := (strOfNums A).toList == (strOfNums B).toList
theorem eqS_dec {A B : List Int} (hA : IsBytes A) (hB : IsBytes B) : eqS A B = decide (A = B) := by
  unfold eqS
  by_cases h : A = B
  · subst h; simp
  · rw [decide_eq_false h]
    refine beq_eq_false_iff_ne.2 (fun e => h (strS_inj hA hB ?_))
    rw [ByteArray.toList_eq, ByteArray.toList_eq] at e
    exact ByteArray.ext (Array.toList_inj.1 e)
theorem conv_atS {W : World} {a : Option Addr} {B : List Int} {c : Nat} (h : BytesAt W a B) : (convert 22 9 (.slice a B.length c)).run Tryd.prog W = .ok (.string (strOfNums B)) W := by
  by_cases hne : B = []
  · subst hne
    cases a with
    | none => exact run_convert_bytes_nil W 22 5 Tryd.underlying22 Tryd.underlying5 0 c 9 Tryd.underlying9
    | some ad =>
      have hl : (loadCells ad 0).run Tryd.prog W = .ok (([] : List Int).map (Value.int .u8)).toArray W := by
        have := run_loadCells_list (P := Tryd.prog) W ad [] (fun j v hj => by simp at hj)
        simpa using this
      show (convert 22 9 (.slice (some ad) 0 c)).run Tryd.prog W = _
      rw [run_convert_bytes_string W 22 9 5 _ 0 c Tryd.underlying22 Tryd.underlying5 Tryd.underlying9, run_bytesToString W _ 0 c [] hl]
      rfl
  · obtain ⟨b, off, rfl, hc⟩ := h hne
    refine run_convert_bytes_arg W 22 5 Tryd.underlying22 Tryd.underlying5 b off B.length c B rfl (fun i hi => ?_) 9 Tryd.underlying9
    simpa [List.getD] using hc i hi
theorem equalS_any (A B : List Int) (a b : Option Addr) (c d : Nat) (w : World) (hA : BytesAt w a A) (hB : BytesAt w b B) :
    Calls Tryd.prog 10 #[.slice a A.length c, .slice b B.length d] w fun e w' => e = .returned (.bool (eqS A B)) ∧ w' = w := by
  have c1 := conv_atS (c := c) hA
  have c2 := conv_atS (c := d) hB
  obtain ⟨n, hn⟩ : ∃ n, n = A.length := ⟨_, rfl⟩
  obtain ⟨m, hm⟩ : ∃ m, m = B.length := ⟨_, rfl⟩
  obtain ⟨s, hs⟩ : ∃ s, s = strOfNums A := ⟨_, rfl⟩
  obtain ⟨t, ht⟩ : ∃ t, t = strOfNums B := ⟨_, rfl⟩
  rw [← hn, ← hs] at c1
  rw [← hm, ← ht] at c2
  have he : eqS A B = (s.toList == t.toList) := by rw [hs, ht]; rfl
  rw [← hn, ← hm, he]
  clear hn hm hs ht hA hB he
  go_enter Tryd.func10, Tryd.ntmps10
  go_wp2
  go_ret
  exact ⟨rfl, rfl⟩
end Go.Proofs.YtcbhgpdookappaaDoor.Ds
