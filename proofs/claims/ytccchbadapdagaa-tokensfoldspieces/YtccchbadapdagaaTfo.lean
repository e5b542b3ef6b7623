import Derived.Test.YtccchbadapdagaaFlw
import Derived.Test.YtccchbadapdagaaRfl
namespace Go.Proofs.Ytccchbadapdagaa
open Go.ChangeShapes Go.WideShapes Go.ChangeAt Go.RowKit

def foldS (s : ByteArray) : ByteArray := ⟨(fl 0 s.data.toList).toArray⟩
theorem foldS_size (s : ByteArray) : (foldS s).size = s.size := by
  show (fl 0 s.data.toList).toArray.size = s.data.size
  rw [List.size_toArray, fl_len, Array.length_toList]
theorem foldS_again (s : ByteArray) : foldS (foldS s) = foldS s := by
  show ByteArray.mk (fl 0 (fl 0 s.data.toList).toArray.toList).toArray = _
  rw [List.toList_toArray, fl_again 0 0 _ Iff.rfl]; rfl
theorem foldS_abz : foldS ⟨#[65, 98, 90]⟩ = ⟨#[97, 98, 122]⟩ := by decide +kernel
theorem foldS_two (a b : ByteArray) (h : ∀ p : UInt8, a.data.toList.getLast? = some p → p.toNat ≠ 195) : foldS (a ++ b) = foldS a ++ foldS b := by
  have e : (a ++ b).data.toList = a.data.toList ++ b.data.toList := by rw [ByteArray.data_append, Array.toList_append]
  have e2 : fl (a.data.toList.getLastD 0) b.data.toList = fl 0 b.data.toList := by
    refine fl_same _ _ _ ?_
    rw [List.getLastD_eq_getLast?]
    cases hq : a.data.toList.getLast? with
    | none => exact Iff.rfl
    | some p => exact iff_of_false (h p hq) (by decide)
  show ByteArray.mk (fl 0 (a ++ b).data.toList).toArray = _
  rw [e, fl_append, e2]
  apply ByteArray.ext
  rw [ByteArray.data_append]
  show (fl 0 a.data.toList ++ fl 0 b.data.toList).toArray = (fl 0 a.data.toList).toArray ++ (fl 0 b.data.toList).toArray
  rw [List.append_toArray]
theorem fold_s (s : ByteArray) (w : World) (hs : s.size ≤ 9223372036854775807) : Calls Try.prog 5 #[.string s] w fun e w' => e = .returned (.string (foldS s)) ∧ Kept (fun _ => False) w w' := fold_any s w hs
set_option maxRecDepth 20000 in
set_option maxHeartbeats 1000000 in
theorem folds_walk (s : ByteArray) (w : World) (hs : s.size ≤ 140737488355328) :
    Calls Try.prog 3 #[.string s] w fun e w' => e = .returned (.bool true) ∧ Kept (fun _ => False) w w' := by
  have C1 : ∀ w, Hid (Calls Try.prog 5 #[.string s] w fun e w' => e = .returned (.string (foldS s)) ∧ Kept (fun _ => False) w w') := fun w => fold_s s w (by omega)
  have C2 : ∀ w, Hid (Calls Try.prog 6 #[.string s] w fun e w' => e = .returned (.string (foldS s)) ∧ Kept (fun _ => False) w w') := fun w => rfold_any s w hs
  have C3 : ∀ w, Hid (Calls Try.prog 5 #[.string (foldS s)] w fun e w' => e = .returned (.string (foldS s)) ∧ Kept (fun _ => False) w w') := fun w => by
    have := fold_s (foldS s) w (by rw [foldS_size]; omega)
    rwa [foldS_again] at this
  have C4 : ∀ w, Hid (Calls Try.prog 5 #[.string ⟨#[65, 98, 90]⟩] w fun e w' => e = .returned (.string ⟨#[97, 98, 122]⟩) ∧ Kept (fun _ => False) w w') := fun w => by
    have := fold_s ⟨#[65, 98, 90]⟩ w (by decide)
    rwa [foldS_abz] at this
  have hz := foldS_size s
  generalize foldS s = F at *
  have hz' : (F.size : Int) = (s.size : Int) := by omega
  go_enter Try.func3, Try.ntmps3
  go_wp2_with (first
    | (go_at_call 5; first | (refine (C1 _).out.mono ?_; clear C1; rintro e w1 ⟨rfl, k1⟩) | (refine (C4 _).out.mono ?_; clear C4; rintro e w2 ⟨rfl, k2⟩) | (refine (C3 _).out.mono ?_; clear C3; rintro e w4 ⟨rfl, k4⟩))
    | (go_at_call 6; refine (C2 _).out.mono ?_; clear C2; rintro e w3 ⟨rfl, k3⟩))
  go_ret
  exact ⟨rfl, ((k1.trans k2 (fun _ f => f.elim)).trans k3 (fun _ f => f.elim)).trans k4 (fun _ f => f.elim)⟩
theorem last_byte (a : ByteArray) (h : 0 < a.size) : a.data.toList.getLast? = some (a[a.size - 1]'(by omega)) := by
  rw [List.getLast?_eq_getElem?, Array.length_toList, Array.getElem?_toList, Array.getElem?_eq_getElem (by show a.size - 1 < a.size; omega)]
  rfl
set_option maxRecDepth 20000 in
set_option maxHeartbeats 1000000 in
theorem pieces_walk (a b : ByteArray) (w : World) (ha : a.size ≤ 140737488355328) (hb : b.size ≤ 140737488355328) :
    Calls Try.prog 4 #[.string a, .string b] w fun e w' => e = .returned (.bool true) ∧ Kept (fun _ => False) w w' := by
  have C1 : ∀ w, Hid (Calls Try.prog 5 #[.string a] w fun e w' => e = .returned (.string (foldS a)) ∧ Kept (fun _ => False) w w') := fun w => fold_s a w (by omega)
  have C2 : ∀ w, Hid (Calls Try.prog 5 #[.string b] w fun e w' => e = .returned (.string (foldS b)) ∧ Kept (fun _ => False) w w') := fun w => fold_s b w (by omega)
  have C3 : ∀ w, Hid (Calls Try.prog 5 #[.string (a ++ b)] w fun e w' => e = .returned (.string (foldS (a ++ b))) ∧ Kept (fun _ => False) w w') := fun w => fold_s (a ++ b) w (by rw [ByteArray.size_append]; omega)
  have C4 : ∀ w, Hid (Calls Try.prog 5 #[.string ⟨#[65, 98, 90]⟩] w fun e w' => e = .returned (.string ⟨#[97, 98, 122]⟩) ∧ Kept (fun _ => False) w w') := fun w => by
    have := fold_s ⟨#[65, 98, 90]⟩ w (by decide)
    rwa [foldS_abz] at this
  have z1 := foldS_size a
  have z2 := foldS_size b
  by_cases h0 : a.size = 0
  · have i0 : ¬ (0 : Int) < (a.size : Int) := by omega
    have e := foldS_two a b (fun p hp => by
      have : a.data.toList = [] := List.eq_nil_of_length_eq_zero (by rw [Array.length_toList]; exact h0)
      rw [this] at hp; simp at hp)
    rw [e] at C3
    clear e h0
    generalize foldS a = F at *
    generalize foldS b = G at *
    go_enter Try.func4, Try.ntmps4
    go_wp2_with (go_at_call 5; first | (refine (C4 _).out.mono ?_; clear C4; rintro e w1 ⟨rfl, k1⟩) | (refine (C3 _).out.mono ?_; clear C3; rintro e w2 ⟨rfl, k2⟩) | (refine (C1 _).out.mono ?_; clear C1; rintro e w3 ⟨rfl, k3⟩) | (refine (C2 _).out.mono ?_; clear C2; rintro e w4 ⟨rfl, k4⟩))
    go_ret
    exact ⟨rfl, ((k1.trans k2 (fun _ f => f.elim)).trans k3 (fun _ f => f.elim)).trans k4 (fun _ f => f.elim)⟩
  · have i0 : (0 : Int) < (a.size : Int) := by omega
    have i1 : a.size - 1 < a.size := by omega
    have i2 : (0 : Int) ≤ (a.size : Int) - 1 := by omega
    have i3 : (a.size : Int) - 1 < (a.size : Int) := by omega
    have i4 : ((a.size : Int) - 1).toNat = a.size - 1 := by omega
    have i5 : wrap64 ((a.size : Int) - 1) = (a.size : Int) - 1 := by unfold wrap64; omega
    by_cases h1 : a[a.size - 1].toNat = 195
    · clear C1 C2 C3 h0
      go_enter Try.func4, Try.ntmps4
      go_wp2_with (go_at_call 5; refine (C4 _).out.mono ?_; clear C4; rintro e w1 ⟨rfl, k1⟩)
      go_ret
      exact ⟨rfl, k1⟩
    · have e := foldS_two a b (fun p hp => by rw [last_byte a (by omega)] at hp; simp only [Option.some.injEq] at hp; rw [← hp]; exact h1)
      rw [e] at C3
      clear e h0
      generalize foldS a = F at *
      generalize foldS b = G at *
      go_enter Try.func4, Try.ntmps4
      go_wp2_with (go_at_call 5; first | (refine (C4 _).out.mono ?_; clear C4; rintro e w1 ⟨rfl, k1⟩) | (refine (C3 _).out.mono ?_; clear C3; rintro e w2 ⟨rfl, k2⟩) | (refine (C1 _).out.mono ?_; clear C1; rintro e w3 ⟨rfl, k3⟩) | (refine (C2 _).out.mono ?_; clear C2; rintro e w4 ⟨rfl, k4⟩))
      go_ret
      exact ⟨rfl, ((k1.trans k2 (fun _ f => f.elim)).trans k3 (fun _ f => f.elim)).trans k4 (fun _ f => f.elim)⟩
end Go.Proofs.Ytccchbadapdagaa
