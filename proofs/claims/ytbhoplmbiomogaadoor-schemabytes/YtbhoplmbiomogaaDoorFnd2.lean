import Derived.Test.YtbhoplmbiomogaaDoorScy
import Derived.Test.YtbhoplmbiomogaaDoorRdb2
namespace Go.Proofs.YtbhoplmbiomogaaDoor
open Go.ChangeShapes Go.WideShapes Go.ChangeAt Go.RowKit Go.Maps Go.WideMaps

def fiN (l : List Fd) (s : ByteArray) : Int := ((fi l s).getD 0 : Nat)
def fiB (l : List Fd) (s : ByteArray) : Bool := (fi l s).isSome
theorem ret2_nb {x y : Int} {a b : Bool} (h : x = y ∧ a = b) : Ending.returned (.tuple #[.int .i64 x, .bool a]) = .returned (.tuple #[.int .i64 y, .bool b]) := by rw [h.1, h.2]
theorem look_eq {l : List Fd} {D : DataW Unit} (h : Nm l D) (s : ByteArray) {c : Int} (hat : D.atKey (.string s.data.toList) (.lit (.int .i64 0)) = .lit (.int .i64 c)) : c = fiN l s ∧ Maps.has D (.string s.data.toList) = fiB l s := by
  cases hf : fi l s with
  | none =>
    have hh : Maps.has D (.string s.data.toList) = false := by rw [h.has]; exact fi_none.1 hf
    rw [atKey_of_not_has hh] at hat
    refine ⟨?_, by rw [hh, fiB, hf]; rfl⟩
    rw [fiN, hf]
    injection hat with hat
    injection hat with _ hat
    exact hat.symm
  | some i =>
    rw [h.at_ s i hf] at hat
    refine ⟨?_, ?_⟩
    · rw [fiN, hf]
      injection hat with hat
      injection hat with _ hat
      exact hat.symm
    · rw [h.has, fiB, hf]
      cases hm : among l s with
      | true => rfl
      | false => rw [fi_none.2 hm] at hf; cases hf
theorem fi_next {l : List Fd} {k : Nat} (h : k < l.length) (s : ByteArray) (hn : fi (l.take k) s = none) : (l[k].n = s → fi l s = some k) ∧ (l[k].n ≠ s → fi (l.take (k + 1)) s = none) := by
  have e1 : l = l.take k ++ (l[k] :: l.drop (k + 1)) := by rw [List.getElem_cons_drop, List.take_append_drop]
  have hlen : (l.take k).length = k := by rw [List.length_take]; omega
  constructor
  · intro he
    rw [e1, fi_append_none hn]
    have : fi (l[k] :: l.drop (k + 1)) s = some 0 := by unfold fi; rw [List.findIdx?_cons, if_pos (decide_eq_true he)]
    rw [this, hlen]
    simp
  · intro he
    rw [names_next h, fi_append_none hn, fi_one, if_neg he]; rfl
theorem str_eqb (a b : ByteArray) : (a.toList == b.toList) = decide (a = b) := by
  rw [ByteArray.toList_eq, ByteArray.toList_eq, Bool.eq_iff_iff]
  simp only [beq_iff_eq, decide_eq_true_eq]
  exact ⟨fun h => bytes_inj h, fun h => by rw [h]⟩
end Go.Proofs.YtbhoplmbiomogaaDoor
