import Derived.Test.YtnkmjhcddegkhaaDoorRows
import Derived.Test.YtnkmjhcddegkhaaDoorScm
import Derived.Test.YtnkmjhcddegkhaaDoorBase
import Derived.WalkKit
import Derived.ProofKit
import Derived.OpenShut
import Derived.WalkLawsBesides
import Derived.OwnWalk
import Derived.Maps.OwnOps
namespace Go.Proofs.YtnkmjhcddegkhaaDoor
open Go.ChangeShapes Go.WideShapes Go.ChangeAt Go.RowKit Go.Maps

def lz (c : Nat) : Bool := decide (97 ≤ c ∧ c ≤ 122)
def nz (c : Nat) : Bool := decide (48 ≤ c ∧ c ≤ 57)
theorem hideW {p : Prop} (h : p) : Hid p := h
theorem take_nw (s : ByteArray) (k : Nat) (h : k < s.size) : s.data.toList.take (k + 1) = s.data.toList.take k ++ [s[k]] := by
  rw [List.take_succ_eq_append_getElem (by simpa using h)]; rfl
theorem all_next (s : ByteArray) (k : Nat) (h : k < s.size) (ha : (s.data.toList.take k).all isW = true) : isW s[k] = true → Hid ((s.data.toList.take (k + 1)).all isW = true) := fun hw => by
  refine hideW ?_
  rw [take_nw s k h, List.all_append, ha, List.all_cons, List.all_nil, hw]; rfl
theorem all_bad (s : ByteArray) (k : Nat) (h : k < s.size) (hw : isW s[k] = false) : s.data.toList.all isW = false := by
  rw [List.all_eq_false]
  exact ⟨s[k], Array.getElem_mem_toList h, by rw [hw]; decide⟩
theorem empty_of (s : ByteArray) : s.toList.isEmpty = decide (s.size = 0) := by
  rw [ByteArray.toList_eq]
  obtain ⟨⟨l⟩⟩ := s
  cases l <;> rfl
theorem gname_eq (s : ByteArray) (h : 0 < s.size) : gname s.data.toList = (decide (s.size ≤ 32) && lz s[0].toNat && s.data.toList.all isW) := by
  obtain ⟨⟨l⟩⟩ := s
  match l, h with
  | c :: r, _ =>
    show (decide (r.length < 32) && isL c && (c :: r).all isW) = (decide (r.length + 1 ≤ 32) && isL c && (c :: r).all isW)
    rw [show decide (r.length < 32) = decide (r.length + 1 ≤ 32) from rfl]
end Go.Proofs.YtnkmjhcddegkhaaDoor
