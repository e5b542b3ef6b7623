import Derived.Test.YtkgcafomlhfonaaTkp
namespace Go.Proofs.Ytkgcafomlhfonaa.Tk
open Go.ChangeShapes Go.WideShapes Go.ChangeAt Go.RowKit

theorem best_cnt (k : Nat) (h : Ht) (l : List Ht) : cnt h (best k l) ≤ cnt h l := by
  unfold cnt best
  rw [← (srt_perm l).count_eq h]
  exact (List.take_sublist _ _).count_le h
theorem best_out (k : Nat) (h : Ht) (l : List Ht) (hc : cnt h (best k l) < cnt h l) : ∀ x ∈ best k l, ¬ Bt h x := by
  unfold cnt best at *
  rw [← (srt_perm l).count_eq h] at hc
  have h1 : (srt l).count h = ((srt l).take k).count h + ((srt l).drop k).count h := by
    conv => lhs; rw [← List.take_append_drop k (srt l), List.count_append]
  have h2 : h ∈ (srt l).drop k := List.count_pos_iff.1 (by omega)
  have h3 := srt_srt l
  unfold Srt at h3
  rw [← List.take_append_drop k (srt l), List.pairwise_append] at h3
  intro x hx
  exact h3.2.2 x hx h h2
theorem best_mem (k : Nat) (l : List Ht) {x : Ht} (hx : x ∈ best k l) : 0 < cnt x l :=
  List.count_pos_iff.2 ((srt_perm l).mem_iff.1 (List.mem_of_mem_take hx))
theorem want_val (k : Int) (n : Nat) : max 0 (min k (n : Int)) = ((min k.toNat n : Nat) : Int) := by omega
/-- Two keepers, apart, both younger than w. -/
structure Two (w W : World) (pa pb : Nat) (ka kb : Int) (va vb : Value) (Ka Kb : List Ht) : Prop where
  a : Keep pa W pa ka va Ka
  b : Keep pb W pb kb vb Kb
  ne : pa ≠ pb
  h1 : va.ownBlock ≠ some pb
  h2 : vb.ownBlock ≠ some pa
  h3 : ∀ i, va.ownBlock = some i → vb.ownBlock ≠ some i
  old : Kept (fun _ => False) w W
  la : w.heap.size ≤ pa
  lb : w.heap.size ≤ pb
theorem Two.swap {w W : World} {pa pb : Nat} {ka kb : Int} {va vb : Value} {Ka Kb : List Ht} (h : Two w W pa pb ka kb va vb Ka Kb) : Two w W pb pa kb ka vb va Kb Ka :=
  ⟨h.b, h.a, fun e => h.ne e.symm, h.h2, h.h1, fun i hi e => h.h3 i e hi, h.old, h.lb, h.la⟩
theorem Two.stepA {w W W' : World} {pa pb : Nat} {ka kb : Int} {va vb va' : Value} {Ka Kb Ka' : List Ht} (h : Two w W pa pb ka kb va vb Ka Kb) (k : Keep pa W' pa ka va' Ka') (s : KStep W W' pa va va') : Two w W' pa pb ka kb va' vb Ka' Kb := by
  refine ⟨k, h.b.other s (fun e => h.ne e.symm) (fun e => h.h1 e) h.h2 (fun i hi e => h.h3 i e hi), h.ne, fun e => ?_, h.h2, fun i hi e => ?_, s.young h.old h.la (fun i hi => Nat.le_trans h.la (h.a.lt.2 i hi).1), h.la, h.lb⟩
  · rcases s.new _ e with q | q
    · exact h.h1 q
    · have := h.b.lt.1; omega
  · rcases s.new _ hi with q | q
    · exact h.h3 i q e
    · have := (h.b.lt.2 i e).2; omega
theorem Two.stepB {w W W' : World} {pa pb : Nat} {ka kb : Int} {va vb vb' : Value} {Ka Kb Kb' : List Ht} (h : Two w W pa pb ka kb va vb Ka Kb) (k : Keep pb W' pb kb vb' Kb') (s : KStep W W' pb vb vb') : Two w W' pa pb ka kb va vb' Ka Kb' := (h.swap.stepA k s).swap
theorem Two.same {w W W' : World} {pa pb : Nat} {ka kb : Int} {va vb : Value} {Ka Kb : List Ht} (h : Two w W pa pb ka kb va vb Ka Kb) (k : Kept (fun _ => False) W W') : Two w W' pa pb ka kb va vb Ka Kb :=
  ⟨h.a.same k, h.b.same k, h.ne, h.h1, h.h2, h.h3, h.old.trans k (fun _ f => f.elim), h.la, h.lb⟩
theorem two_start {w W1 W2 W3 : World} {pa pb : Nat} {ka kb : Int} (k1 : Kept (fun _ => False) w W1) (ha : pa = W1.heap.size) (n1 : Keep pa W2 pa ka (.slice none 0 0) []) (m1 : Kept (fun _ => False) W1 W2) (hb : pb = W2.heap.size) (n2 : Keep pb W3 pb kb (.slice none 0 0) []) (m2 : Kept (fun _ => False) W2 W3) : Two w W3 pa pb ka kb (.slice none 0 0) (.slice none 0 0) [] [] :=
  ⟨n1.same m2, n2, by have := n1.lt.1; omega, (fun e => by cases e), (fun e => by cases e), (fun i hi => by cases hi), (k1.trans m1 (fun _ f => f.elim)).trans m2 (fun _ f => f.elim), by rw [ha]; exact k1.size, by rw [hb]; exact Nat.le_trans k1.size m1.size⟩
/-- The place of the i-th offer, backwards from T, around the list's end. -/
def bidx (T n q : Nat) : Nat := if q ≤ T then T - q else T + n - q
def rot (T : Nat) (l : List Ht) (i : Nat) : List Ht := (List.range i).map (fun q => g l (bidx T l.length q))
theorem rot_succ (T : Nat) (l : List Ht) (i : Nat) : rot T l (i + 1) = rot T l i ++ [g l (bidx T l.length i)] := by
  unfold rot
  rw [List.range_succ, List.map_append]
  rfl
theorem rot_len (T : Nat) (l : List Ht) (i : Nat) : (rot T l i).length = i := by simp [rot]
theorem rot_perm (T : Nat) (l : List Ht) (hT : T < l.length) : (rot T l l.length).Perm l := by
  have e : rot T l l.length = (l.take (T + 1)).reverse ++ (l.drop (T + 1)).reverse := by
    apply List.ext_getElem
    · rw [rot_len, List.length_append, List.length_reverse, List.length_reverse, List.length_take, List.length_drop]; omega
    · intro q h1 h2
      rw [rot_len] at h1
      have hr : (rot T l l.length)[q] = g l (bidx T l.length q) := by simp [rot]
      rw [hr]
      unfold bidx
      by_cases hq : q ≤ T
      · rw [if_pos hq, List.getElem_append_left (by rw [List.length_reverse, List.length_take]; omega), List.getElem_reverse, List.getElem_take, g_eq (by omega)]
        congr 1
        rw [List.length_take]
        omega
      · rw [if_neg hq, List.getElem_append_right (by rw [List.length_reverse, List.length_take]; omega), List.getElem_reverse, List.getElem_drop, g_eq (by omega)]
        congr 1
        rw [List.length_reverse, List.length_take, List.length_drop]
        omega
  rw [e]
  refine ((List.reverse_perm _).append (List.reverse_perm _)).trans ?_
  rw [List.take_append_drop]
end Go.Proofs.Ytkgcafomlhfonaa.Tk
