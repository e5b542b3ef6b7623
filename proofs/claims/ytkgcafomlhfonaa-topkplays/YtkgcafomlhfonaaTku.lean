import Derived.Test.YtkgcafomlhfonaaTkq
namespace Go.Proofs.Ytkgcafomlhfonaa.Tk
open Go.ChangeShapes Go.WideShapes Go.ChangeAt Go.RowKit

/-! Pages. -/
theorem srt_strict {l : List Ht} (hn : l.Nodup) : (srt l).Pairwise Bt := by
  have h1 := srt_srt l
  have h2 : (srt l).Nodup := (srt_perm l).nodup_iff.2 hn
  unfold Srt at h1
  unfold List.Nodup at h2
  refine (h1.and h2).imp ?_
  intro a b h
  by_cases hb : Bt a b
  · exact hb
  · exact absurd (bt_eq hb h.1) h.2
theorem behind_strict {S : List Ht} (hs : S.Pairwise Bt) {x : Ht} {q : Nat} (hx : S[q]? = some x) : behind x S = S.drop (q + 1) := by
  obtain ⟨hq, hxe⟩ := List.getElem?_eq_some_iff.1 hx
  unfold behind
  have hs2 := hs
  rw [← List.take_append_drop (q + 1) S, List.pairwise_append] at hs2
  have hmem : x ∈ S.take (q + 1) := List.mem_iff_getElem.2 ⟨q, by rw [List.length_take]; omega, by rw [List.getElem_take]; exact hxe⟩
  have e1 : (S.take (q + 1)).filter (fun y => decide (Bt x y)) = [] := by
    rw [List.filter_eq_nil_iff]
    intro y hy hb
    simp only [decide_eq_true_eq] at hb
    obtain ⟨i, hi, rfl⟩ := List.getElem_of_mem hy
    rw [List.length_take] at hi
    rw [List.getElem_take, ← hxe] at hb
    rcases Nat.lt_or_ge i q with h | h
    · exact bt_asym hb ((List.pairwise_iff_getElem.1 hs) i q (by omega) hq h)
    · obtain rfl : i = q := by omega
      exact bt_irr _ hb
  have e2 : (S.drop (q + 1)).filter (fun y => decide (Bt x y)) = S.drop (q + 1) := by
    rw [List.filter_eq_self]
    intro y hy
    simpa using hs2.2.2 _ hmem y hy
  conv => lhs; rw [← List.take_append_drop (q + 1) S, List.filter_append, e1, e2]
  rfl
theorem behind_srt {l : List Ht} (hn : l.Nodup) {x : Ht} {q : Nat} (hx : (srt l)[q]? = some x) : srt (behind x l) = (srt l).drop (q + 1) := by
  have p : (behind x l).Perm (behind x (srt l)) := (srt_perm l).symm.filter _
  rw [srt_congr p, behind_strict (srt_strict hn) hx]
  exact (srt_of (List.Pairwise.sublist (List.drop_sublist _ _) (srt_srt l)) (.refl _)).symm
/-- The page behind the place p. -/
def page (K : Nat) (l : List Ht) (p : Nat) : List Ht := ((srt l).drop p).take K
theorem page_len (K : Nat) (l : List Ht) (p : Nat) : (page K l p).length = min K (l.length - p) := by unfold page; rw [List.length_take, List.length_drop, srt_len]
theorem page_zero (K : Nat) (l : List Ht) : best K l = page K l 0 := by unfold best page; rw [List.drop_zero]
theorem page_app (K : Nat) (l : List Ht) (p : Nat) : (srt l).take p ++ page K l p = (srt l).take (p + (page K l p).length) := by
  unfold page
  rw [List.length_take, List.length_drop]
  rw [List.take_add]
  congr 1
  conv => lhs; rw [← List.take_length (l := List.take K (List.drop p (srt l))), List.length_take, List.length_drop, List.take_take]
  congr 1
  omega
theorem page_last {K : Nat} {l : List Ht} {p : Nat} (hK : 0 < K) (hp : p < l.length) : (page K l p)[(page K l p).length - 1]? = (srt l)[p + (page K l p).length - 1]? := by
  have hl := page_len K l p
  obtain ⟨m, hm⟩ : ∃ m, m = (page K l p).length := ⟨_, rfl⟩
  rw [← hm] at hl ⊢
  unfold page
  rw [List.getElem?_take, if_pos (by omega), List.getElem?_drop]
  congr 1
  omega
theorem page_next {K : Nat} {l : List Ht} {p : Nat} (hn : l.Nodup) (hK : 0 < K) (hp : p < l.length) (x : Ht) (hx : (page K l p)[(page K l p).length - 1]? = some x) : best K (behind x l) = page K l (p + (page K l p).length) := by
  have hl := page_len K l p
  rw [page_last hK hp] at hx
  obtain ⟨m, hm⟩ : ∃ m, m = (page K l p).length := ⟨_, rfl⟩
  rw [← hm] at hx hl ⊢
  unfold best
  rw [behind_srt hn hx]
  unfold page
  rw [show p + m - 1 + 1 = p + m by omega]
theorem nodup_of {l : List Ht} (h : ∀ i (_ : i < l.length), cnt (l[i]) (l.drop (i + 1)) = 0) : l.Nodup := by
  unfold List.Nodup
  rw [List.pairwise_iff_getElem]
  intro i j hi hj hij e
  have h1 := h i hi
  unfold cnt at h1
  rw [List.count_eq_zero] at h1
  apply h1
  rw [e]
  rw [List.mem_iff_getElem]
  exact ⟨j - (i + 1), by rw [List.length_drop]; omega, by rw [List.getElem_drop]; congr 1; omega⟩
theorem elHit : Try.prog.elem 26 = 29 := by kernel_rfl
theorem szHit (V : World) : (sizeOf 29).run Try.prog V = .ok 2 V := by
  obtain ⟨i0, hi, hz0, hz1, hz2⟩ := info_partsT infoHt
  simp [sizeOf, typeInfo, hi, hz1]
/-- A list of hits without its first k. -/
theorem cut_hits {W : World} {a : Option Addr} {c n k : Nat} {l : List Ht} (h : HsAt W a l) (hn : n = l.length) (hc : n ≤ c) (hk : k ≤ n) : ∃ a6 c6, (∀ V, (Instr.sliceAt 26 (.slice a n c) (some (.int .i64 (k : Int))) none none).run Try.prog V = .ok (.slice a6 (n - k) c6) V) ∧ HsAt W a6 (l.drop k) := by
  have hel : Try.prog.underlying 26 = some (.slice (Try.prog.elem 26)) := by rw [elHit]; exact Try.underlying26
  refine ⟨if c = k then a else a.map (·.add (k * 2)), c - k, fun V => ?_, ?_⟩
  · rw [run_sliceAt_slice _ _ _ _ _ _ hel, run_slice_l _ _ _ _ _ hel _ _ (by omega) (by omega), elHit, szHit]
    simp only [Result.andThen, sliced, Int.toNat_natCast]
  · intro hne
    have hkl : k < l.length := by
      rcases Nat.lt_or_ge k l.length with q | q
      · exact q
      · exact absurd (List.drop_eq_nil_of_le q) hne
    obtain ⟨b, off, rfl, hc2⟩ := h (by intro e; rw [e] at hkl; simp at hkl)
    rw [if_neg (by omega)]
    refine ⟨b, off + k * 2, ?_, fun j hj => ?_⟩
    · simp only [Option.map_some, Option.some.injEq]
      rw [Addr.add_mid]
    · rw [List.length_drop] at hj
      have := hc2 (k + j) (by omega)
      rw [List.getElem_drop]
      rw [show off + k * 2 + j * 2 = off + (k + j) * 2 by omega]
      exact this
end Go.Proofs.Ytkgcafomlhfonaa.Tk
