import Derived.Test.YtklocdifkcnchaaDoorLyo
namespace Go.Proofs.YtklocdifkcnchaaDoor
open Go.ChangeShapes Go.WideShapes Go.ChangeAt Go.RowKit

theorem scan_list (l : List UInt8) (L : List Lx) (n : Nat) (w : World) (ad : Addr) (hC : ClsAt w) (hS : SynAt w ad) (hl : l.length ≤ 400000000000) (h : scanF l = (L, none)) (hn : n = L.length) (h0 : 0 < n) :
    Calls Tryd.prog 5 #[.string (bq l)] w fun x w' => (∃ g c, x = .returned (.tuple #[.slice (some ⟨g, 0, none⟩) n c, .int .i64 0, .nilIface]) ∧ ∀ k y, L[k]? = some y → LxAt w' g k y) ∧ Kept (fun _ => False) w w' := by
  refine (scan_none l w ad hC hS hl (by rw [h])).mono ?_
  rintro x w' ⟨⟨a, c, m, rfl, hT⟩, hk⟩
  rw [h] at hT
  have hm : m = n := by rw [hn]; exact hT.len
  subst hm
  obtain ⟨g, rfl, hc⟩ := hT.ats h0
  refine ⟨⟨g, c, rfl, fun k y hy => ?_⟩, hk⟩
  obtain ⟨hk2, e⟩ := List.getElem?_eq_some_iff.1 hy
  rw [← e]
  exact hc k hk2
/-- The lists in the loop. -/
structure Bes (w4 : World) (ga gb gc : Nat) (A B : List Lx) (d : Nat) (W : World) : Prop where
  kept : Kept (fun _ => False) w4 W
  a : ∀ k y, A[k]? = some y → LxAt W ga k y
  b : ∀ k y, B[k]? = some y → LxAt W gb k y
  c : ∀ k y, (A ++ B.map (shL d))[k]? = some y → LxAt W gc k y
theorem Bes.later {w4 : World} {ga gb gc : Nat} {A B : List Lx} {d : Nat} {W W' : World} (h : Bes w4 ga gb gc A B d W) (k : Kept (fun _ => False) W W') : Bes w4 ga gb gc A B d W' :=
  ⟨h.kept.trans k (fun _ f => f.elim), fun i y e => (h.a i y e).later k, fun i y e => (h.b i y e).later k, fun i y e => (h.c i y e).later k⟩
theorem Bes.one {w4 : World} {ga gb gc : Nat} {A B : List Lx} {d : Nat} {W : World} (h : Bes w4 ga gb gc A B d W) (i : Nat) (hi : i < A.length) : ∃ x, LxAt W ga i x ∧ LxAt W gc i x ∧ x ∈ A :=
  ⟨A[i], h.a i _ (List.getElem?_eq_getElem hi), h.c i _ (by rw [List.getElem?_append_left hi, List.getElem?_eq_getElem hi]), List.getElem_mem hi⟩
theorem Bes.two {w4 : World} {ga gb gc : Nat} {A B : List Lx} {d : Nat} {W : World} (h : Bes w4 ga gb gc A B d W) (j : Nat) (hj : j < B.length) : ∃ x, LxAt W gb j x ∧ LxAt W gc (j + A.length) (shL d x) ∧ x ∈ B :=
  ⟨B[j], h.b j _ (List.getElem?_eq_getElem hj), h.c _ _ (by rw [List.getElem?_append_right (by omega), Nat.add_sub_cancel, List.getElem?_map, List.getElem?_eq_getElem hj]; rfl), List.getElem_mem hj⟩
theorem lx_new (w : World) (v0 v1 v2 v3 v4 : Value) : (w.alloc (.cells #[v0, v1, v2, v3, v4] 31)).cell? ⟨w.heap.size, 0, none⟩ = some v0 ∧ (w.alloc (.cells #[v0, v1, v2, v3, v4] 31)).cell? ⟨w.heap.size, 1, none⟩ = some v1 ∧ (w.alloc (.cells #[v0, v1, v2, v3, v4] 31)).cell? ⟨w.heap.size, 2, none⟩ = some v2 ∧ (w.alloc (.cells #[v0, v1, v2, v3, v4] 31)).cell? ⟨w.heap.size, 3, none⟩ = some v3 ∧ (w.alloc (.cells #[v0, v1, v2, v3, v4] 31)).cell? ⟨w.heap.size, 4, none⟩ = some v4 := by
  refine ⟨?_, ?_, ?_, ?_, ?_⟩ <;> (rw [World.cell?_alloc_new]; rfl)
end Go.Proofs.YtklocdifkcnchaaDoor
