import Derived.Test.YtcanbhbhdgogoaaDoorDbf
namespace Go.Proofs.YtcanbhbhdgogoaaDoor
open Go.ChangeShapes Go.WideShapes Go.ChangeAt Go.RowKit

/-- What the library's Clone answers. -/
def ClnOk : Prop := ∀ (s : ByteArray) (W : World), s.size ≤ 281474976710656 → Calls Tryd.prog 69 #[.string s] W fun e w' => e = .returned (.string s) ∧ Kept (fun _ => False) W w'
set_option maxRecDepth 20000 in
set_option maxHeartbeats 4000000 in
theorem handed_any (hC : ClnOk) (w : World) (ws bd i : Nat) (va : Value) (E : List En) (h : Dct w ws bd va E) (hi : i < E.length) (hk : (E[i]).k.size ≤ 281474976710656) : Calls Tryd.prog 60 #[.pointer (some ⟨bd, 0, none⟩), .int .i64 i] w fun e w' => e = .returned (enV E[i]) ∧ Kept (fun _ => False) w w' := by
  have hc := h.cell
  obtain ⟨a, c, rfl⟩ := h.shape
  obtain ⟨g, rfl, x0, x1, x2, x3, x4⟩ := h.key hi
  have hiz : (i : Int) < (E.length : Int) := by omega
  have hgl : g < w.heap.size := World.block_lt_of_cell? w _ x0
  have hbl : bd < w.heap.size := World.block_lt_of_cell? w _ hc
  generalize E[i] = en at *
  obtain ⟨k, d, t, p, s⟩ := en
  simp only at x0 x1 x2 x3 x4 hk
  have CC := fun W => hideQ (hC k W hk)
  have K1 := Kept.alloc w (.cells #[.string ⟨#[]⟩, .int .i64 0, .int .i64 0, .int .i64 0, .int .i64 0] 31)
  have HX := hideQ (enO_new w ⟨#[]⟩ 0 0 0 0)
  replace x0 := K1.cell x0 (fun f => f)
  replace x1 := K1.cell x1 (fun f => f)
  replace x2 := K1.cell x2 (fun f => f)
  replace x3 := K1.cell x3 (fun f => f)
  replace x4 := K1.cell x4 (fun f => f)
  replace hc := K1.cell hc (fun f => f)
  have HK1 := hideQ K1
  clear h K1 hC
  generalize E.length = n at *
  go_enter Tryd.func60, Tryd.ntmps60
  generalize hW1 : w.alloc (.cells #[.string ⟨#[]⟩, .int .i64 0, .int .i64 0, .int .i64 0, .int .i64 0] 31) = W1 at *
  have hs1 : W1.heap.size = w.heap.size + 1 := by rw [← hW1]; simp
  go_wp2_with (first
    | (rw [hW1])
    | (go_at_call 69; refine Stp.go ?_))
  refine ⟨?_⟩
  refine (CC _).out.mono ?_
  rintro e W2 ⟨rfl, K2⟩
  have HY1 := enO_new W1 k d t p s
  rw [hs1] at HY1
  have HX1 : (W1.alloc (.cells #[.string k, .int .i64 d, .int .i64 t, .int .i64 p, .int .i64 s] 31)).heap[w.heap.size]? = some (enO ⟨#[]⟩ 0 0 0 0) := (Kept.alloc W1 _).heap HX.out (fun f => f)
  have HY2 := hideQ (K2.heap HY1 (fun f => f))
  have HX2 := hideQ (K2.heap HX1 (fun f => f))
  have HK2 := hideQ ((HK1.out.trans (Kept.alloc W1 _) (fun _ f => f.elim)).trans K2 (fun _ f => f.elim))
  clear x0 x1 x2 x3 x4 hc HY1 HX1 K2 HX HK1 hW1 hs1 CC
  generalize hb5 : w.heap.size + 1 = b5 at *
  have h45 : ¬ w.heap.size = b5 := by omega
  have h54 : ¬ b5 = w.heap.size := by omega
  obtain ⟨⟨y0, y1, y2, y3, y4⟩, fz⟩ := enO_cells HY2.out
  have f0 := fz 0
  obtain ⟨⟨z0, z1, z2, z3, z4⟩, gz⟩ := enO_cells HX2.out
  have g0 := gz 0
  have g1 := gz 1
  have g2 := gz 2
  have g3 := gz 3
  have g4 := gz 4
  clear fz gz
  have HS := hideQ (ksetD W2 b5 0 (.string k))
  have HX3 := hideQ (HS.out.heap HX2.out h45)
  have HPk := hideQ (putE_kept (W2.setCell ⟨b5, 0, none⟩ (.string k)) w.heap.size ⟨k, d, t, p, s⟩)
  have HPh := hideQ (putE_heap HX3.out ⟨k, d, t, p, s⟩)
  have HKf := hideQ ((HK2.out.trans HS.out (fun j hj => .inr (by omega))).trans HPk.out (fun j hj => .inr (by omega)))
  go_wp2
  obtain ⟨⟨q0, q1, q2, q3, q4⟩, -⟩ := enO_cells HPh.out
  simp only [putE] at q0 q1 q2 q3 q4
  refine bodyPost_ret (v := enV ⟨k, d, t, p, s⟩) (by simp [results, Tryd.results60, go_sem, q0, q1, q2, q3, q4, enV]) rfl ⟨rfl, HKf.out⟩
set_option maxRecDepth 20000 in
set_option maxHeartbeats 4000000 in
theorem atD_in (hC : ClnOk) (w : World) (ws bd i : Nat) (va : Value) (E : List En) (h : Dct w ws bd va E) (hi : i < E.length) (hk : (E[i]).k.size ≤ 281474976710656) : Calls Tryd.prog 35 #[.pointer (some ⟨bd, 0, none⟩), .int .i64 i] w fun e w' => e = .returned (.tuple #[enV E[i], .bool true]) ∧ Kept (fun _ => False) w w' := by
  have K1 := Kept.alloc w (.cells #[.string ⟨#[]⟩, .int .i64 0, .int .i64 0, .int .i64 0, .int .i64 0] 31)
  have CH := hideQ (handed_any hC _ ws bd i va E (h.kept K1) hi hk)
  have hc := (h.kept K1).cell
  obtain ⟨a, c, rfl⟩ := h.shape
  have HX := hideQ (enO_new w ⟨#[]⟩ 0 0 0 0)
  have HK1 := hideQ K1
  have hiz : ¬ ((E.length : Int) ≤ (i : Int)) := by omega
  have hiy : decide ((E.length : Int) ≤ (i : Int)) = false := decide_eq_false hiz
  have hiu : decide (E.length ≤ i) = false := decide_eq_false (by omega)
  clear h K1 hC
  generalize E[i] = en at *
  obtain ⟨k, d, t, p, s⟩ := en
  generalize E.length = n at *
  go_enter Tryd.func35, Tryd.ntmps35
  go_wp2_with (go_at_call 60; refine Stp.go ?_)
  refine ⟨?_⟩
  refine CH.out.mono ?_
  rintro e W2 ⟨rfl, K2⟩
  simp only [enV]
  have HX2 := hideQ (K2.heap HX.out (fun f => f))
  have HK2 := hideQ (HK1.out.trans K2 (fun _ f => f.elim))
  clear hc CH K2 HX HK1
  obtain ⟨⟨z0, z1, z2, z3, z4⟩, gz⟩ := enO_cells HX2.out
  have g0 := gz 0
  have g1 := gz 1
  have g2 := gz 2
  have g3 := gz 3
  have g4 := gz 4
  clear gz
  have HPk := hideQ (putE_kept W2 w.heap.size ⟨k, d, t, p, s⟩)
  have HPh := hideQ (putE_heap HX2.out ⟨k, d, t, p, s⟩)
  have HKf := hideQ (HK2.out.trans HPk.out (fun j hj => .inr (by omega)))
  go_wp2
  obtain ⟨⟨q0, q1, q2, q3, q4⟩, -⟩ := enO_cells HPh.out
  simp only [putE] at q0 q1 q2 q3 q4
  refine bodyPost_ret (v := .tuple #[.agg #[.string k, .int .i64 d, .int .i64 t, .int .i64 p, .int .i64 s], .bool true]) (by simp [results, Tryd.results35, go_sem, q0, q1, q2, q3, q4]) rfl ⟨rfl, HKf.out⟩
end Go.Proofs.YtcanbhbhdgogoaaDoor
