import Derived.Test.YtohnkamobmkhkaaDoorIzc
import Derived.Test.YtohnkamobmkhkaaDoorFrm
import Derived.Test.YtohnkamobmkhkaaDoorErrs
import Derived.Lib.LaidTab
namespace Go.Proofs.YtohnkamobmkhkaaDoor
open Go.ChangeShapes Go.WideShapes Go.ChangeAt Go.RowKit

theorem Tryd.gOps : Tryd.prog.globalNamed "concord/isa.operations" = some 25 := by kernel_rfl
theorem Tryd.gtOps : (Tryd.prog.globals[25]?).map (·.type) = some 120 := by kernel_rfl
theorem Tryd.cOp1 : Tryd.prog.cellsOf 9 = 1 ∧ Tryd.prog.cellsOf 3 = 1 ∧ Tryd.prog.cellsOf 119 = 2 := by refine ⟨?_, ?_, ?_⟩ <;> kernel_rfl
set_option maxRecDepth 20000 in
theorem ops_data {H : Type} : (Rows.laid_concord_isa_operations : DataW H) = .agg ((List.range 17).map (fun k : Nat => .agg [.lit (.string (nmN (k : Int))), .lit (.int .i64 (arN (k : Int) : Nat))])) := rfl
theorem list2 {α : Type} {l : List α} (h : l.length = 2) : ∃ a b, l = [a, b] := by
  match l, h with
  | [a, b], _ => exact ⟨a, b, rfl⟩
set_option maxRecDepth 20000 in
/-- What the listed table of operations gives. -/
theorem ops_at {W : World} {L : List (String × DataW Unit)} (h : laidMet Tryd.prog L W) (hm : ("concord/isa.operations", Rows.laid_concord_isa_operations) ∈ L) : OpT W := by
  obtain ⟨r, h⟩ := laidMet_mem h _ hm
  obtain ⟨ps, ⟨g', t', cs, fuel, p, q, hg', ht', hvar, hd, _, _⟩, _⟩ := h
  obtain rfl := Option.some.inj (Tryd.gOps.symm.trans hg')
  obtain rfl := Option.some.inj (Tryd.gtOps.symm.trans ht')
  obtain ⟨xs, n, -, ex, hl, hxl, hel⟩ := DataW.trod_array Tryd.underlying120 hd
  rw [ops_data] at ex
  simp only [Prod.mk.injEq, DataW.agg.injEq] at ex
  obtain ⟨ex, -⟩ := ex
  obtain ⟨c1, c2, c3⟩ := Tryd.cOp1
  have hv : ∀ i, W.cell? ⟨25, i, none⟩ = cs.toList[i]? := fun i => by simpa using World.var?_cell Tryd.gOps hvar i
  have key : ∀ j, j < 17 → cs.toList[j * 2]? = some (.string ⟨(nmN j).toArray⟩) ∧ cs.toList[j * 2 + 1]? = some (.int .i64 (arN j : Nat)) := by
    intro j hj
    have h1 := hel j hj
    rw [c3, List.getElem?_eq_getElem (by rw [hxl]; exact hj)] at h1
    obtain ⟨ys, m, e0, hx, hl2, hxl2, hfs⟩ := DataW.trod_struct Tryd.underlying119 h1
    have e3 : (xs.map (·.1))[j]? = some (xs[j]'(by rw [hxl]; exact hj)).1 := by rw [List.getElem?_map, List.getElem?_eq_getElem (by rw [hxl]; exact hj)]; rfl
    rw [← ex, List.getElem?_map, List.getElem?_range hj, hx] at e3
    simp only [Option.map_some, Option.some.injEq, DataW.agg.injEq] at e3
    obtain ⟨y0, y1, rfl⟩ := list2 hxl2
    have d0 : DataW.trod (fun _ => ()) Tryd.prog W 0 (fun _ => true) false m 9 ((((cs.toList.drop (j * 2)).take 2).drop 0).take (Tryd.prog.cellsOf 9)) = some y0 := hfs 0 _ rfl
    have d1 : DataW.trod (fun _ => ()) Tryd.prog W 0 (fun _ => true) false m 3 ((((cs.toList.drop (j * 2)).take 2).drop 1).take (Tryd.prog.cellsOf 3)) = some y1 := hfs 1 _ rfl
    simp only [List.map_cons, List.map_nil, List.cons.injEq, and_true] at e3
    rw [c1, List.drop_zero] at d0
    rw [c2] at d1
    obtain ⟨s, z1, z2, -⟩ := DataW.trod_string Tryd.underlying9 d0
    obtain ⟨v, u1, u2, -⟩ := DataW.trod_int Tryd.underlying3 d1
    rw [z2, u2] at e3
    simp only [DataW.lit.injEq, Lit.string.injEq, Lit.int.injEq, true_and] at e3
    obtain ⟨g1, g2⟩ := e3
    have w0 := congrArg (fun l => l[0]?) z1
    have w1 := congrArg (fun l => l[0]?) u1
    simp only [List.getElem?_take, List.getElem?_drop] at w0 w1
    refine ⟨?_, ?_⟩
    · rw [g1]; simpa using w0
    · rw [g2]; simpa using w1
  exact ⟨fun k hk => by rw [hv]; exact (key k hk).1, fun k hk => by rw [hv]; exact (key k hk).2⟩
theorem Tryd.g_ErrCode : Tryd.prog.globalNamed "concord/api.ErrCode" = some 0 := by kernel_rfl
theorem Tryd.gt_ErrCode : (Tryd.prog.globals[0]?).map (·.type) = some 33 := by kernel_rfl
theorem sent35 {W : World} {L : List (String × DataW Unit)} (h : laidMet Tryd.prog L W) (hm : ("concord/api.ErrCode", Rows.laid_concord_api_ErrCode) ∈ L) : ∃ a, Sent W 123 0 [99, 111, 110, 99, 111, 114, 100, 58, 32, 99, 111, 100, 101] a := by
  obtain ⟨r, h⟩ := laidMet_mem h _ hm
  exact sent_head h Tryd.g_ErrCode Tryd.gt_ErrCode Tryd.underlying33 Tryd.rowErr Tryd.underlying123 Tryd.underlying140 rfl rfl Tryd.underlying9 Tryd.cellsErr Tryd.cellsStr
end Go.Proofs.YtohnkamobmkhkaaDoor
