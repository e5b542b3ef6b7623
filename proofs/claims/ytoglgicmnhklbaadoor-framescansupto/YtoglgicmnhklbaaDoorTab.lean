import Derived.Test.YtoglgicmnhklbaaDoorLiv2
import Derived.Test.YtoglgicmnhklbaaDoorErrs
import Derived.Lib.LaidTab
namespace Go.Proofs.YtoglgicmnhklbaaDoor
open Go.ChangeShapes Go.WideShapes Go.ChangeAt Go.RowKit

theorem Tryd.gTab : Tryd.prog.globalNamed "concord/frame.steps" = some 3 := by kernel_rfl
theorem Tryd.gTabT : (Tryd.prog.globals[3]?).map (·.type) = some 85 := by kernel_rfl
theorem Tryd.cTab : Tryd.prog.cellsOf 84 = 16 ∧ Tryd.prog.cellsOf 51 = 1 ∧ Tryd.prog.cellsOf 85 = 32 := by
  refine ⟨?_, ?_, ?_⟩ <;> kernel_rfl
def tabI (l : List Nat) : List Int := l.map Int.ofNat
theorem steps_data {H : Type} : (Rows.laid_concord_frame_steps : DataW H) = .agg [Lib.tabData .u32 (tabI tabS), Lib.tabData .u32 (tabI tabC)] := rfl
theorem tab_cells {W : World} {cs zs : List Value} {off : Nat} (h : ∀ i, W.cell? ⟨3, i, none⟩ = cs[i]?) (hz : (cs.drop off).take 16 = zs) (k : Nat) (hk : k < 16) : W.cell? ⟨3, off + k, none⟩ = zs[k]? := by
  rw [h, ← hz, List.getElem?_take, if_pos hk, List.getElem?_drop]
set_option maxRecDepth 20000 in
/-- What the listed table gives. -/
theorem tab_at {W : World} {L : List (String × DataW Unit)} (h : laidMet Tryd.prog L W) (hm : ("concord/frame.steps", Rows.laid_concord_frame_steps) ∈ L) : TabAt W := by
  obtain ⟨r, h⟩ := laidMet_mem h _ hm
  obtain ⟨ps, ⟨g', t', cs, fuel, p, q, hg', ht', hvar, hd, _, _⟩, _⟩ := h
  obtain rfl := Option.some.inj (Tryd.gTab.symm.trans hg')
  obtain rfl := Option.some.inj (Tryd.gTabT.symm.trans ht')
  obtain ⟨xs, n, -, ex, hl, hxl, hel⟩ := DataW.trod_array Tryd.underlying85 hd
  obtain ⟨cA, cU, cT⟩ := Tryd.cTab
  rw [steps_data] at ex
  match xs, hxl with
  | [x0, x1], _ =>
    simp only [List.map, Prod.mk.injEq, DataW.agg.injEq, List.cons.injEq, and_true] at ex
    obtain ⟨⟨e0, e1⟩, -⟩ := ex
    have h0 := hel 0 (by decide)
    have h1 := hel 1 (by decide)
    rw [cA] at h0 h1
    obtain ⟨y0, p0⟩ := x0
    obtain ⟨y1, p1⟩ := x1
    simp only at e0 e1
    subst e0 e1
    have c0 := Lib.cells_of_tab Tryd.underlying84 Tryd.underlying51 cU cA h0
    have c1 := Lib.cells_of_tab Tryd.underlying84 Tryd.underlying51 cU cA h1
    have hv : ∀ i, W.cell? ⟨3, i, none⟩ = cs.toList[i]? := fun i => by simpa using World.var?_cell Tryd.gTab hvar i
    refine ⟨fun k hk => ?_, fun k hk => ?_⟩
    · have q := tab_cells (off := 0) hv c0 k hk
      rw [Nat.zero_add] at q
      rw [q, ← tabS_is k hk]
      have hl : k < tabS.length := hk
      simp [tabI, List.getElem?_eq_getElem hl]
    · have q := tab_cells (off := 16) hv c1 k hk
      rw [q, ← tabC_is k hk]
      have hl : k < tabC.length := hk
      simp [tabI, List.getElem?_eq_getElem hl]
end Go.Proofs.YtoglgicmnhklbaaDoor
