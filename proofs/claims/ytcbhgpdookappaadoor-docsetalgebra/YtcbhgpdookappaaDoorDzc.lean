import Derived.Test.YtcbhgpdookappaaDoorDtv
import Derived.Test.YtcbhgpdookappaaDoorRows
import Derived.Handy
import Derived.OpenShut
import Derived.Lib.LaidTab
namespace Go.Proofs.YtcbhgpdookappaaDoor.Ds
open Go.ChangeShapes Go.WideShapes Go.ChangeAt Go.RowKit

theorem Tryd.cI1 : Tryd.prog.cellsOf 3 = 1 := by kernel_rfl
theorem Tryd.byI : Tryd.prog.bytesOf 3 = 8 := by kernel_rfl
/-- A slice of ints that came in. -/
theorem ints_inS {H : Type} {enc : TypeId × Value → H} {W : World} {fuel : Nat} {cs : List Value} {x : DataW H × List MemPlace} (hf : DataW.trod enc Tryd.prog W 0 (fun _ => true) true fuel 38 cs = some x) :
    ∃ (a : Option Addr) (c : Nat) (B : List Int), cs = [.slice a B.length c] ∧ IntsAt W a B ∧ IsInts B ∧ (x.1 = .nil ∧ B.length = 0 ∨ ∃ es sp, x.1 = .slice es sp ∧ es.length = B.length) := by
  rcases open_ints Tryd.underlying38 Tryd.underlying3 Tryd.cI1 hf with ⟨rfl, rfl⟩ | ⟨a, l, c, zs, rfl, _, hl, hm, hz, rfl, hcell, hwz⟩
  · exact ⟨none, 0, [], rfl, fun e => (e rfl).elim, fun y hy => (by cases hy), .inl ⟨rfl, rfl⟩⟩
  · simp only [if_true] at hz
    have hlen : (zs.take l).length = l := by rw [List.length_take]; omega
    refine ⟨some a, c, zs.take l, by rw [hlen], fun hne => ?_, fun y hy => ?_, .inr ⟨_, _, rfl, by simp [lits]⟩⟩
    · have hpos : 0 < zs.length := by
        have := List.length_pos_iff.2 hne
        omega
      obtain ⟨b, off, rfl, hc⟩ := ints_at hcell hpos
      refine ⟨b, off, rfl, fun k hk => ?_⟩
      have := hc k (by omega)
      rw [List.getElem?_take, if_pos (by omega)]
      simpa [List.getD] using this
    · have := bounds_i64 (hwz y (List.mem_of_mem_take hy))
      omega
theorem Tryd.gDb : Tryd.prog.globalNamed "math/bits.deBruijn64tab" = some 24 := by kernel_rfl
theorem Tryd.gDbT : (Tryd.prog.globals[24]?).map (·.type) = some 111 := by kernel_rfl
theorem Tryd.cDb : Tryd.prog.cellsOf 111 = 64 ∧ Tryd.prog.cellsOf 5 = 1 := by
  refine ⟨?_, ?_⟩ <;> kernel_rfl
theorem db_data {H : Type} : (Rows.laid_math_bits_deBruijn64tab : DataW H) = Lib.tabData .u8 (dbTab.map Int.ofNat) := rfl
/-- What the listed table gives. -/
theorem db_at {W : World} {L : List (String × DataW Unit)} (h : laidMet Tryd.prog L W) (hm : ("math/bits.deBruijn64tab", Rows.laid_math_bits_deBruijn64tab) ∈ L) : DbAt W := by
  obtain ⟨r, h⟩ := laidMet_mem h _ hm
  obtain ⟨ps, ⟨g', t', cs, fuel, p, q, hg', ht', hvar, hd, _, _⟩, _⟩ := h
  obtain rfl := Option.some.inj (Tryd.gDb.symm.trans hg')
  obtain rfl := Option.some.inj (Tryd.gDbT.symm.trans ht')
  obtain ⟨cT, cU⟩ := Tryd.cDb
  rw [db_data] at hd
  have c0 := Lib.cells_of_tab Tryd.underlying111 Tryd.underlying5 cU cT hd
  have hv : ∀ i, W.cell? ⟨24, i, none⟩ = cs.toList[i]? := fun i => by simpa using World.var?_cell Tryd.gDb hvar i
  intro k x hx
  rw [hv, c0, List.getElem?_map, List.getElem?_map, hx]
  rfl
end Go.Proofs.YtcbhgpdookappaaDoor.Ds
