import Derived.Test.YtohnkamobmkhkaaDoorVfq
import Derived.Test.YtohnkamobmkhkaaDoorOpv
import Derived.Test.YtohnkamobmkhkaaDoorIyf
import Derived.Lib.LaidTab
import Derived.Deep.Grids
namespace Go.Proofs.YtohnkamobmkhkaaDoor
open Go.ChangeShapes Go.WideShapes Go.ChangeAt Go.RowKit

theorem Tryd.gTk : Tryd.prog.globalNamed "concord/verify.takes" = some 24 := by kernel_rfl
theorem Tryd.gtTk : (Tryd.prog.globals[24]?).map (·.type) = some 112 := by kernel_rfl
theorem Tryd.cTk1 : Tryd.prog.cellsOf 54 = 1 := by kernel_rfl
theorem Tryd.cTk : Tryd.prog.cellsOf 112 = 17 := by kernel_rfl
theorem tk_data {H : Type} : (Rows.laid_concord_verify_takes : DataW H) = Lib.tabData .u64 (tkL.map fun n : Nat => (n : Int)) := rfl
/-- What the listed table of what is taken gives. -/
theorem takes_at {W : World} {L : List (String × DataW Unit)} (h : laidMet Tryd.prog L W) (hm : ("concord/verify.takes", Rows.laid_concord_verify_takes) ∈ L) : TkT W := by
  obtain ⟨r, h⟩ := laidMet_mem h _ hm
  obtain ⟨ps, ⟨g', t', cs, fuel, p, q, hg', ht', hvar, hd, _, _⟩, _⟩ := h
  obtain rfl := Option.some.inj (Tryd.gTk.symm.trans hg')
  obtain rfl := Option.some.inj (Tryd.gtTk.symm.trans ht')
  rw [tk_data] at hd
  have c0 := Lib.cells_of_tab Tryd.underlying112 Tryd.underlying54 Tryd.cTk1 Tryd.cTk hd
  refine ⟨fun k hk => ?_⟩
  have hv : W.cell? ⟨24, k, none⟩ = cs.toList[k]? := by simpa using World.var?_cell Tryd.gTk hvar k
  rw [hv, c0]
  have q : ∀ j : Fin 17, ((tkL.map fun n : Nat => (n : Int)).map fun z => Value.int .u64 z)[j.val]? = some (.int .u64 ((tkL.getD j.val 0 : Nat) : Int)) := by
    intro j
    match j with
    | ⟨0, _⟩ => rfl
    | ⟨1, _⟩ => rfl
    | ⟨2, _⟩ => rfl
    | ⟨3, _⟩ => rfl
    | ⟨4, _⟩ => rfl
    | ⟨5, _⟩ => rfl
    | ⟨6, _⟩ => rfl
    | ⟨7, _⟩ => rfl
    | ⟨8, _⟩ => rfl
    | ⟨9, _⟩ => rfl
    | ⟨10, _⟩ => rfl
    | ⟨11, _⟩ => rfl
    | ⟨12, _⟩ => rfl
    | ⟨13, _⟩ => rfl
    | ⟨14, _⟩ => rfl
    | ⟨15, _⟩ => rfl
    | ⟨16, _⟩ => rfl
    | ⟨n + 17, h⟩ => omega
  exact q ⟨k, hk⟩
end Go.Proofs.YtohnkamobmkhkaaDoor
