import Derived.Test.YtbcohdioapmlgaaDoorLwD
import Derived.LaidEql
namespace Go.Proofs.YtbcohdioapmlgaaDoor
open Go.ChangeShapes Go.WideShapes Go.ChangeAt Go.RowKit

theorem str_sb (s : ByteArray) : strOfNums (sb s) = s := by
  have : (strOfNums (sb s)).data.toList = s.data.toList := by
    rw [strOfNums_data, sb, List.map_map]
    conv => rhs; rw [← List.map_id s.data.toList]
    apply List.map_congr_left
    intro b _
    simp
  cases h : strOfNums (sb s)
  cases s
  rw [h] at this
  simpa using this

theorem Tryd.compErr : (Tryd.prog.info? 100).map (·.comparable) = some true := by kernel_rfl
theorem Tryd.sizeErr : (Tryd.prog.info? 116).map (·.size) = some 1 := by kernel_rfl
theorem err_same (a : Addr) (W : World) :
    (binOp .eql 42 (.iface 100 (.pointer (some a))) (.iface 100 (.pointer (some a)))).run Tryd.prog W = .ok (.bool true) W := by
  obtain ⟨i, hi, hci⟩ := Option.map_eq_some_iff.1 Tryd.compErr
  obtain ⟨j, hj, hcj⟩ := Option.map_eq_some_iff.1 Tryd.sizeErr
  exact run_eql_iface_ptr_same W a Tryd.underlying42 Tryd.underlying100 hi hci hj

end Go.Proofs.YtbcohdioapmlgaaDoor
