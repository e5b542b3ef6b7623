import Derived.Test.YtohnkamobmkhkaaDoorRdA
import Derived.Test.YtohnkamobmkhkaaDoorRows
import Derived.Handy
import Derived.OpenShut
namespace Go.Proofs.YtohnkamobmkhkaaDoor
open Go.ChangeShapes Go.WideShapes Go.ChangeAt Go.RowKit

theorem Tryd.cU8 : Tryd.prog.cellsOf 5 = 1 := by kernel_rfl
theorem Tryd.bytesU8 : Tryd.prog.bytesOf 5 = 1 := by kernel_rfl
/-- Every value counts. -/
theorem bulk_pos {H : Type} (d : DataW H) : 1 ≤ Rows.uptoBulk d := by
  cases d with
  | lit l => cases l <;> simp [Rows.uptoBulk]
  | _ => simp [Rows.uptoBulk]
theorem bulk_count {H : Type} : ∀ l : List (DataW H), l.length ≤ Rows.uptoBulkAll l
  | [] => by simp
  | x :: r => by
    have h1 := bulk_pos x
    have h2 := bulk_count r
    simp only [Rows.uptoBulkAll, List.length_cons]
    omega
theorem bulk_mem {H : Type} {d : DataW H} : ∀ {l : List (DataW H)}, d ∈ l → Rows.uptoBulk d ≤ Rows.uptoBulkAll l
  | x :: r, h => by
    simp only [Rows.uptoBulkAll]
    rcases List.mem_cons.1 h with rfl | h
    · omega
    · have := bulk_mem h
      omega
theorem bulk_slice {H : Type} (es sp : List (DataW H)) : es.length < Rows.uptoBulk (.slice es sp) := by
  have := bulk_count es
  simp only [Rows.uptoBulk]
  omega
theorem bytesAt_lt {W : World} {a : Option Addr} {B : List Int} (h : BytesAt W a B) (hne : B ≠ []) : ∀ ad, a = some ad → ad.block < W.heap.size := by
  obtain ⟨b, off, rfl, hc⟩ := h hne
  rintro ad e
  obtain rfl := Option.some.inj e
  exact World.block_lt_of_cell? W _ (hc 0 (List.length_pos_iff.2 hne))
/-- A slice of bytes that came in. -/
theorem bytes_in {H : Type} {enc : TypeId × Value → H} {W : World} {fuel : Nat} {cs : List Value} {x : DataW H × List MemPlace} (hf : DataW.trod enc Tryd.prog W 0 (fun _ => true) true fuel 25 cs = some x) :
    ∃ (a : Option Addr) (c : Nat) (B : List Int), cs = [.slice a B.length c] ∧ BytesAt W a B ∧ IsBytes B ∧ (a = none → c = 0) ∧ B.length < Rows.uptoBulk x.1 ∧ (x.1 = .nil ∧ B.length = 0 ∨ ∃ es sp, x.1 = .slice es sp ∧ es.length = B.length) := by
  rcases open_ints Tryd.underlying25 Tryd.underlying5 Tryd.cU8 hf with ⟨rfl, rfl⟩ | ⟨a, l, c, zs, rfl, _, hl, hm, hz, rfl, hcell, hwz⟩
  · exact ⟨none, 0, [], rfl, fun e => (e rfl).elim, fun y hy => (by cases hy), fun _ => rfl, bulk_pos _, .inl ⟨rfl, rfl⟩⟩
  · simp only [if_true] at hz
    have hlen : (zs.take l).length = l := by rw [List.length_take]; omega
    refine ⟨some a, c, zs.take l, by rw [hlen], fun hne => ?_, fun y hy => ?_, (fun e => nomatch e), ?_, .inr ⟨_, _, rfl, by simp [lits]⟩⟩
    · have hpos : 0 < zs.length := by
        have := List.length_pos_iff.2 hne
        omega
      obtain ⟨b, off, rfl, hc⟩ := ints_at hcell hpos
      refine ⟨b, off, rfl, fun k hk => ?_⟩
      have := hc k (by omega)
      rw [List.getElem?_take, if_pos (by omega)]
      simpa [List.getD] using this
    · have := bounds_u8 (hwz y (List.mem_of_mem_take hy))
      omega
    · have := bulk_slice (H := H) (lits .u8 (zs.take l)) (lits .u8 (zs.drop l))
      have e : (lits (H := H) .u8 (zs.take l)).length = (zs.take l).length := by simp [lits]
      rw [e] at this
      exact this
/-- The same, without the datum. -/
theorem bytes_of {H : Type} {enc : TypeId × Value → H} {W : World} {fuel : Nat} {cs : List Value} {x : DataW H × List MemPlace} (hf : DataW.trod enc Tryd.prog W 0 (fun _ => true) true fuel 25 cs = some x) :
    ∃ (a : Option Addr) (c : Nat) (B : List Int), cs = [.slice a B.length c] ∧ BytesAt W a B ∧ IsBytes B ∧ (a = none → c = 0) ∧ B.length < Rows.uptoBulk x.1 := by
  obtain ⟨a, c, B, h1, h2, h3, h4, h5, -⟩ := bytes_in hf
  exact ⟨a, c, B, h1, h2, h3, h4, h5⟩
end Go.Proofs.YtohnkamobmkhkaaDoor
