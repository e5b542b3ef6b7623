import Derived.Test.YtmpneljkpcniiaaDoorHnq
import Derived.Test.YtmpneljkpcniiaaDoorOpb
import Derived.Handy
import Derived.OpenShut
namespace Go.Proofs.YtmpneljkpcniiaaDoor
open Go.ChangeShapes Go.WideShapes Go.ChangeAt Go.RowKit

theorem Tryd.cIntQ : Tryd.prog.cellsOf 3 = 1 := by kernel_rfl
/-- A slice of ints that came in. -/
theorem ints_inQ {H : Type} {enc : TypeId × Value → H} {W : World} {fuel : Nat} {cs : List Value} {x : DataW H × List MemPlace} (hf : DataW.trod enc Tryd.prog W 0 (fun _ => true) true fuel 22 cs = some x) :
    ∃ (a : Option Addr) (c : Nat) (B : List Int), cs = [.slice a B.length c] ∧ IntsAt W a B ∧ IsInts B ∧ B.length < Rows.uptoBulk x.1 := by
  rcases open_ints Tryd.underlying22 Tryd.underlying3 Tryd.cIntQ hf with ⟨rfl, rfl⟩ | ⟨a, l, c, zs, rfl, _, hl, hm, hz, rfl, hcell, hwz⟩
  · exact ⟨none, 0, [], rfl, fun e => (e rfl).elim, fun y hy => (by cases hy), bulk_pos _⟩
  · simp only [if_true] at hz
    have hlen : (zs.take l).length = l := by rw [List.length_take]; omega
    refine ⟨some a, c, zs.take l, by rw [hlen], fun hne => ?_, fun y hy => ?_, ?_⟩
    · have hpos : 0 < zs.length := by
        have := List.length_pos_iff.2 hne
        omega
      obtain ⟨b, off, rfl, hc⟩ := ints_at hcell hpos
      refine ⟨b, off, rfl, fun k hk => ?_⟩
      have := hc k (by omega)
      rw [List.getElem?_take, if_pos (by omega)]
      simpa [List.getD] using this
    · have := bounds_i64 (hwz y (List.mem_of_mem_take hy))
      omega
    · have := bulk_slice (H := H) (lits .i64 (zs.take l)) (lits .i64 (zs.drop l))
      have e : (lits (H := H) .i64 (zs.take l)).length = (zs.take l).length := by simp [lits]
      rw [e] at this
      exact this
/-- The law, with the marks taken. -/
theorem twice_all (L : List Int) (la : Option Addr) (lc : Nat) (R : List Int) (ra : Option Addr) (rc : Nat) (a0 a1 a2 a3 a7 : Addr) (w : World) (hL : IntsAt w la L) (hI : IsInts L) (hLl : L.length ≤ 1048576) (hR : BytesAt w ra R) (hRB : IsBytes R) (hRl : R.length ≤ 1048576) (hrz : ra = none → rc = 0)
    (g0 : w.cell? ⟨3, 0, none⟩ = some (errV a0)) (g1 : w.cell? ⟨4, 0, none⟩ = some (errV a1)) (g2 : w.cell? ⟨2, 0, none⟩ = some (errV a2)) (g3 : w.cell? ⟨1, 0, none⟩ = some (errV a3)) (g7 : w.cell? ⟨0, 0, none⟩ = some (errV a7)) :
    Calls Tryd.prog 3 #[.slice la L.length lc, .slice ra R.length rc] w fun e w' => e = .returned (.bool true) ∧ Kept (fun _ => False) w w' := by
  obtain ⟨bm, hbm⟩ := bm_fun
  obtain ⟨im, him⟩ := bm_funI
  exact twice_walk bm im hbm him L la lc R ra rc a0 a1 a2 a3 a7 w hL hI hLl hR hRB hRl hrz g0 g1 g2 g3 g7
end Go.Proofs.YtmpneljkpcniiaaDoor
