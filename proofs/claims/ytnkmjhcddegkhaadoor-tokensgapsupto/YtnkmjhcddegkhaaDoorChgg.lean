import Derived.Test.YtnkmjhcddegkhaaDoorChgf
import Derived.Test.YtnkmjhcddegkhaaDoorOsw
namespace Go.Proofs.YtnkmjhcddegkhaaDoor
open Go.ChangeShapes Go.WideShapes Go.ChangeAt Go.RowKit

set_option maxRecDepth 20000 in
set_option maxHeartbeats 2000000 in
theorem gaps_out (fa : Option Addr) (fn fc : Nat) (z : Int) (va : Option Addr) (n vc : Nat) (w : World) (hz : z < 0 ∨ (fn : Int) ≤ z) :
    Calls Tryd.prog 4 #[.agg #[.slice fa fn fc], .int .i64 z, .slice va n vc] w fun e w' => e = .returned (.bool true) ∧ Kept (fun _ => False) w w' := by
  have CL := fun w => hideV (livesT_any w)
  have CF := fun w => hideV (field_out fa fn fc z va n vc w hz)
  have KB := hideV (Kept.alloc w (.cells #[.slice fa fn fc] 35))
  have BX : Hid ((w.alloc (.cells #[.slice fa fn fc] 35)).cell? ⟨w.heap.size, 0, none⟩ = some (.slice fa fn fc)) := hideV (by simp)
  by_cases h0 : z < 0
  · clear hz
    go_enter Tryd.func4, Tryd.ntmps4
    go_wp2_with (first
      | (go_at_call 5; refine (CL _).out.mono ?_; clear CL; rintro e W0 ⟨rfl, K0⟩; have KC := hideV (KB.out.trans K0 (fun _ f => f.elim)); have bx0 := K0.cell BX.out (fun f => f))
      | (go_at_call 11; refine (CF _).out.mono ?_; clear CF; rintro e W1 ⟨rfl, K1⟩; have bx1 := K1.cell bx0 (fun f => f); have KW := hideV (KC.out.trans K1 (fun _ f => f.elim))))
    go_ret
    exact ⟨rfl, KW.out⟩
  · have h1 : (fn : Int) ≤ z := hz.resolve_left h0
    have hd : decide ((fn : Int) ≤ z) = true := decide_eq_true h1
    clear hz
    go_enter Tryd.func4, Tryd.ntmps4
    go_wp2_with (first
      | (go_at_call 5; refine (CL _).out.mono ?_; clear CL; rintro e W0 ⟨rfl, K0⟩; have KC := hideV (KB.out.trans K0 (fun _ f => f.elim)); have bx0 := K0.cell BX.out (fun f => f))
      | (go_at_call 11; refine (CF _).out.mono ?_; clear CF; rintro e W1 ⟨rfl, K1⟩; have bx1 := K1.cell bx0 (fun f => f); have KW := hideV (KC.out.trans K1 (fun _ f => f.elim))))
    go_ret
    exact ⟨rfl, KW.out⟩
/-- The law, at every schema, field and list of values of the bulk. -/
theorem gaps_walk (TT : Nat → ByteArray) (F : List Fd) (fa : Option Addr) (fc : Nat) (z : Int) (xs : List Vl) (va : Option Addr) (vc : Nat) (w : World) (hF : FsAt w fa F) (hX : VsAt w va xs) (hn2 : xs.length ≤ 1048576) (hXt : ∀ v ∈ xs, v.t.size ≤ 1048576) (hS : StopsT TT w) (hE : Es2 w) :
    Calls Tryd.prog 4 #[.agg #[.slice fa F.length fc], .int .i64 z, .slice va xs.length vc] w fun e w' => e = .returned (.bool true) ∧ Kept (fun _ => False) w w' := by
  by_cases hz : z < 0 ∨ (F.length : Int) ≤ z
  · exact gaps_out fa F.length fc z va xs.length vc w hz
  · obtain ⟨jj, rfl⟩ : ∃ jj : Nat, z = (jj : Int) := ⟨z.toNat, by omega⟩
    have hj : jj < F.length := by omega
    obtain ⟨b, off, rfl, hc⟩ := hF (by intro e; rw [e] at hj; simp at hj)
    obtain ⟨c0, c1, c2, c3, c4⟩ := hc jj hj
    exact gaps_in TT F[jj] b off F.length fc jj xs va xs.length vc w hj ⟨c0, c1, c2, c3, c4⟩ hX rfl hn2 hXt hS hE
end Go.Proofs.YtnkmjhcddegkhaaDoor
