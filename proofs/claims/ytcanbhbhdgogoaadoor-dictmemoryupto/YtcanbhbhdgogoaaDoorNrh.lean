import Derived.Test.YtcanbhbhdgogoaaDoorNrg
import Derived.Test.YtcanbhbhdgogoaaDoorMrg7
import Derived.Test.YtcanbhbhdgogoaaDoorMrg8
import Derived.Test.YtcanbhbhdgogoaaDoorCln
namespace Go.Proofs.YtcanbhbhdgogoaaDoor
open Go.ChangeShapes Go.WideShapes Go.ChangeAt Go.RowKit

theorem errsO13 {w : World} {ad : Nat → Addr} (h : Errs13 w ad) : ErO w ad := ⟨h.s0.var, h.s1.var, h.s2.var, h.s4.var, h.s9.var⟩
theorem dblocks_any (w : World) (ws bd : Nat) (va : Value) (E : List En) (h : Dct w ws bd va E) (hn : E.length ≤ 1099511627776) : Calls Tryd.prog 41 #[.pointer (some ⟨bd, 0, none⟩)] w fun e w' => e = .returned (.int .i64 (nbk E.length : Nat)) ∧ w' = w := by
  have hc := h.cell
  obtain ⟨a, c, rfl⟩ := h.shape
  have CB := hideQ (blocksOf_any E.length w hn)
  clear h
  generalize E.length = n at *
  generalize nbk n = nb at *
  go_enter Tryd.func41, Tryd.ntmps41
  go_wp2_with (go_at_call 56; refine CB.out.mono ?_; clear CB; rintro e W1 ⟨rfl, rfl⟩)
  go_ret
  exact ⟨rfl, rfl⟩
set_option maxRecDepth 20000 in
set_option maxHeartbeats 4000000 in
/-- The law's answer to how great it is. -/
theorem answer_size (w : World) (ws bd : Nat) (va : Value) (E : List En) (a : Option Addr) (c : Nat) (h : Dct w ws bd va E) (hn : E.length ≤ 1073741824) :
    Calls Tryd.prog 16 #[.pointer (some ⟨bd, 0, none⟩), .slice a E.length c, .agg #[.int .i64 6, .int .i64 0, .string ⟨#[]⟩]] w fun e w' => e = .returned (.bool true) ∧ Kept (fun _ => False) w w' := by
  obtain ⟨nb, hnb⟩ : ∃ nb, nb = nbk E.length := ⟨_, rfl⟩
  have KA := Kept.alloc w (.cells #[.int .i64 6, .int .i64 0, .string ⟨#[]⟩] 48)
  have CL := hideQ (len_any _ ws bd va E (h.kept KA))
  have CB := hideQ (dblocks_any _ ws bd va E (h.kept KA) (by omega))
  rw [← hnb] at CB
  have HK := hideQ KA
  obtain ⟨n, hN⟩ : ∃ n, n = E.length := ⟨_, rfl⟩
  rw [← hN] at hn CL hnb ⊢
  have t0 : IntKind.i64.wrap ((n : Int) + 15) = (n : Int) + 15 := by rw [IntKind.wrap_i64]; omega
  have t1 : ((n : Int) + 15).tdiv 16 = (nb : Int) := by rw [Int.tdiv_eq_ediv_of_nonneg (by omega), hnb, nbk]; omega
  have t2 : ((n : Int) + 15) / 16 = (nb : Int) := by rw [hnb, nbk]; omega
  have t3 : ((n : Int) == (n : Int)) = true := by simp
  have t4 : ((nb : Int) == (nb : Int)) = true := by simp
  clear h hN hnb KA
  go_enter Tryd.func16, Tryd.ntmps16
  go_wp2_with (first
    | (go_at_call 18; refine CL.out.mono ?_; rintro e V1 ⟨rfl, h1⟩; obtain rfl := h1.symm)
    | (go_at_call 41; refine CB.out.mono ?_; rintro e V2 ⟨rfl, h2⟩; obtain rfl := h2.symm))
  go_ret
  exact ⟨by first | rfl | simp, HK.out⟩
end Go.Proofs.YtcanbhbhdgogoaaDoor
