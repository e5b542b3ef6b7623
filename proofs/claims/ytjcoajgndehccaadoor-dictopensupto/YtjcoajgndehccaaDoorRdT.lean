import Derived.Test.YtjcoajgndehccaaDoorRdI
namespace Go.Proofs.YtjcoajgndehccaaDoor
open Go.ChangeShapes Go.WideShapes Go.ChangeAt Go.RowKit

set_option maxRecDepth 20000 in
set_option maxHeartbeats 1000000 in
theorem rtext_bad (br : Nat) (v : Value) (l : List Int) (p : Nat) (most : Int) (ad : Addr) (w : World) (h : Rd w br v l p)
    (hc : ∀ a c, BytesAt w a l → ∀ n, Calls Tryd.prog 61 #[.slice a l.length c, .int .i64 p, .int .i64 most] (w.drewN n) fun e w' => e = .returned (.tuple #[.int .i64 0, .int .i64 0, errV ad]) ∧ ∃ m, w' = (w.drewN n).drewN m) :
    Calls Tryd.prog 69 #[.pointer (some ⟨br, 0, none⟩), .int .i64 most] w fun e w' => e = .returned (.tuple #[.string ByteArray.empty, errV ad]) ∧ ∃ n, w' = w.drewN n := by
  have hc1 := h.cell1
  have hc0 := h.cell0
  have hs := h.sm
  obtain ⟨a, c, rfl, hb, _⟩ := bytes_of_own h.own
  have c1 : ∀ n, Calls Tryd.prog 61 #[.slice a l.length c, .int .i64 p, .int .i64 most] (w.drewN n) fun e w' => e = .returned (.tuple #[.int .i64 0, .int .i64 0, .iface 118 (.pointer (some ad))]) ∧ ∃ m, w' = w.drewN m := by
    intro n
    refine (hc a c hb n).mono ?_
    rintro e w' ⟨rfl, m, rfl⟩
    exact ⟨rfl, n + m, by rw [World.drewN_drewN]⟩
  have C1 := hide c1
  clear h hb c1 hc
  go_enter Tryd.func69, Tryd.ntmps69
  go_wp2_with fail
  go_quiet ((exact C1.out _))
  go_wp2
  go_ret2
  exact ⟨rfl, _, rfl⟩
set_option maxRecDepth 20000 in
set_option maxHeartbeats 1000000 in
theorem rtext_short (br : Nat) (v : Value) (l : List Int) (p n k : Nat) (most : Int) (a0 a1 : Addr) (w : World) (h : Rd w br v l p) (hr : rdu 0 0 (l.drop p) = .ok (n, k)) (hm : (n : Int) ≤ most) (hm2 : most ≤ 9223372036854775807) (hn : l.length < p + k + n)
    (g0 : w.cell? ⟨1, 0, none⟩ = some (errV a0)) (g1 : w.cell? ⟨2, 0, none⟩ = some (errV a1)) :
    Calls Tryd.prog 69 #[.pointer (some ⟨br, 0, none⟩), .int .i64 most] w fun e w' => e = .returned (.tuple #[.string ByteArray.empty, errV a0]) ∧ ∃ n, w' = w.drewN n := by
  have hc := h.cell1
  have hc0 := h.cell0
  have hs := h.sm
  have hk := rdu_le _ _ _ _ _ hr
  rw [List.length_drop] at hk
  have hp := h.le
  obtain ⟨a, c, rfl, hb, _⟩ := bytes_of_own h.own
  have c1 : ∀ n', Calls Tryd.prog 61 #[.slice a l.length c, .int .i64 p, .int .i64 most] (w.drewN n') fun e w' => e = .returned (.tuple #[.int .i64 n, .int .i64 ((p + k : Nat) : Int), .nilIface]) ∧ ∃ m, w' = w.drewN m := by
    intro n'
    refine (upat_ok l _ c p n k most a0 a1 (w.drewN n') hb h.isb h.le (by omega) g0 g1 hr hm hm2).mono ?_
    rintro e w' ⟨rfl, m, rfl⟩
    exact ⟨by simp, n' + m, by rw [World.drewN_drewN]⟩
  obtain ⟨q, hq⟩ : ∃ q, q = p + k := ⟨_, rfl⟩
  rw [← hq] at c1 hn
  have hq1 : q ≤ l.length := by omega
  have hnI : (l.length : Int) - q < n := by omega
  have C1 := hide c1
  clear h hb g1 hr c1 hk hq hp
  go_enter Tryd.func69, Tryd.ntmps69
  go_wp2_with fail
  go_quiet ((exact C1.out _))
  go_wp2
  go_quiet (fail)
  go_wp2
  go_ret2
  first
    | exact ⟨rfl, _, rfl⟩
    | exact ⟨rfl, _, by rw [World.drewN_drewN]⟩
end Go.Proofs.YtjcoajgndehccaaDoor
