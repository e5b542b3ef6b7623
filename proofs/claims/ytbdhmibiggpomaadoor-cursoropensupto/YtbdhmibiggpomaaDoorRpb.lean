import Derived.Test.YtbdhmibiggpomaaDoorMrg4
namespace Go.Proofs.YtbdhmibiggpomaaDoor
open Go.ChangeShapes Go.WideShapes Go.ChangeAt Go.RowKit

set_option maxRecDepth 20000 in
set_option maxHeartbeats 1000000 in
theorem rpak_bad (br : Nat) (v : Value) (l : List Int) (p : Nat) (most : Int) (ad : Addr) (w : World) (h : Rd w br v l p)
    (hc : ∀ a c, BytesAt w a l → ∀ n, Calls Tryd.prog 65 #[.slice a l.length c, .int .i64 p, .int .i64 most] (w.drewN n) fun e w' => e = .returned (.tuple #[.int .i64 0, .int .i64 0, errV ad]) ∧ ∃ m, w' = (w.drewN n).drewN m) :
    Calls Tryd.prog 69 #[.pointer (some ⟨br, 0, none⟩), .int .i64 most] w fun e w' => e = .returned (.tuple #[.slice none 0 0, errV ad]) ∧ ∃ n, w' = w.drewN n := by
  have hc1 := h.cell1
  have hc0 := h.cell0
  have hs := h.sm
  obtain ⟨a, c, rfl, hb, _⟩ := bytes_of_own h.own
  have c1 : ∀ n, Calls Tryd.prog 65 #[.slice a l.length c, .int .i64 p, .int .i64 most] (w.drewN n) fun e w' => e = .returned (.tuple #[.int .i64 0, .int .i64 0, .iface 176 (.pointer (some ad))]) ∧ ∃ m, w' = w.drewN m := by
    intro n
    refine (hc a c hb n).mono ?_
    rintro e w' ⟨rfl, m, rfl⟩
    exact ⟨rfl, n + m, by rw [World.drewN_drewN]⟩
  have C1 := hide c1
  clear h hb c1 hc
  go_enter Tryd.func69, Tryd.ntmps69
  go_wp2_with fail
  go_quiet ((exact C1.out _))
  go_wp2
  go_ret2
  exact ⟨rfl, _, rfl⟩
end Go.Proofs.YtbdhmibiggpomaaDoor
