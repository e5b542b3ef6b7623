import Derived.Test.YtehjbceknnopoaaDoorPka
namespace Go.Proofs.YtehjbceknnopoaaDoor
open Go.ChangeShapes Go.WideShapes Go.ChangeAt Go.RowKit

set_option maxRecDepth 20000 in
set_option maxHeartbeats 2000000 in
/-- An image whose seal doesn't fit. -/
theorem unpack_seal (kind : Nat) (l : List Int) (a : Option Addr) (n c : Nat) (w : World) {a0 a1 a2 a3 a4 a5 a6 : Addr} (hn : n = l.length) (h10 : 10 ≤ n) (hB : BytesAt w a l) (hb : IsBytes l) (hc : n ≤ c) (hl : n ≤ 140737488351232) (hT : TabAt w) (hE : Errs7 w a0 a1 a2 a3 a4 a5 a6) (hs : ¬ sealOk l) :
    Calls Tryd.prog 19 #[.int .u8 kind, .slice a n c] w fun e w' => e = .returned (.tuple #[.slice none 0 0, .iface 103 (.pointer (some a6))]) ∧ Kept (fun _ => False) w w' := by
  obtain ⟨b, off, rfl, _⟩ := hB (by intro e; rw [e] at hn; simp at hn; omega)
  obtain ⟨m, hm⟩ : ∃ m, n = m + 4 := ⟨n - 4, by omega⟩
  have htl : (l.take m).length = m := by rw [List.length_take]; omega
  have SL : Hid (Calls Tryd.prog 34 #[.slice (some ⟨b, off, none⟩) m c] w fun e W' => e = .returned (.int .u32 (sealed (l.take m) : Nat)) ∧ W' = w) := by
    have r := sealed_any (l.take m) (some ⟨b, off, none⟩) c w (bytes_take hB m) (fun x hx => hb x (List.mem_of_mem_take hx)) (by omega) hT
    rw [htl] at r
    exact r
  have EW : Hid (Calls Tryd.prog 39 #[.slice (some ⟨b, off, none⟩) n c, .int .u32 (sealed (l.take m) : Nat)] w fun e W' => e = .returned (.bool false) ∧ W'.cell? ⟨6, 0, none⟩ = some (.iface 103 (.pointer (some a6))) ∧ Hid (Kept (fun _ => False) w W')) := by
    have r := ends_any l (some ⟨b, off, none⟩) n c (sealed (l.take m)) w hn hB (sealed_lt _) (by omega) (by omega) (by omega)
    refine r.mono ?_
    rintro e W' ⟨rfl, k⟩
    refine ⟨?_, k.cell hE.s6.var (fun f => f), k⟩
    rw [str_beq (fun x hx => hb x (List.mem_of_mem_drop hx)) (le_bytes 4 _)]
    have hne : ¬ (l.drop (l.length - 4) = le 4 (sealed (l.take m))) := by
      intro e
      apply hs
      unfold sealOk
      rw [show l.length - 4 = m by omega] at e ⊢
      exact e
    rw [decide_eq_false hne]
  obtain ⟨s, hs'⟩ : ∃ s, s = sealed (l.take m) := ⟨_, rfl⟩
  rw [← hs'] at SL EW
  have i0 : ¬ ((n : Int) < 10) := by omega
  have i1 : (n : Int) - 4 = (m : Int) := by omega
  have i2 : (m : Int) ≤ (c : Int) := by omega
  have i3 : m ≤ c := by omega
  clear hs' hs hB hb hT hE htl hn hm
  go_enter Tryd.func19, Tryd.ntmps19
  go_wp2_with (first | (go_at_call 34; refine SL.out.mono ?_; rintro e W2 ⟨rfl, e2⟩; subst e2) | (go_at_call 39; refine EW.out.mono ?_; rintro e W3 ⟨rfl, G3, K3⟩))
  go_quiet (fail)
  go_wp2
  go_ret2
  exact ⟨rfl, K3.out.trans (Kept.drewN _ _) (fun _ f => f.elim)⟩
end Go.Proofs.YtehjbceknnopoaaDoor
