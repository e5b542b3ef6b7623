import Derived.Test.YtjmmdklgkcbihaaDoorRdF
namespace Go.Proofs.YtjmmdklgkcbihaaDoor
open Go.ChangeShapes Go.WideShapes Go.ChangeAt Go.RowKit

set_option maxRecDepth 20000 in
theorem rword_short (br : Nat) (v : Value) (l : List Int) (p sz : Nat) (a0 : Addr) (w : World) (h : Rd w br v l p) (_hs8 : sz ≤ 8) (hps : l.length < p + sz) (g0 : w.cell? ⟨1, 0, none⟩ = some (errV a0)) :
    Calls Tryd.prog 81 #[.pointer (some ⟨br, 0, none⟩), .int .i64 sz] w fun e w' => e = .returned (.tuple #[.int .u64 0, errV a0]) ∧ ∃ n, w' = w.drewN n := by
  have hp := h.le
  have c1 := left_any br v l p w h
  have h1 : ((l.length - p : Nat) : Int) < (sz : Int) := by omega
  obtain ⟨lf, hlf⟩ : ∃ lf, lf = l.length - p := ⟨_, rfl⟩
  rw [← hlf] at c1 h1
  clear h hlf
  go_enter Tryd.func81, Tryd.ntmps81
  go_wp2_with (go_at_call 19; refine c1.mono ?_; rintro e w' ⟨rfl, n, rfl⟩)
  go_quiet (fail)
  go_wp2
  go_ret2
  exact ⟨rfl, n + nq, by first | rfl | rw [World.drewN_drewN]⟩
theorem rw64_ok (br : Nat) (v : Value) (l : List Int) (p : Nat) (w : World) (h : Rd w br v l p) (hps : p + 8 ≤ l.length) :
    Calls Tryd.prog 49 #[.pointer (some ⟨br, 0, none⟩)] w fun e w' => e = .returned (.tuple #[.int .u64 (vle ((l.drop p).take 8)), .nilIface]) ∧ Rd w' br v l (p + 8) ∧ Kept (fun i => i = br) w w' := by
  have c1 : Calls Tryd.prog 81 #[.pointer (some ⟨br, 0, none⟩), .int .i64 8] w fun e w' => e = .returned (.tuple #[.int .u64 (vle ((l.drop p).take 8)), .nilIface]) ∧ Rd w' br v l (p + 8) ∧ Kept (fun i => i = br) w w' := rword_ok br v l p 8 w h (by decide) hps
  obtain ⟨x, hx⟩ : ∃ x, x = vle ((l.drop p).take 8) := ⟨_, rfl⟩
  rw [← hx] at c1 ⊢
  have C1 := hide c1
  clear h c1 hx
  go_enter Tryd.func49, Tryd.ntmps49
  go_wp2_with (go_at_call 81; refine C1.out.mono ?_; rintro e w1 ⟨rfl, hR, hK⟩)
  go_ret2
  exact ⟨rfl, hR, hK⟩
theorem rw64_short (br : Nat) (v : Value) (l : List Int) (p : Nat) (a0 : Addr) (w : World) (h : Rd w br v l p) (hps : l.length < p + 8) (g0 : w.cell? ⟨1, 0, none⟩ = some (errV a0)) :
    Calls Tryd.prog 49 #[.pointer (some ⟨br, 0, none⟩)] w fun e w' => e = .returned (.tuple #[.int .u64 0, errV a0]) ∧ ∃ n, w' = w.drewN n := by
  have c1 : Calls Tryd.prog 81 #[.pointer (some ⟨br, 0, none⟩), .int .i64 8] w fun e w' => e = .returned (.tuple #[.int .u64 0, errV a0]) ∧ ∃ n, w' = w.drewN n := rword_short br v l p 8 a0 w h (by decide) hps g0
  have C1 := hide c1
  clear h c1 g0
  go_enter Tryd.func49, Tryd.ntmps49
  go_wp2_with (go_at_call 81; refine C1.out.mono ?_; rintro e w1 ⟨rfl, n, rfl⟩)
  go_ret2
  exact ⟨rfl, n, rfl⟩
theorem rw32_ok (br : Nat) (v : Value) (l : List Int) (p : Nat) (w : World) (h : Rd w br v l p) (hps : p + 4 ≤ l.length) :
    Calls Tryd.prog 48 #[.pointer (some ⟨br, 0, none⟩)] w fun e w' => e = .returned (.tuple #[.int .u32 (vle ((l.drop p).take 4)), .nilIface]) ∧ Rd w' br v l (p + 4) ∧ Kept (fun i => i = br) w w' := by
  have c1 : Calls Tryd.prog 81 #[.pointer (some ⟨br, 0, none⟩), .int .i64 4] w fun e w' => e = .returned (.tuple #[.int .u64 (vle ((l.drop p).take 4)), .nilIface]) ∧ Rd w' br v l (p + 4) ∧ Kept (fun i => i = br) w w' := rword_ok br v l p 4 w h (by decide) hps
  have hb : vle ((l.drop p).take 4) < 4294967296 := by
    have q := vle_lt ((l.drop p).take 4) (fun x hx => h.isb x (List.mem_of_mem_drop (List.mem_of_mem_take hx)))
    rw [List.length_take, List.length_drop, Nat.min_eq_left (by omega)] at q
    exact q
  obtain ⟨x, hx⟩ : ∃ x, x = vle ((l.drop p).take 4) := ⟨_, rfl⟩
  rw [← hx] at c1 hb ⊢
  have C1 := hide c1
  clear h c1 hx
  go_enter Tryd.func48, Tryd.ntmps48
  go_wp2_with (go_at_call 81; refine C1.out.mono ?_; rintro e w1 ⟨rfl, hR, hK⟩)
  go_ret2
  exact ⟨rfl, hR, hK⟩
theorem rw32_short (br : Nat) (v : Value) (l : List Int) (p : Nat) (a0 : Addr) (w : World) (h : Rd w br v l p) (hps : l.length < p + 4) (g0 : w.cell? ⟨1, 0, none⟩ = some (errV a0)) :
    Calls Tryd.prog 48 #[.pointer (some ⟨br, 0, none⟩)] w fun e w' => e = .returned (.tuple #[.int .u32 0, errV a0]) ∧ ∃ n, w' = w.drewN n := by
  have c1 : Calls Tryd.prog 81 #[.pointer (some ⟨br, 0, none⟩), .int .i64 4] w fun e w' => e = .returned (.tuple #[.int .u64 0, errV a0]) ∧ ∃ n, w' = w.drewN n := rword_short br v l p 4 a0 w h (by decide) hps g0
  have C1 := hide c1
  clear h c1 g0
  go_enter Tryd.func48, Tryd.ntmps48
  go_wp2_with (go_at_call 81; refine C1.out.mono ?_; rintro e w1 ⟨rfl, n, rfl⟩)
  go_ret2
  exact ⟨rfl, n, rfl⟩

/-- The run of bytes from a place on. -/
theorem BytesAt.cut {w : World} {b off : Nat} {l : List Int} {p n : Nat} (h : ∀ k, k < l.length → w.cell? ⟨b, off + k, none⟩ = some (.int .u8 (l[k]?.getD 0))) (hn : p + n ≤ l.length) : BytesAt w (some ⟨b, off + p, none⟩) ((l.drop p).take n) := by
  intro _
  refine ⟨b, off + p, rfl, fun k hk => ?_⟩
  rw [List.length_take, List.length_drop] at hk
  rw [List.getElem?_take, if_pos (by omega), List.getElem?_drop, Nat.add_assoc]
  exact h (p + k) (by omega)

end Go.Proofs.YtjmmdklgkcbihaaDoor
