import Derived.Test.YtjmmdklgkcbihaaDoorWrA
import Derived.Test.YtjmmdklgkcbihaaDoorPack
import Derived.Deep.QuietTactic
import Derived.BigQuiet
namespace Go.Proofs.YtjmmdklgkcbihaaDoor
open Go.ChangeShapes Go.WideShapes Go.ChangeAt Go.RowKit

/-- A list of ints as it lies in memory: nothing is said of the address of an empty one. -/
def IntsAt (w : World) (a : Option Addr) (l : List Int) : Prop :=
  l ≠ [] → ∃ b off, a = some ⟨b, off, none⟩ ∧ ∀ k, k < l.length → w.cell? ⟨b, off + k, none⟩ = some (.int .i64 (l[k]?.getD 0))
/-- Ints that are ints. -/
def IsInts (l : List Int) : Prop := ∀ x ∈ l, -9223372036854775808 ≤ x ∧ x ≤ 9223372036854775807
theorem IsInts.at {l : List Int} (h : IsInts l) {k : Nat} (hk : k < l.length) : -9223372036854775808 ≤ l[k]?.getD 0 ∧ l[k]?.getD 0 ≤ 9223372036854775807 := by
  rw [List.getElem?_eq_getElem hk]
  exact h _ (List.getElem_mem hk)
theorem IntsAt.get {w : World} {a : Option Addr} {l : List Int} (h : IntsAt w a l) {k : Nat} (hk : k < l.length) : ∃ b off, a = some ⟨b, off, none⟩ ∧ w.cell? ⟨b, off + k, none⟩ = some (.int .i64 (l[k]?.getD 0)) := by
  obtain ⟨b, off, e, hc⟩ := h (by intro e; rw [e] at hk; simp at hk)
  exact ⟨b, off, e, hc k hk⟩
theorem IntsAt.of_same {w w' : World} {a : Option Addr} {l : List Int} (h : IntsAt w a l) (hs : ∀ p v, w.cell? p = some v → (∃ x, v = .int .i64 x) → w'.cell? p = some v) : IntsAt w' a l := by
  intro hl
  obtain ⟨b, off, e, hc⟩ := h hl
  exact ⟨b, off, e, fun k hk => hs _ _ (hc k hk) ⟨_, rfl⟩⟩

theorem any_snoc {k : Nat} {l : List Int} (p : Int → Bool) (hk : k < l.length) : (l.take (k + 1)).any p = ((l.take k).any p || p (l[k]?.getD 0)) := by
  rw [List.take_succ_eq_append_getElem hk, List.any_append, List.getElem?_eq_getElem hk]
  simp

set_option maxHeartbeats 400000 in
theorem below_any (l : List Int) (a : Option Addr) (c : Nat) (w : World) (h : IntsAt w a l) (hl : l.length ≤ 9223372036854775807) :
    Calls Tryd.prog 86 #[.slice a l.length c] w fun e w' => e = .returned (.bool (l.any (fun x => decide (x < 0)))) ∧ w' = w := by
  have HH : Hid (IntsAt w a l) := h
  clear h
  go_enter Tryd.func86, Tryd.ntmps86
  go_wp2
  go_loop [7] (fun i => ∃ k : Nat, k ≤ l.length ∧ i = .int .i64 k ∧ (l.take k).any (fun x => decide (x < 0)) = false) (fun i => l.length - (intOf i).toNat)
  case atStart => exact ⟨0, Nat.zero_le _, rfl, rfl⟩
  case round =>
    obtain ⟨k, hk, rfl, hn⟩ := hrel
    have HN : Hid _ := hn
    clear hn
    by_cases hlt : k < l.length
    · obtain ⟨b, off, rfl, hc⟩ := HH.out.get hlt
      obtain ⟨x, hx⟩ : ∃ x, x = l[k]?.getD 0 := ⟨_, rfl⟩
      rw [← hx] at hc
      have HX : Hid (x = l[k]?.getD 0) := hx
      clear hx
      by_cases hneg : x < 0
      · go_wp2
        go_ret
        refine ⟨ret_bool ?_, rfl⟩
        have : x ∈ l := by rw [HX.out, List.getElem?_eq_getElem hlt]; exact List.getElem_mem hlt
        exact (List.any_eq_true.2 ⟨x, this, by simpa using hneg⟩).symm
      · go_wp2
        go_round
        case rel =>
          refine ⟨k + 1, by omega, by go_num, ?_⟩
          rw [any_snoc _ hlt, HN.out, ← HX.out]
          simpa using hneg
        case measure => simp [intOf]; omega
    · go_wp2
      go_ret
      refine ⟨ret_bool ?_, rfl⟩
      have e := HN.out
      rw [List.take_of_length_le (by omega)] at e
      exact e.symm

set_option maxHeartbeats 400000 in
theorem width_any (l : List Int) (a : Option Addr) (c : Nat) (w : World) (h : IntsAt w a l) (hl : l.length ≤ 9223372036854775807) (hI : IsInts l) (h0 : ∀ x ∈ l, 0 ≤ x) :
    Calls Tryd.prog 88 #[.slice a l.length c] w fun e w' => e = .returned (.int .i64 (bitLen (orl l))) ∧ w' = w := by
  have HH : Hid (IntsAt w a l) := h
  have hz : ∀ x ∈ l, x.toNat < 2 ^ 63 := fun x hx => by have := hI x hx; have := h0 x hx; omega
  have HZ : Hid (∀ x ∈ l, x.toNat < 2 ^ 63) := hz
  have H0 : Hid (∀ x ∈ l, 0 ≤ x) := h0
  clear h hI hz h0
  go_enter Tryd.func88, Tryd.ntmps88
  go_wp2
  go_loop [3, 8] (fun s i => ∃ k : Nat, k ≤ l.length ∧ i = .int .i64 k ∧ s = .int .i64 (orl (l.take k))) (fun _ i => l.length - (intOf i).toNat)
  case atStart => exact ⟨0, Nat.zero_le _, rfl, rfl⟩
  case round =>
    obtain ⟨k, hk, rfl, rfl⟩ := hrel
    have hb : orl (l.take k) < 2 ^ 63 := orl_lt 63 _ (fun x hx => HZ.out x (List.mem_of_mem_take hx))
    by_cases hlt : k < l.length
    · obtain ⟨b, off, rfl, hc⟩ := HH.out.get hlt
      have hm : l[k] ∈ l := List.getElem_mem hlt
      obtain ⟨x, hx⟩ : ∃ x : Nat, l[k]?.getD 0 = x := ⟨l[k].toNat, by rw [List.getElem?_eq_getElem hlt]; have := H0.out _ hm; simp; omega⟩
      have hxl : x < 2 ^ 63 := by
        have := HZ.out _ hm
        rw [List.getElem?_eq_getElem hlt] at hx
        simp at hx
        omega
      have ho := or_i64 (orl (l.take k)) x hb hxl
      have hs : Hid (orl (l.take (k + 1)) = orl (l.take k) ||| x) := by
        show orl (l.take (k + 1)) = orl (l.take k) ||| x
        rw [List.take_succ_eq_append_getElem hlt, orl_snoc]
        rw [List.getElem?_eq_getElem hlt] at hx
        simp at hx
        rw [hx]; rfl
      rw [hx] at hc
      clear hx hm
      go_wp2
      go_round
      case rel => exact ⟨k + 1, by omega, by go_num, by rw [hs.out]⟩
      case measure => simp [intOf]; omega
    · have hk' : l.take k = l := List.take_of_length_le (by omega)
      rw [hk'] at hb ⊢
      go_wp2_with (go_at_call 90; refine (len64_any _ _ (by omega) (by omega)).mono ?_; rintro e w' ⟨rfl, rfl⟩)
      go_ret
      exact ⟨ret_int (by simp), rfl⟩

/-- Each is greater than the one before it. -/
def riseB (l : List Int) : Bool := (List.range (l.length - 1)).all fun j => decide (l[j]?.getD 0 < l[j + 1]?.getD 0)
theorem riseB_iff (l : List Int) : riseB l = true ↔ ∀ j, j + 1 < l.length → l[j]?.getD 0 < l[j + 1]?.getD 0 := by
  unfold riseB
  rw [List.all_eq_true]
  constructor
  · intro h j hj
    simpa using h j (List.mem_range.2 (by omega))
  · intro h j hj
    simpa using h j (by have := List.mem_range.1 hj; omega)
set_option maxHeartbeats 400000 in
theorem rises_any (l : List Int) (a : Option Addr) (c : Nat) (w : World) (h : IntsAt w a l) (hl : l.length ≤ 9223372036854775806) :
    Calls Tryd.prog 87 #[.slice a l.length c] w fun e w' => e = .returned (.bool (riseB l)) ∧ ∃ n, w' = w.drewN n := by
  have HH : Hid (IntsAt w a l) := h
  clear h
  go_enter Tryd.func87, Tryd.ntmps87
  go_wp2
  go_loopw [3] (fun i wr => (∃ n, wr = w.drewN n) ∧ ∃ k : Nat, (k = 0 ∨ k + 1 ≤ l.length) ∧ i = .int .i64 ((k : Int) + 1) ∧ ∀ j, j < k → l[j]?.getD 0 < l[j + 1]?.getD 0) (fun i _ => l.length + 1 - (intOf i).toNat)
  case atStart => exact ⟨⟨0, rfl⟩, 0, .inl rfl, rfl, fun j hj => by omega⟩
  case round =>
    obtain ⟨⟨n, rfl⟩, k, hk, rfl, hn⟩ := hrel
    have HN : Hid _ := hn
    clear hn
    by_cases hlt : k + 1 < l.length
    · obtain ⟨b, off, rfl, hc⟩ := HH.out.get (k := k) (by omega)
      obtain ⟨b', off', e, hc'⟩ := HH.out.get hlt
      cases e
      obtain ⟨x, hx⟩ : ∃ x, x = l[k]?.getD 0 := ⟨_, rfl⟩
      obtain ⟨y, hy⟩ : ∃ y, y = l[k + 1]?.getD 0 := ⟨_, rfl⟩
      rw [← hx] at hc
      rw [← hy] at hc'
      have HX : Hid (x = l[k]?.getD 0) := hx
      have HY : Hid (y = l[k + 1]?.getD 0) := hy
      clear hx hy
      by_cases hle : y ≤ x
      · go_wp2_with fail
        go_quiet (fail)
        go_wp2
        go_ret
        refine ⟨ret_bool ?_, _, by rw [World.drewN_drewN]⟩
        cases hr : riseB l with
        | false => rfl
        | true =>
          have := (riseB_iff l).1 hr k hlt
          rw [← HX.out, ← HY.out] at this
          omega
      · go_wp2_with fail
        go_quiet (fail)
        go_wp2
        go_roundw
        case rel =>
          refine ⟨⟨_, rfl⟩, k + 1, .inr (by omega), by go_num, fun j hj => ?_⟩
          by_cases e : j = k
          · subst e; rw [← HX.out, ← HY.out]; omega
          · exact HN.out j (by omega)
        case measure => simp [intOf]; omega
    · go_wp2
      go_ret
      refine ⟨ret_bool ?_, n, rfl⟩
      symm
      rw [riseB_iff]
      intro j hj
      exact HN.out j (by omega)
end Go.Proofs.YtjmmdklgkcbihaaDoor
