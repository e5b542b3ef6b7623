import Derived.Test.YtcbhgpdookappaaDoorDti
import Derived.Test.YtcbhgpdookappaaDoorWrB
import Derived.BigRegion
namespace Go.Proofs.YtcbhgpdookappaaDoor.Ds
open Go.ChangeShapes Go.WideShapes Go.ChangeAt Go.RowKit

/-- The words of a list of members. -/
def wsOf (l : List Int) : Nat → Nat := l.foldl (fun ws i => putW ws i.toNat) (fun _ => 0)
theorem wsOf_snoc (l : List Int) (i : Int) : wsOf (l ++ [i]) = putW (wsOf l) i.toNat := by simp [wsOf]
def okL (n : Nat) (l : List Int) : Prop := ∀ i ∈ l, 0 ≤ i ∧ i < n
set_option maxRecDepth 20000 in
set_option maxHeartbeats 2000000 in
theorem of_in (n : Nat) (hn : n ≤ 1048576) (a : Option Addr) (c m : Nat) (l : List Int) (hm : m = l.length) (w : World) {ad : Nat → Addr} (hE : Errs14 w ad) (hL : IntsAt w a l) (hI : IsInts l) (hlen : l.length ≤ 281474976710656) :
    Calls Tryd.prog 18 #[.int .i64 n, .slice a m c] w fun e w' =>
      (okL n l ∧ ∃ p rb, e = .returned (.tuple #[.pointer (some ⟨p, 0, none⟩), .nilIface]) ∧ SetAt w' p rb n (nbOf n) (wsOf l) ∧ w.heap.size ≤ p ∧ w.heap.size ≤ rb ∧ Kept (fun _ => False) w w') ∨
      (¬ okL n l ∧ e = .returned (.tuple #[.pointer none, .iface 112 (.pointer (some (ad 7)))]) ∧ Kept (fun _ => False) w w') := by
  have NW := hideD (new_in n hn w)
  have HE := hideD hE
  have HL := hideD hL
  have HM := hideD hm
  have HI := hideD hI
  have hl2 : m ≤ 281474976710656 := by omega
  clear hE hL hm hlen hI
  go_enter Tryd.func18, Tryd.ntmps18
  go_wp2_with (first | (go_at_call 29; refine NW.out.mono ?_; rintro e W1 ⟨rfl, S1, K1⟩; have HS1 := hideD S1; have HK1 := hideD K1; clear S1 K1))
  clear NW
  obtain ⟨p, hp⟩ : ∃ p, p = w.heap.size + 1 := ⟨_, rfl⟩
  obtain ⟨rb, hrb⟩ : ∃ rb, rb = w.heap.size := ⟨_, rfl⟩
  have HP := hideD (And.intro hp hrb)
  rw [← hrb] at HS1
  rw [show rb + 1 = p by omega] at HS1
  rw [← hp]
  clear hp hrb
  go_loopw [22] (fun i wr => ∃ (k : Nat) (ws : Nat → Nat), k ≤ m ∧ i = .int .i64 k ∧ Hid (ws = wsOf (l.take k)) ∧ Hid (okL n (l.take k)) ∧ Hid (SetAt wr p rb n (nbOf n) ws) ∧ Hid (Kept (fun _ => False) w wr)) (fun i _ => m - (intOf i).toNat)
  case atStart => exact ⟨0, _, by omega, rfl, hideD rfl, hideD (fun i hi => by simp at hi), HS1, HK1⟩
  case round =>
    obtain ⟨k, ws, hk, rfl, HW, HO, HS, HK⟩ := hrel
    by_cases hlt : k < m
    · obtain ⟨b, off, rfl, hc⟩ := HL.out.get (k := k) (by have := HM.out; omega)
      have hc' := HK.out.cell hc (fun f => f)
      have hbd := HI.out.at (k := k) (by have := HM.out; omega)
      have ht : l.take (k + 1) = l.take k ++ [l[k]?.getD 0] := by
        have := HM.out
        rw [List.take_add_one, List.getElem?_eq_getElem (by omega)]; rfl
      obtain ⟨x, hx⟩ : ∃ x, x = l[k]?.getD 0 := ⟨_, rfl⟩
      rw [← hx] at hc' hbd ht
      have HT := hideD ht
      have HX := hideD (show x ∈ l from by have := HM.out; rw [hx, List.getElem?_eq_getElem (by omega)]; exact List.getElem_mem _)
      clear hc hx ht
      by_cases hin : 0 ≤ x ∧ x < n
      · obtain ⟨q, rfl⟩ : ∃ q : Nat, x = q := ⟨x.toNat, by omega⟩
        have AI := hideD (add_in p rb n (nbOf n) ws q (by omega) wr HS.out)
        go_wp2_with (first | (go_at_call 16; refine AI.out.mono ?_; rintro e W2 ⟨rfl, S2, K2⟩; have HS2 := hideD S2; have HK2 := hideD K2; clear S2 K2))
        go_round
        case rel =>
          refine ⟨k + 1, _, by omega, by go_num, hideD ?_, hideD ?_, HS2, hideD ?_⟩
          · rw [HT.out, wsOf_snoc, HW.out]; rfl
          · rw [HT.out]
            intro i hi
            rcases List.mem_append.1 hi with h | h
            · exact HO.out i h
            · rw [List.mem_singleton] at h; rw [h]; exact hin
          · exact HK.out.trans HK2.out (fun i hi => .inr (by have := HP.out.2; have : i = rb := hi; omega))
        case measure => simp [intOf]; omega
      · have AO := hideD (add_out p rb n (nbOf n) ws x hin wr HS.out (HE.out.kept HK.out))
        have HN := hideD hin
        clear hin
        go_wp2_with (first | (go_at_call 16; refine AO.out.mono ?_; rintro e W2 ⟨rfl, K2⟩; have HK2 := hideD K2; clear K2))
        go_ret2
        exact .inr ⟨fun h => HN.out (h x HX.out), rfl, HK.out.trans HK2.out (fun _ f => f.elim)⟩
    · obtain rfl : k = m := by omega
      clear hlt hk
      go_wp2
      go_ret2
      refine .inl ⟨?_, p, rb, rfl, ?_, by have := HP.out; omega, by have := HP.out; omega, HK.out⟩
      · have := HO.out
        rwa [HM.out, List.take_length] at this
      · have e := HW.out
        rw [HM.out, List.take_length] at e
        rw [← e]
        exact HS.out
set_option maxRecDepth 20000 in
set_option maxHeartbeats 1000000 in
theorem of_out (n : Int) (hn : ¬ (0 ≤ n ∧ n ≤ 1048576)) (v : Value) (w : World) {ad : Nat → Addr} (hE : Errs14 w ad) :
    Calls Tryd.prog 18 #[.int .i64 n, v] w fun e w' => e = .returned (.tuple #[.pointer none, .iface 112 (.pointer (some (ad 7)))]) ∧ Kept (fun _ => False) w w' := by
  have NW := hideD (new_out n hn w hE)
  clear hE hn
  go_enter Tryd.func18, Tryd.ntmps18
  go_wp2_with (first | (go_at_call 29; refine NW.out.mono ?_; rintro e W1 ⟨rfl, K1⟩))
  go_ret2
  exact ⟨rfl, K1⟩
end Go.Proofs.YtcbhgpdookappaaDoor.Ds
