import Derived.Test.YtopmdpfnigceeaaDoorLwE
namespace Go.Proofs.YtopmdpfnigceeaaDoor
open Go.ChangeShapes Go.WideShapes Go.ChangeAt Go.RowKit

set_option maxRecDepth 20000 in
set_option maxHeartbeats 1000000 in
theorem same_ok (l : List Int) (a b : Option Addr) (c d : Nat) (w : World) (hA : IntsAt w a l) (hB : IntsAt w b l) (hl : l.length ≤ 17592186044416) :
    Calls Tryd.prog 38 #[.slice a l.length c, .slice b l.length d] w fun e w' => e = .returned (.bool true) ∧ ∃ n, w' = w.drewN n := by
  have HA := hide hA
  have HB := hide hB
  clear hA hB
  go_enter Tryd.func38, Tryd.ntmps38
  go_wp2
  go_loopw [13] (fun i wr => (∃ n, wr = w.drewN n) ∧ ∃ k : Nat, k ≤ l.length ∧ i = .int .i64 k) (fun i _ => l.length - (intOf i).toNat)
  case atStart => exact ⟨⟨0, rfl⟩, 0, Nat.zero_le _, rfl⟩
  case round =>
    obtain ⟨⟨n, rfl⟩, k, hk, rfl⟩ := hrel
    by_cases hlt : k < l.length
    · obtain ⟨b1, off, rfl, hc⟩ := HA.out.get hlt
      obtain ⟨b2, off', rfl, hc'⟩ := HB.out.get hlt
      obtain ⟨x, hx⟩ : ∃ x, x = l[k]?.getD 0 := ⟨_, rfl⟩
      rw [← hx] at hc hc'
      clear hx
      go_wp2_with fail
      go_quiet (fail)
      go_wp2
      go_roundw
      case rel => exact ⟨⟨_, rfl⟩, k + 1, by omega, by go_num⟩
      case measure => simp [intOf]; omega
    · obtain rfl : k = l.length := by omega
      clear hlt hk
      go_wp2
      go_ret
      exact ⟨rfl, n, rfl⟩
theorem ints_kept {F : Nat → Prop} {w w' : World} {a : Option Addr} {l : List Int} (h : IntsAt w a l) (k : Kept F w w') (hF : l ≠ [] → ∀ ad, a = some ad → ¬ F ad.block) : IntsAt w' a l := by
  intro hne
  obtain ⟨b, off, e, hc⟩ := h hne
  exact ⟨b, off, e, fun j hj => k.cell (hc j hj) (hF hne ⟨b, off, none⟩ e)⟩
theorem ints_own {w : World} {base n : Nat} {v : Value} {l : List Int} (h : w.ownsRow base 3 1 v n (is l)) : ∃ a c, v = .slice a l.length c ∧ IntsAt w a l := by
  obtain ⟨a, c, e, hn, hc⟩ := ints_of_own h
  refine ⟨a, c, by rw [e, hn], fun hne => ?_⟩
  obtain ⟨b, off, e, _, _, hc'⟩ := hc hne
  exact ⟨b, off, e, hc'⟩

set_option maxRecDepth 20000 in
set_option maxHeartbeats 1000000 in
theorem back_8 (br : Nat) (v : Value) (l : List Int) (p : Nat) (sec : Bool) (nn uu ii : Int) (bv : Value) (s : ByteArray) (L : List Int) (a : Option Addr) (c : Nat) (rest : List Int) (w : World) (h : Rd w br v l p) (hL : IntsAt w a L) (hLb : L ≠ [] → ∀ ad, a = some ad → ad.block ≠ br) (hl : L.length ≤ 17592186044416) (hsm : l.length ≤ 1099511627776) (a0 a1 a2 : Addr) (g0 : w.cell? ⟨2, 0, none⟩ = some (errV a0)) (g1 : w.cell? ⟨5, 0, none⟩ = some (errV a1)) (g2 : w.cell? ⟨0, 0, none⟩ = some (errV a2)) (hI : IsInts L) (hm : mayB 8 L = true) (hd : l.drop p = rising L ++ rest) :
    Calls Tryd.prog 12 #[.pointer (some ⟨br, 0, none⟩), .agg #[.int .i64 8, .bool sec, .int .i64 nn, .int .u64 uu, .int .i64 ii, bv, .string s, .slice a L.length c]] w fun e w' => RGot br v l (p + (rising L).length) w e w' := by
  obtain ⟨o, ho⟩ : ∃ o, o = opB 8 sec nn uu ii bv s (.slice a L.length c) := ⟨_, rfl⟩
  have k0 := (Kept.alloc w o).cell g0 (fun f => f)
  have k1 := (Kept.alloc w o).cell g1 (fun f => f)
  have k2 := (Kept.alloc w o).cell g2 (fun f => f)
  have hd1 : l.drop p = uvb L.length ++ (risb L 0 ++ rest) := by rw [hd, rising, List.append_assoc]
  have hd2 : l.drop (p + (uvb L.length).length) = risb L 0 ++ rest := by rw [← List.drop_drop, hd1, List.drop_left]
  have c0 := rris_any br v l p L.length (uvb L.length).length L.length a0 a1 a2 (w.alloc o) (h.alloc _) (by rw [hd1]; exact rdu_uvb _ _ (by omega)) (by omega) (by omega) hsm k0 k1 k2
  rw [hd2, rdr_back L 0 rest (ris_of hI (mayB_nonneg hm) (mayB_rise hm))] at c0
  have c1 : Calls Tryd.prog 37 #[.pointer (some ⟨br, 0, none⟩), .int .i64 L.length] (w.alloc o) fun e w' => ∃ ua uc, e = .returned (.tuple #[.slice ua L.length uc, .nilIface]) ∧ Hid (IntsAt w' ua L ∧ IntsAt w' a L) ∧ Hid (Rd w' br v l (p + (rising L).length)) ∧ Hid (Kept (fun i => i = br) (w.alloc o) w') := by
    refine c0.mono ?_
    rintro e w' ⟨u, rfl, ho, hr, hk⟩
    obtain ⟨ua, uc, rfl, hu⟩ := ints_own ho
    refine ⟨ua, uc, rfl, ⟨hu, ints_kept (ints_kept hL (Kept.alloc w o) (fun _ _ _ f => f)) hk hLb⟩, ?_, hk⟩
    rw [rising, List.length_append, ← Nat.add_assoc]
    exact hr
  have C1 := hide c1
  have HH := hide h
  subst ho
  clear h hd hd1 hd2 c0 c1 k0 k1 k2 g0 g1 g2 hL hLb hI hm
  have cs : Hid (∀ (w2 : World) (ua : Option Addr) (uc : Nat), Hid (IntsAt w2 ua L ∧ IntsAt w2 a L) → Calls Tryd.prog 38 #[.slice ua L.length uc, .slice a L.length c] w2 fun e w' => e = .returned (.bool true) ∧ ∃ n, w' = w2.drewN n) := fun w2 ua uc hh => same_ok L ua a uc c w2 hh.out.1 hh.out.2 hl
  go_enter Tryd.func12, Tryd.ntmps12
  go_wp2_with (first | (go_at_call 37; refine C1.out.mono ?_; rintro e w2 ⟨ua, uc, rfl, hii, Q1, Q2⟩; have z1 := box_kept HH.out Q2.out; unfold opB at z1; have y0 : w2.cell? ⟨w.heap.size, 0, none⟩ = some (.int .i64 8) := (by simp [World.cell?, z1]); have y7 : w2.cell? ⟨w.heap.size, 7, none⟩ = some (.slice a L.length c) := (by simp [World.cell?, z1]); clear z1) | (go_at_call 38; refine (cs.out _ _ _ hii).mono ?_; rintro e w3 ⟨rfl, n3, rfl⟩))
  go_ret
  exact RGot.of HH.out (Q1.out.drewN _) (Q2.out.trans (Kept.drewN _ _) (fun _ f => f.elim)) (by first | rfl | simp)

set_option maxRecDepth 20000 in
set_option maxHeartbeats 1000000 in
theorem back_9 (br : Nat) (v : Value) (l : List Int) (p : Nat) (sec : Bool) (nn uu ii : Int) (bv : Value) (s : ByteArray) (L : List Int) (a : Option Addr) (c : Nat) (rest : List Int) (w : World) (h : Rd w br v l p) (hL : IntsAt w a L) (hLb : L ≠ [] → ∀ ad, a = some ad → ad.block ≠ br) (hl : L.length ≤ 17592186044416) (hsm : l.length ≤ 1099511627776) (a0 a1 a2 a3 : Addr) (g0 : w.cell? ⟨2, 0, none⟩ = some (errV a0)) (g1 : w.cell? ⟨5, 0, none⟩ = some (errV a1)) (g2 : w.cell? ⟨0, 0, none⟩ = some (errV a2)) (g3 : w.cell? ⟨4, 0, none⟩ = some (errV a3)) (hI : IsInts L) (hm : mayB 9 L = true) (hd : l.drop p = packed L ++ rest) :
    Calls Tryd.prog 12 #[.pointer (some ⟨br, 0, none⟩), .agg #[.int .i64 9, .bool sec, .int .i64 nn, .int .u64 uu, .int .i64 ii, bv, .string s, .slice a L.length c]] w fun e w' => RGot br v l (p + (packed L).length) w e w' := by
  obtain ⟨o, ho⟩ : ∃ o, o = opB 9 sec nn uu ii bv s (.slice a L.length c) := ⟨_, rfl⟩
  have k0 := (Kept.alloc w o).cell g0 (fun f => f)
  have k1 := (Kept.alloc w o).cell g1 (fun f => f)
  have k2 := (Kept.alloc w o).cell g2 (fun f => f)
  have k3 := (Kept.alloc w o).cell g3 (fun f => f)
  have hd1 : l.drop p = uvb L.length ++ (pbody L ++ rest) := by rw [hd, packed_eq, List.append_assoc]
  have hd2 : l.drop (p + (uvb L.length).length) = pbody L ++ rest := by rw [← List.drop_drop, hd1, List.drop_left]
  have c0 := rpak_any br v l p L.length (uvb L.length).length L.length a0 a1 a2 a3 (w.alloc o) (h.alloc _) (by rw [hd1]; exact rdu_uvb _ _ (by omega)) (by omega) (by omega) hsm k0 k1 k2 k3
  rw [hd2, rdp_back L rest hI (mayB_nonneg hm) (may9_zero hm)] at c0
  have c1 : Calls Tryd.prog 39 #[.pointer (some ⟨br, 0, none⟩), .int .i64 L.length] (w.alloc o) fun e w' => ∃ ua uc, e = .returned (.tuple #[.slice ua L.length uc, .nilIface]) ∧ Hid (IntsAt w' ua L ∧ IntsAt w' a L) ∧ Hid (Rd w' br v l (p + (packed L).length)) ∧ Hid (Kept (fun i => i = br) (w.alloc o) w') := by
    refine c0.mono ?_
    rintro e w' ⟨u, rfl, ho, hr, hk⟩
    obtain ⟨ua, uc, rfl, hu⟩ := ints_own ho
    refine ⟨ua, uc, rfl, ⟨hu, ints_kept (ints_kept hL (Kept.alloc w o) (fun _ _ _ f => f)) hk hLb⟩, ?_, hk⟩
    rw [packed_eq, List.length_append, ← Nat.add_assoc]
    exact hr
  have C1 := hide c1
  have HH := hide h
  subst ho
  clear h hd hd1 hd2 c0 c1 k0 k1 k2 k3 g0 g1 g2 g3 hL hLb hI hm
  have cs : Hid (∀ (w2 : World) (ua : Option Addr) (uc : Nat), Hid (IntsAt w2 ua L ∧ IntsAt w2 a L) → Calls Tryd.prog 38 #[.slice ua L.length uc, .slice a L.length c] w2 fun e w' => e = .returned (.bool true) ∧ ∃ n, w' = w2.drewN n) := fun w2 ua uc hh => same_ok L ua a uc c w2 hh.out.1 hh.out.2 hl
  go_enter Tryd.func12, Tryd.ntmps12
  go_wp2_with (first | (go_at_call 39; refine C1.out.mono ?_; rintro e w2 ⟨ua, uc, rfl, hii, Q1, Q2⟩; have z1 := box_kept HH.out Q2.out; unfold opB at z1; have y0 : w2.cell? ⟨w.heap.size, 0, none⟩ = some (.int .i64 9) := (by simp [World.cell?, z1]); have y7 : w2.cell? ⟨w.heap.size, 7, none⟩ = some (.slice a L.length c) := (by simp [World.cell?, z1]); clear z1) | (go_at_call 38; refine (cs.out _ _ _ hii).mono ?_; rintro e w3 ⟨rfl, n3, rfl⟩))
  go_ret
  exact RGot.of HH.out (Q1.out.drewN _) (Q2.out.trans (Kept.drewN _ _) (fun _ f => f.elim)) (by first | rfl | simp)

end Go.Proofs.YtopmdpfnigceeaaDoor
