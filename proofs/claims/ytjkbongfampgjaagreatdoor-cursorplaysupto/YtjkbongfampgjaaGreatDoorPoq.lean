import Derived.Test.YtjkbongfampgjaaGreatDoorPop
namespace Go.Proofs.YtjkbongfampgjaaGreatDoor
open Go.ChangeShapes Go.WideShapes Go.ChangeAt Go.RowKit

theorem rsk_facts {l : List Int} : ∀ {m left : Nat} {b : Int} {p q : Nat} {S : List Sk}, rsk l m left b p = some (S, q) → m = nbp left → -1 ≤ b → ∀ s ∈ S, -1 ≤ s.last ∧ s.last ≤ 2147483646 ∧ 1 ≤ s.n ∧ s.n ≤ 16
  | 0, left, b, p, q, S, h, _, _ => by
    rw [rsk] at h
    injection h with h
    injection h with e1 e2
    subst e1
    intro s hs
    cases hs
  | m + 1, left, b, p, q, S, h, hm, hb => by
    rw [rsk] at h
    split at h
    · cases h
    · rename_i g q1 hu
      split at h
      · cases h
      · rename_i z q2 hz
        split at h
        · cases h
        · rename_i S' t hS
          injection h with h
          injection h with e1 e2
          subst e1 e2
          obtain ⟨_, _, _, hx⟩ := upn_rduP hu
          have i := rsk_facts hS (by unfold nbp at hm ⊢; omega) (by omega)
          intro s hs
          rcases List.mem_cons.1 hs with rfl | hs
          · unfold nbp at hm
            simp only
            omega
          · exact i s hs
theorem rsk_len {l : List Int} : ∀ {m left : Nat} {b : Int} {p q : Nat} {S : List Sk}, rsk l m left b p = some (S, q) → S.length = m
  | 0, left, b, p, q, S, h => by
    rw [rsk] at h
    injection h with h
    injection h with e1 e2
    subst e1
    rfl
  | m + 1, left, b, p, q, S, h => by
    rw [rsk] at h
    split at h
    · cases h
    · split at h
      · cases h
      · split at h
        · cases h
        · rename_i hS
          injection h with h
          injection h with e1 e2
          subst e1
          rw [List.length_cons, rsk_len hS]
/-- What readHead leaves. -/
def rhPost (a : Option Addr) (c : Nat) (l : List Int) (w : World) (e : Ending) (w' : World) : Option Hd → Prop
  | none => (∃ u, e = .returned (.tuple #[u, .bool false])) ∧ Kept (fun _ => False) w w'
  | some h => ∃ bl sa sc, e = .returned (.tuple #[.pointer (some ⟨bl, 0, none⟩), .bool true]) ∧ LsAt w' bl a c l h.n h.t sa sc h.S h.p ∧ w.heap.size ≤ bl ∧ Kept (fun _ => False) w w'
def finH (l : List Int) (n t : Nat) : Option (List Sk × Nat) → Option Hd
  | none => none
  | some (S, p) => if szs S = l.length - p then some ⟨n, t, S, p⟩ else none
theorem hdr_n1 {l : List Int} (h : upn l.length l 0 = none) : hdr l = none := by unfold hdr; rw [h]
theorem hdr_n2 {l : List Int} {n q : Nat} (h : upn l.length l 0 = some (n, q)) (h2 : upn ((l.length - q : Nat) : Int) l q = none) : hdr l = none := by
  unfold hdr
  rw [h]
  simp only
  rw [h2]
theorem hdr_s {l : List Int} {n q t r : Nat} (h : upn l.length l 0 = some (n, q)) (h2 : upn ((l.length - q : Nat) : Int) l q = some (t, r)) : hdr l = finH l n t (rsk l (nbp n) n (-1) r) := by
  unfold hdr
  rw [h]
  simp only
  rw [h2]
  simp only
  cases rsk l (nbp n) n (-1) r with
  | none => rfl
  | some D => obtain ⟨F, q⟩ := D; rfl
set_option maxRecDepth 20000 in
set_option maxHeartbeats 8000000 in
theorem readHead_any (l : List Int) (a : Option Addr) (c : Nat) (ad : Nat → Addr) (w : World) (hA : BytesAt w a l) (hB : IsBytes l) (hl : l.length ≤ 1073741824) (hc : l.length ≤ c) (hE : ErP w ad) :
    Calls Tryz.prog 42 #[.slice a l.length c] w fun e w' => rhPost a c l w e w' (hdr l) := by
  obtain ⟨R, hR⟩ : ∃ R, R = hdr l := ⟨_, rfl⟩
  rw [← hR]
  have HR := hideP hR
  have HA := hideP hA
  have HE := hideP hE
  have CN := hideP (newr_any l a c w hA hB (by omega))
  obtain ⟨ll, hll⟩ : ∃ ll, ll = l.length := ⟨_, rfl⟩
  have HLL := hideP hll
  rw [← hll] at CN hc hl ⊢
  clear hR hA hE hll hB
  go_enter Tryz.func42, Tryz.ntmps42
  go_wp2_with (first
    | (go_at_call 62; refine CN.out.mono ?_; clear CN; rintro e W1 ⟨br, v, rfl, hR1, hb1, hv1, hK1⟩; have HR1 := hideP hR1; have HK1 := hideP hK1; clear hR1 hv1 hK1)
    | (go_at_call 64; refine StpQ.go ?_))
  refine ⟨?_⟩
  have CL := left_any br v l 0 W1 HR1.out
  rw [Nat.sub_zero, ← HLL.out] at CL
  refine CL.mono ?_
  rintro e W2 ⟨rfl, n2, rfl⟩
  have HR2 := hideP (HR1.out.drewN n2)
  have HK2 := hideP (HK1.out.trans (Kept.drewN W1 n2) (fun _ f => f.elim))
  have hE2 := HE.out.kept HK2.out
  clear CL HR1 HK1
  cases hu : upn (l.length : Int) l 0 with
  | none =>
    have HRn : Hid (R = none) := hideP (by rw [HR.out, hdr_n1 hu])
    rw [← HLL.out] at hu
    obtain ⟨bb, CU⟩ := upto_nP _ HR2.out (by omega) hE2 hu
    unfold errV at CU
    have CU2 := hideP CU
    clear hu CU hE2
    go_wp2_with (go_at_call 63; refine CU2.out.mono ?_; clear CU2; rintro e W3 ⟨rfl, k3⟩; have HK3 := hideP (HK2.out.trans k3 (fun _ f => f.elim)); clear k3)
    go_ret2
    rw [HRn.out]
    exact ⟨⟨_, rfl⟩, HK3.out⟩
  | some nq =>
    obtain ⟨n, q⟩ := nq
    have HU := hideP hu
    obtain ⟨_, _, _, hnx⟩ := upn_rduP hu
    rw [← HLL.out] at hu hnx
    have hn2 : n ≤ 1073741824 := by omega
    have CU := hideP (upto_sP _ HR2.out (by omega) hE2 hu)
    obtain ⟨lf, hlf⟩ : ∃ lf, lf = l.length - q := ⟨_, rfl⟩
    have hlf2 : lf ≤ 1073741824 := by have := HLL.out; omega
    have HLF := hideP hlf
    have CL : Hid (∀ W, Rd W br v l q → Calls Tryz.prog 64 #[.pointer (some ⟨br, 0, none⟩)] W fun e w' => e = .returned (.int .i64 (lf : Int)) ∧ ∃ n, w' = W.drewN n) := hideP (fun W hW => by rw [hlf]; exact left_any br v l q W hW)
    clear hu hE2 hlf
    go_wp2_with (first
      | (go_at_call 63; refine CU.out.mono ?_; clear CU; rintro e W3 ⟨rfl, hR3, k3⟩; have HK3 := hideP (HK2.out.trans k3 (fun i hi => .inr (by omega))); have CL3 := hideP (CL.out W3 hR3); have HR3 := hideP hR3; clear k3 hR3 CL)
      | (go_at_call 64; refine StpQ.go ?_))
    refine ⟨?_⟩
    refine CL3.out.mono ?_
    rintro e W4 ⟨rfl, n4, rfl⟩
    have HR4 := hideP (HR3.out.drewN n4)
    have HK4 := hideP (HK3.out.trans (Kept.drewN W3 n4) (fun _ f => f.elim))
    have hE4 := HE.out.kept HK4.out
    clear CL3 HR3 HK3 HR2 HK2
    cases hv : upn ((l.length - q : Nat) : Int) l q with
    | none =>
      have HRn : Hid (R = none) := hideP (by rw [HR.out, hdr_n2 HU.out hv])
      rw [← HLF.out] at hv
      obtain ⟨bb, CU⟩ := upto_nP _ HR4.out (by omega) hE4 hv
      unfold errV at CU
      have CU2 := hideP CU
      clear hv CU hE4
      go_wp2_with (go_at_call 63; refine CU2.out.mono ?_; clear CU2; rintro e W5 ⟨rfl, k5⟩; have HK5 := hideP (HK4.out.trans k5 (fun _ f => f.elim)); clear k5)
      go_ret2
      rw [HRn.out]
      exact ⟨⟨_, rfl⟩, HK5.out⟩
    | some tr =>
      obtain ⟨t, r⟩ := tr
      have HR5 : Hid (R = finH l n t (rsk l (nbp n) n (-1) r)) := hideP (by rw [HR.out, hdr_s HU.out hv])
      obtain ⟨_, _, _, htx⟩ := upn_rduP hv
      rw [← HLF.out] at hv htx
      have ht2 : t ≤ 1073741824 := by omega
      have CU := hideP (upto_sP _ HR4.out (by omega) hE4 hv)
      have CS : Hid (∀ W, Rd W br v l r → Kept (fun _ => False) w W → Calls Tryz.prog 65 #[.pointer (some ⟨br, 0, none⟩), .int .i64 n] W fun e w' => rsPost br v l W e w' (rsk l (nbp n) n (-1) r)) := hideP (fun W hW k => readSkips_any n w W hW (by rw [← HLL.out]; exact hl) hn2 HE.out (k.mono (fun _ f => f.elim)) hb1)
      clear hv hE4
      go_wp2_with (first
        | (go_at_call 63; refine CU.out.mono ?_; clear CU; rintro e W5 ⟨rfl, hR5', k5⟩; have HK5 := hideP (HK4.out.trans k5 (fun i hi => .inr (by omega))); have CS5 := hideP (CS.out W5 hR5' HK5.out); clear k5 hR5' CS)
        | (go_at_call 65; refine StpQ.go ?_))
      refine ⟨?_⟩
      have CS6 := CS5.out
      cases hs : rsk l (nbp n) n (-1) r with
      | none =>
        rw [hs] at CS6
        have HRn : Hid (R = none) := hideP (by rw [HR5.out, hs]; rfl)
        refine CS6.mono ?_
        rintro e W6 ⟨rfl, k6⟩
        have HK6 := hideP (HK5.out.trans k6 (fun i hi => .inr (by omega)))
        have HK7 := hideP (HK6.out.trans (Kept.alloc W6 (.cells #[.slice a ll c, .int .i64 (n : Int), .int .i64 (t : Int), .slice none 0 0] 113)) (fun _ f => f.elim))
        clear CS6 CS5 k6 hs HR4 HK4
        go_wp2
        go_ret2
        rw [HRn.out]
        exact ⟨⟨_, rfl⟩, HK7.out⟩
      | some Sp =>
        obtain ⟨S, p⟩ := Sp
        rw [hs] at CS6
        refine CS6.mono ?_
        rintro e W6 ⟨sa, sc, rfl, hSk, hR6, k6⟩
        have HK6 := hideP (HK5.out.trans k6 (fun i hi => .inr (by omega)))
        obtain ⟨sl, hsl⟩ : ∃ sl, sl = S.length := ⟨_, rfl⟩
        rw [← hsl]
        have ka := Kept.alloc W6 (.cells #[.slice a ll c, .int .i64 (n : Int), .int .i64 (t : Int), .slice sa sl sc] 113)
        have ga := heap_alloc_new W6 (.cells #[.slice a ll c, .int .i64 (n : Int), .int .i64 (t : Int), .slice sa sl sc] 113)
        have HK7 := hideP (HK6.out.trans ka (fun _ f => f.elim))
        have HLs : Hid (LsAt (W6.alloc (.cells #[.slice a ll c, .int .i64 (n : Int), .int .i64 (t : Int), .slice sa sl sc] 113)) W6.heap.size a c l n t sa sc S p) := hideP ⟨by rw [cell_of_row _ _ 0 _ _ _ ga, ← HLL.out]; rfl, by rw [cell_of_row _ _ 1 _ _ _ ga]; rfl, by rw [cell_of_row _ _ 2 _ _ _ ga]; rfl, by rw [cell_of_row _ _ 3 _ _ _ ga, ← hsl]; rfl, HA.out.kept HK7.out, by rw [← HLL.out]; exact hc, hSk.kept ka⟩
        have hsz6 := HK6.out.size
        by_cases hz : szs S = l.length - p
        · have HRn : Hid (R = some ⟨n, t, S, p⟩) := hideP (by rw [HR5.out, hs]; simp only [finH]; rw [if_pos hz])
          rw [decide_eq_true hz]
          clear CS6 CS5 k6 hs HR4 HK4 hSk hR6 hsl ka ga hz
          go_wp2
          go_ret2
          rw [HRn.out]
          exact ⟨W6.heap.size, sa, sc, rfl, HLs.out, hsz6, HK7.out⟩
        · have HRn : Hid (R = none) := hideP (by rw [HR5.out, hs]; simp only [finH]; rw [if_neg hz])
          rw [decide_eq_false hz]
          clear CS6 CS5 k6 hs HR4 HK4 hSk hR6 hsl ka ga hz
          go_wp2
          go_ret2
          rw [HRn.out]
          exact ⟨⟨_, rfl⟩, HK7.out⟩
end Go.Proofs.YtjkbongfampgjaaGreatDoor
