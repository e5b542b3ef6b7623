import Derived.Test.YtkgcafomlhfonaaTln
namespace Go.Proofs.Ytkgcafomlhfonaa.Tk
open Go.ChangeShapes Go.WideShapes Go.ChangeAt Go.RowKit

theorem StA.ends2 {W : World} {p q : Nat} {k : Int} {v : Value} {K : List Ht} {ka : Option Addr} {kc : Nat} (h : StA W p q k v K ka kc) : W.cell? ⟨q, 0, none⟩ = some (.slice ka K.length kc) :=
  (cell_of_row _ _ _ _ _ _ h.cell : W.cell? ⟨q, 0, none⟩ = _).trans rfl
theorem StA.ends {W : World} {p q : Nat} {k : Int} {v : Value} {K : List Ht} {ka : Option Addr} {kc : Nat} (h : StA W p q k v K ka kc) (hl : K.length ≤ 8796093021952) :
    (∀ U, Kept (fun _ => False) W U → Calls Try.prog 13 #[.pointer (some ⟨p, 0, none⟩)] U fun e w' => ∃ a c, e = .returned (.slice a K.length c) ∧ HsAt w' a K ∧ Kept (fun _ => False) U w') ∧
    (∀ U b d, Kept (fun _ => False) W U → HsAt U b K → Calls Try.prog 12 #[.slice b K.length d, .slice ka K.length kc] U fun e w' => e = .returned (.bool true) ∧ Kept (fun _ => False) U w') ∧
    (∀ U, Kept (fun _ => False) W U → Calls Try.prog 14 #[.pointer (some ⟨p, 0, none⟩)] U fun e w' => e = .returned (.int .i64 K.length) ∧ w' = U) := by
  refine ⟨fun U hU => (hits_any (h.keep.same hU) (by omega)).mono ?_, fun U b d hU hb => (equal_same K b ka d kc U hb (h.hs.same hU) (by omega)).mono ?_, fun U hU => ?_⟩
  · rintro e w' ⟨a, c, x, y, z⟩
    exact ⟨a, c, x, y.hs, z⟩
  · rintro e w' ⟨x, y⟩
    exact ⟨x, y⟩
  · obtain ⟨H, h1, h2, h3⟩ := h.keep.at'
    obtain ⟨a, c, hv⟩ := h1.row.shape
    have := len_any p _ v a H.length c k U hv ((h1.same hU).box)
    rw [h3.length_eq] at this
    exact this
theorem prel_kept {w W : World} {pa qa pb qb : Nat} {k m : Int} {i : Nat} (r : PRel w pa qa pb qb k m i W) : Kept (fun _ => False) w W := by
  obtain ⟨v, K, ka, kc, v2, K2, kb, kd, d, l1, l2, kk, f1, f2⟩ := r
  exact kk
set_option maxRecDepth 20000 in
set_option maxHeartbeats 8000000 in
theorem plays_walk (L : List Opn) (a : Option Addr) (c : Nat) (k m : Int) (w : World) (hl : OpsAt w a L) (hlim : L.length ≤ 4398046510976) : Calls Try.prog 3 #[.int .i64 k, .int .i64 m, .slice a L.length c] w fun e w' => e = .returned (.bool true) ∧ Kept (fun _ => False) w w' := by
  have HL := hideT hl
  obtain ⟨n, hn⟩ : ∃ n, n = L.length := ⟨_, rfl⟩
  have HN := hideT hn
  have HLIM := hideT hlim
  have hnb : n ≤ 4398046510976 := by omega
  rw [← hn]
  have FX := hideT (fixed_any w)
  have NA := hideT (fun W => new_any k W)
  have NB := hideT (fun W => new_any m W)
  clear hl hn hlim
  go_enter Try.func3, Try.ntmps3
  go_wp2_with (first
    | (go_at_call 9; refine FX.out.mono ?_; rintro e W1 ⟨rfl, q1⟩)
    | (go_at_call 10; first
      | (have _u := W2; refine (NB.out _).mono ?_; rintro e W3 ⟨rfl, k3, q3⟩)
      | (refine (NA.out _).mono ?_; rintro e W2 ⟨rfl, k2, q2⟩)))
  obtain ⟨Z, hZ⟩ : ∃ Z, Z = (W3.alloc (.cells #[.slice none 0 0] 26)).alloc (.cells #[.slice none 0 0] 26) := ⟨_, rfl⟩
  have p0 := prel_start q1 k2 q2 k3 q3 hZ
  rw [← hZ]
  obtain ⟨pa, hpa⟩ : ∃ b, b = W1.heap.size := ⟨_, rfl⟩
  obtain ⟨pb, hpb⟩ : ∃ b, b = W2.heap.size := ⟨_, rfl⟩
  obtain ⟨qb, hqb⟩ : ∃ b, b = W3.heap.size + 1 := ⟨_, rfl⟩
  obtain ⟨qa, hqa⟩ : ∃ b, b = W3.heap.size := ⟨_, rfl⟩
  rw [← hqb, ← hpa, ← hpb, ← hqa] at p0
  rw [← hqb, ← hpa, ← hpb, ← hqa]
  have P0 := hideT p0
  clear p0 hqb hqa hpa hpb hZ q1 k2 q2 k3 q3
  go_loopw [28] (fun s28 wr => ∃ i : Nat, i ≤ n ∧ s28 = .int .i64 i ∧ Hid (PRel w pa qa pb qb k m i wr)) (fun s28 _ => n - (intOf s28).toNat)
  case atStart => exact ⟨0, by omega, by go_num, P0⟩
  case round =>
    obtain ⟨i, hi, rfl, HW⟩ := hrel
    by_cases hlt : i < n
    · have hil : i < L.length := by rw [← HN.out]; exact hlt
      have hii : (i : Int) < (n : Int) := by omega
      have kk := prel_kept HW.out
      obtain ⟨b, off, rfl, hc⟩ := (HL.out.kept kk (fun _ _ _ f => f)) (by intro e; rw [e] at hil; simp at hil)
      obtain ⟨z0, z1, z2, z3⟩ := hc i hil
      obtain ⟨y, hy⟩ : ∃ y, y = L[i] := ⟨_, rfl⟩
      rw [← hy] at z0 z1 z2 z3
      obtain ⟨yk, yw, yh⟩ := y
      simp only at z0 z1 z2 z3
      clear kk hc hy
      have A0 := hideT (prel_same HW.out (Kept.alloc wr (.cells #[.int .i64 yk, .int .i64 yw, .int .i64 yh.1, .int .u64 yh.2] 31)))
      have S1 := hideT (prel_one yk yw yh A0.out (by omega))
      have S2 := hideT (prel_two yk yw yh A0.out (by omega))
      unfold opA at S1 S2
      by_cases hp : (IntKind.u64.wrap yw).tmod 2 = 0
      · go_wp2_with (go_at_call 11; refine S1.out.mono ?_; rintro e W4 ⟨rfl, p4⟩)
        have P4 := hideT p4
        clear p4
        go_wp2
        go_round
        case rel => exact ⟨i + 1, by omega, by go_num, P4⟩
        case measure => simp [intOf]; omega
      · go_wp2_with (go_at_call 11; refine S2.out.mono ?_; rintro e W4 ⟨rfl, p4⟩)
        have P4 := hideT p4
        clear p4
        go_wp2
        go_round
        case rel => exact ⟨i + 1, by omega, by go_num, P4⟩
        case measure => simp [intOf]; omega
    · obtain rfl : i = n := by omega
      obtain ⟨v, K, ka, kc, v2, K2, kb, kd, d, l1, l2, kk, f1, f2⟩ := HW.out
      have HKK := hideT kk
      have HA := hideT d.one.ends2
      have HB := hideT d.two.ends2
      have EA := hideT (d.one.ends (by omega))
      have EB := hideT (d.two.ends (by omega))
      obtain ⟨na, hna⟩ : ∃ x, x = K.length := ⟨_, rfl⟩
      obtain ⟨nb, hnb2⟩ : ∃ x, x = K2.length := ⟨_, rfl⟩
      rw [← hna] at EA HA
      rw [← hnb2] at EB HB
      clear hna hnb2 l1 l2 kk f1 f2 d
      go_upto_region 17 with fail
      have S0 : Kept (fun _ => False) wr wr.drew := Kept.drew wr
      refine wp_region_held (S := fun W' => Kept (fun _ => False) wr W') (by kernel_rfl) ?_
      change wpAnyH _ _ _ _ _ _ _ _ (World.drew _)
      refine wpAnyH_take (i := 0) (v := .pointer (some ⟨pa, 0, none⟩)) rfl (by kernel_rfl) (by kernel_rfl) (by kernel_rfl) (fun _ _ _ h => h) (Or.inl ⟨by kernel_rfl, fun W' hW => ?_⟩) S0 ?_
      · go_simp
      refine wpAnyH_take (i := 2) (v := .slice ka na kc) rfl (by kernel_rfl) (by kernel_rfl) (by kernel_rfl) (fun _ _ _ h => h) (Or.inl ⟨by kernel_rfl, fun W' hW => ?_⟩) S0 ?_
      · have e := hW.cell HA.out (fun f => f)
        go_simp
      refine wpAnyH_all (rs := [1]) (by kernel_rfl) (by simp) ?_
      intro i hi
      obtain rfl : i = 1 := by simpa using hi
      have C1 := hideT (EA.out.1 _ S0)
      unfold wpOp
      go_simp
      first | refine C1.out.mono ?_ | refine Or.inl (C1.out.mono ?_)
      rintro e X1 ⟨a1, c1, rfl, r1, k1'⟩
      have k1 := S0.trans k1' (fun _ f => f.elim)
      first | (change wpAnyH _ _ _ _ _ _ _ _ _) | refine ⟨k1, ?_⟩ | refine Or.inl ⟨k1, ?_⟩
      refine wpAnyH_all (rs := [3]) (by kernel_rfl) (by simp) ?_
      intro i hi
      obtain rfl : i = 3 := by simpa using hi
      have C3 := hideT (EA.out.2.1 X1 a1 c1 k1 r1)
      unfold wpOp
      go_simp
      first | refine C3.out.mono ?_ | refine Or.inl (C3.out.mono ?_)
      rintro e X2 ⟨rfl, k2'⟩
      have k2 := k1.trans k2' (fun _ f => f.elim)
      first | (change wpAnyH _ _ _ _ _ _ _ _ _) | refine ⟨k2, ?_⟩ | refine Or.inl ⟨k2, ?_⟩
      refine wpAnyH_all (rs := [4]) (by kernel_rfl) (by simp) ?_
      intro i hi
      obtain rfl : i = 4 := by simpa using hi
      unfold wpOp
      go_simp
      first | (change wpAnyH _ _ _ _ _ _ _ _ _) | (refine Or.inl ?_; change wpAnyH _ _ _ _ _ _ _ _ _) | refine Or.inl ⟨k2, ?_⟩ | refine ⟨k2, ?_⟩
      refine wpAnyH_take (i := 5) (v := .pointer (some ⟨pb, 0, none⟩)) rfl (by kernel_rfl) (by kernel_rfl) (by kernel_rfl) (fun _ _ _ h => h) (Or.inl ⟨by kernel_rfl, fun W' hW => ?_⟩) k2 ?_
      · go_simp
      refine wpAnyH_take (i := 7) (v := .slice kb nb kd) rfl (by kernel_rfl) (by kernel_rfl) (by kernel_rfl) (fun _ _ _ h => h) (Or.inl ⟨by kernel_rfl, fun W' hW => ?_⟩) k2 ?_
      · have e := hW.cell HB.out (fun f => f)
        go_simp
      refine wpAnyH_all (rs := [6]) (by kernel_rfl) (by simp) ?_
      intro i hi
      obtain rfl : i = 6 := by simpa using hi
      have C6 := hideT (EB.out.1 _ k2)
      unfold wpOp
      go_simp
      first | refine C6.out.mono ?_ | refine Or.inl (C6.out.mono ?_)
      rintro e X3 ⟨a3, c3, rfl, r3, k3'⟩
      have k3 := k2.trans k3' (fun _ f => f.elim)
      first | (change wpAnyH _ _ _ _ _ _ _ _ _) | refine ⟨k3, ?_⟩ | refine Or.inl ⟨k3, ?_⟩
      refine wpAnyH_all (rs := [8]) (by kernel_rfl) (by simp) ?_
      intro i hi
      obtain rfl : i = 8 := by simpa using hi
      have C8 := hideT (EB.out.2.1 X3 a3 c3 k3 r3)
      unfold wpOp
      go_simp
      first | refine C8.out.mono ?_ | refine Or.inl (C8.out.mono ?_)
      rintro e X4 ⟨rfl, k4'⟩
      have k4 := k3.trans k4' (fun _ f => f.elim)
      first | (change wpAnyH _ _ _ _ _ _ _ _ _) | refine ⟨k4, ?_⟩ | refine Or.inl ⟨k4, ?_⟩
      refine wpAnyH_all (rs := [9]) (by kernel_rfl) (by simp) ?_
      intro i hi
      obtain rfl : i = 9 := by simpa using hi
      unfold wpOp
      go_simp
      first | (change wpAnyH _ _ _ _ _ _ _ _ _) | (refine Or.inl ?_; change wpAnyH _ _ _ _ _ _ _ _ _) | refine Or.inl ⟨k4, ?_⟩ | refine ⟨k4, ?_⟩
      refine wpAnyH_all (rs := [10]) (by kernel_rfl) (by simp) ?_
      intro i hi
      obtain rfl : i = 10 := by simpa using hi
      unfold wpOp
      go_simp
      first | (change wpAnyH _ _ _ _ _ _ _ _ _) | (refine Or.inl ?_; change wpAnyH _ _ _ _ _ _ _ _ _) | refine Or.inl ⟨k4, ?_⟩ | refine ⟨k4, ?_⟩
      refine wpAnyH_take (i := 11) (v := .pointer (some ⟨pa, 0, none⟩)) rfl (by kernel_rfl) (by kernel_rfl) (by kernel_rfl) (fun _ _ _ h => h) (Or.inl ⟨by kernel_rfl, fun W' hW => ?_⟩) k4 ?_
      · go_simp
      refine wpAnyH_take (i := 13) (v := .slice ka na kc) rfl (by kernel_rfl) (by kernel_rfl) (by kernel_rfl) (fun _ _ _ h => h) (Or.inl ⟨by kernel_rfl, fun W' hW => ?_⟩) k4 ?_
      · have e := hW.cell HA.out (fun f => f)
        go_simp
      refine wpAnyH_take (i := 14) (v := .int .i64 na) rfl (by kernel_rfl) (by kernel_rfl) (by kernel_rfl) (fun _ _ _ h => h) (Or.inl ⟨by kernel_rfl, fun W' hW => ?_⟩) k4 ?_
      · go_simp
      refine wpAnyH_all (rs := [12]) (by kernel_rfl) (by simp) ?_
      intro i hi
      obtain rfl : i = 12 := by simpa using hi
      have C12 := hideT (EA.out.2.2 _ k4)
      unfold wpOp
      go_simp
      first | refine C12.out.mono ?_ | refine Or.inl (C12.out.mono ?_)
      rintro e X5 ⟨rfl, rfl⟩
      first | (change wpAnyH _ _ _ _ _ _ _ _ _) | refine ⟨k4, ?_⟩ | refine Or.inl ⟨k4, ?_⟩
      refine wpAnyH_all (rs := [15]) (by kernel_rfl) (by simp) ?_
      intro i hi
      obtain rfl : i = 15 := by simpa using hi
      unfold wpOp
      go_simp
      first | (change wpAnyH _ _ _ _ _ _ _ _ _) | (refine Or.inl ?_; change wpAnyH _ _ _ _ _ _ _ _ _) | refine Or.inl ⟨k4, ?_⟩ | refine ⟨k4, ?_⟩
      refine wpAnyH_all (rs := [16]) (by kernel_rfl) (by simp) ?_
      intro i hi
      obtain rfl : i = 16 := by simpa using hi
      unfold wpOp
      go_simp
      first | (change wpAnyH _ _ _ _ _ _ _ _ _) | (refine Or.inl ?_; change wpAnyH _ _ _ _ _ _ _ _ _) | refine Or.inl ⟨k4, ?_⟩ | refine ⟨k4, ?_⟩
      refine wpAnyH_all (rs := [17]) (by kernel_rfl) (by simp) ?_
      intro i hi
      obtain rfl : i = 17 := by simpa using hi
      unfold wpOp
      go_simp
      first | (change wpAnyH _ _ _ _ _ _ _ _ _) | (refine Or.inl ?_; change wpAnyH _ _ _ _ _ _ _ _ _) | refine Or.inl ⟨k4, ?_⟩ | refine ⟨k4, ?_⟩
      refine wpAnyH_take (i := 18) (v := .pointer (some ⟨pb, 0, none⟩)) rfl (by kernel_rfl) (by kernel_rfl) (by kernel_rfl) (fun _ _ _ h => h) (Or.inl ⟨by kernel_rfl, fun W' hW => ?_⟩) k4 ?_
      · go_simp
      refine wpAnyH_take (i := 20) (v := .slice kb nb kd) rfl (by kernel_rfl) (by kernel_rfl) (by kernel_rfl) (fun _ _ _ h => h) (Or.inl ⟨by kernel_rfl, fun W' hW => ?_⟩) k4 ?_
      · have e := hW.cell HB.out (fun f => f)
        go_simp
      refine wpAnyH_take (i := 21) (v := .int .i64 nb) rfl (by kernel_rfl) (by kernel_rfl) (by kernel_rfl) (fun _ _ _ h => h) (Or.inl ⟨by kernel_rfl, fun W' hW => ?_⟩) k4 ?_
      · go_simp
      refine wpAnyH_all (rs := [19]) (by kernel_rfl) (by simp) ?_
      intro i hi
      obtain rfl : i = 19 := by simpa using hi
      have C19 := hideT (EB.out.2.2 _ k4)
      unfold wpOp
      go_simp
      first | refine C19.out.mono ?_ | refine Or.inl (C19.out.mono ?_)
      rintro e X6 ⟨rfl, rfl⟩
      first | (change wpAnyH _ _ _ _ _ _ _ _ _) | refine ⟨k4, ?_⟩ | refine Or.inl ⟨k4, ?_⟩
      refine wpAnyH_all (rs := [22]) (by kernel_rfl) (by simp) ?_
      intro i hi
      obtain rfl : i = 22 := by simpa using hi
      unfold wpOp
      go_simp
      first | (change wpAnyH _ _ _ _ _ _ _ _ _) | (refine Or.inl ?_; change wpAnyH _ _ _ _ _ _ _ _ _) | refine Or.inl ⟨k4, ?_⟩ | refine ⟨k4, ?_⟩
      refine wpAnyH_all (rs := [23]) (by kernel_rfl) (by simp) ?_
      intro i hi
      obtain rfl : i = 23 := by simpa using hi
      unfold wpOp
      go_simp
      first | (change wpAnyH _ _ _ _ _ _ _ _ _) | (refine Or.inl ?_; change wpAnyH _ _ _ _ _ _ _ _ _) | refine Or.inl ⟨k4, ?_⟩ | refine ⟨k4, ?_⟩
      refine wpAnyH_all (rs := [24]) (by kernel_rfl) (by simp) ?_
      intro i hi
      obtain rfl : i = 24 := by simpa using hi
      unfold wpOp
      go_simp
      first | (change wpAnyH _ _ _ _ _ _ _ _ _) | (refine Or.inl ?_; change wpAnyH _ _ _ _ _ _ _ _ _) | refine Or.inl ⟨k4, ?_⟩ | refine ⟨k4, ?_⟩
      refine wpAnyH_done (by kernel_rfl) ?_ _
      have HF := hideT (HKK.out.trans k4 (fun _ f => f.elim))
      clear k4 k3 k2 k1 S0 r1 r3
      go_wp2
      go_ret
      exact ⟨by simp, HF.out⟩
end Go.Proofs.Ytkgcafomlhfonaa.Tk
