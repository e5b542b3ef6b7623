import Derived.Test.YtmpneljkpcniiaaDoorRdO
namespace Go.Proofs.YtmpneljkpcniiaaDoor
open Go.ChangeShapes Go.WideShapes Go.ChangeAt Go.RowKit

set_option maxRecDepth 20000 in
set_option maxHeartbeats 4000000 in
theorem rpak_any (br : Nat) (v : Value) (l : List Int) (p n k : Nat) (most : Int) (a0 a1 a2 a3 : Addr) (w : World) (h : Rd w br v l p) (hr : rdu 0 0 (l.drop p) = .ok (n, k)) (hm : (n : Int) ≤ most) (hm2 : most ≤ 9223372036854775807) (hsm : l.length ≤ 1099511627776)
    (g0 : w.cell? ⟨3, 0, none⟩ = some (errV a0)) (g1 : w.cell? ⟨4, 0, none⟩ = some (errV a1)) (g2 : w.cell? ⟨2, 0, none⟩ = some (errV a2)) (g3 : w.cell? ⟨1, 0, none⟩ = some (errV a3)) :
    Calls Tryd.prog 13 #[.pointer (some ⟨br, 0, none⟩), .int .i64 most] w fun e w' => PakPost br v l p (p + k) a0 a2 a3 w e w' (rdp n (l.drop (p + k))) := by
  have hc := h.cell1
  have hc0 := h.cell0
  have hf := h.free1
  have HH := hide h
  have hk := rdu_le _ _ _ _ _ hr
  rw [List.length_drop] at hk
  have hp := h.le
  obtain ⟨a, c, hv, hb, _⟩ := bytes_of_own h.own
  obtain ⟨g, rfl⟩ := h.frm
  simp only [Value.slice.injEq, true_and] at hv
  obtain ⟨rfl, rfl⟩ := hv
  have c1 : ∀ n', Calls Tryd.prog 30 #[.slice (some ⟨g, 0, none⟩) l.length l.length, .int .i64 p, .int .i64 most] (w.drewN n') fun e w' => e = .returned (.tuple #[.int .i64 n, .int .i64 ((p + k : Nat) : Int), .nilIface]) ∧ ∃ m, w' = w.drewN m := by
    intro n'
    refine (upat_ok l _ l.length p n k most a0 a1 (w.drewN n') hb h.isb h.le (by omega) g0 g1 hr hm hm2).mono ?_
    rintro e w' ⟨rfl, m, rfl⟩
    exact ⟨by simp, n' + m, by rw [World.drewN_drewN]⟩
  obtain ⟨q, hq0⟩ : ∃ q, q = p + k := ⟨_, rfl⟩
  rw [← hq0] at c1 ⊢
  have hq1 : q ≤ l.length := by omega
  have C1 := hide c1
  have HB := hide h.isb
  have HBA := hide hb
  clear h hb g1 hr c1 hk hq0 hp
  by_cases hn0 : n = 0
  · subst hn0
    have hres : Hid (rdp 0 (l.drop q) = .ok ([], 0)) := by show rdp 0 (l.drop q) = _; unfold rdp; rw [if_pos rfl]
    go_enter Tryd.func13, Tryd.ntmps13
    go_wp2_with fail
    go_quiet ((exact C1.out _))
    go_wp2
    go_ret2
    rw [hres.out]
    exact ⟨_, rfl, World.ownsRow_nil _ _ _ _, (HH.out.drewN nq).move hq1, RKept nq _⟩
  · have hnp : 0 < n := by omega
    by_cases hql : l.length ≤ q
    · have hqe : q = l.length := by omega
      have hres : Hid (rdp n (l.drop q) = .error 0) := by show rdp n (l.drop q) = _; unfold rdp; rw [if_neg hn0, List.drop_eq_nil_of_le hql]
      clear hn0
      have hqi : (q : Int) = l.length := by omega
      subst hqe
      clear hqi hql
      go_enter Tryd.func13, Tryd.ntmps13
      go_wp2_with fail
      go_quiet ((exact C1.out _))
      go_wp2
      go_quiet (fail)
      go_wp2
      go_ret2
      rw [hres.out]
      first
        | exact ⟨rfl, HH.out.drewN _, Kept.drewN _ _⟩
        | exact ⟨rfl, (HH.out.drewN _).drewN _, (Kept.drewN _ _).trans (Kept.drewN _ _) (fun _ f => f.elim)⟩
    · have hqlt : q < l.length := by omega
      obtain ⟨cc, e1, e2, e3⟩ := HB.out.at hqlt
      have hcl : w.cell? ⟨g, q, none⟩ = some (.int .u8 (cc : Int)) := by
        obtain ⟨b, off, e, hcc⟩ := HBA.out.get hqlt
        cases e
        rwa [Nat.zero_add, e1] at hcc
      have hdrop : l.drop q = (cc : Int) :: l.drop (q + 1) := by rw [List.drop_eq_getElem_cons hqlt, e3]
      have hrdp : rdp n (l.drop q) = if 63 < cc ∨ cc = 0 ∧ 65536 < n then .error 2
          else if (l.drop (q + 1)).length < (n * cc + 7) / 8 then .error 0
          else if tightB ((l.drop (q + 1)).take ((n * cc + 7) / 8)) (unp (vle ((l.drop (q + 1)).take ((n * cc + 7) / 8))) cc n) cc = true then .ok (unp (vle ((l.drop (q + 1)).take ((n * cc + 7) / 8))) cc n, 1 + (n * cc + 7) / 8)
          else .error 3 := by
        rw [hdrop]
        unfold rdp
        rw [if_neg hn0]
        simp only [Int.toNat_natCast]
      have HRD := hide hrdp
      have HHD := hide hdrop
      clear hrdp hdrop e1 e3 hn0 hql
      have fin2 : ∀ (a b : Nat), PakPost br (.slice (some ⟨g, 0, none⟩) l.length l.length) l p q a0 a2 a3 w (.returned (.tuple #[.slice none 0 0, errV a2])) ((w.drewN a).drewN b) (.error 2) := fun a b => ⟨rfl, (HH.out.drewN _).drewN _, (Kept.drewN _ _).trans (Kept.drewN _ _) (fun _ f => f.elim)⟩
      have fin0 : ∀ (a b : Nat), PakPost br (.slice (some ⟨g, 0, none⟩) l.length l.length) l p q a0 a2 a3 w (.returned (.tuple #[.slice none 0 0, errV a0])) ((w.drewN a).drewN b) (.error 0) := fun a b => ⟨rfl, (HH.out.drewN _).drewN _, (Kept.drewN _ _).trans (Kept.drewN _ _) (fun _ f => f.elim)⟩
      have F2 := hide fin2
      have F0 := hide fin0
      clear fin2 fin0
      by_cases h63 : 63 < cc
      · have hres : Hid (rdp n (l.drop q) = .error 2) := by show rdp n (l.drop q) = _; rw [HRD.out, if_pos (.inl h63)]
        clear HRD
        go_enter Tryd.func13, Tryd.ntmps13
        go_wp2_with fail
        go_quiet ((exact C1.out _))
        go_wp2
        go_quiet (fail)
        go_wp2
        go_ret2
        rw [hres.out]
        first
          | exact F2.out _ _
          | (rw [← World.drewN_drewN]; exact F2.out _ _)
      · by_cases hz : cc = 0 ∧ 65536 < n
        · have hres : Hid (rdp n (l.drop q) = .error 2) := by show rdp n (l.drop q) = _; rw [HRD.out, if_pos (.inr hz)]
          clear HRD
          have hcz : cc < 1 := by omega
          have hnb : 65536 < n := hz.2
          clear hz
          go_enter Tryd.func13, Tryd.ntmps13
          go_wp2_with fail
          go_quiet ((exact C1.out _))
          go_wp2
          go_quiet (fail)
          go_wp2
          go_ret2
          rw [hres.out]
          first
            | exact F2.out _ _
            | (rw [← World.drewN_drewN]; exact F2.out _ _)
        · have hnb9 : (n : Int) ≤ 9223372036854775807 := by omega
          have hres : rdp n (l.drop q) = if (l.drop (q + 1)).length < (n * cc + 7) / 8 then .error 0 else pakRes ((l.drop (q + 1)).take ((n * cc + 7) / 8)) (unp (vle ((l.drop (q + 1)).take ((n * cc + 7) / 8))) cc n) cc ((n * cc + 7) / 8) := by
            rw [HRD.out, if_neg (by omega)]
            rfl
          rw [List.length_drop] at hres
          by_cases hcz : cc = 0
          · have e0 : (n * cc + 7) / 8 = 0 := by rw [hcz]; simp
            rw [hres, if_neg (by omega)]
            exact rpak_zero br g l p q n cc most a0 a2 a3 w HH.out hsm C1 hqlt hnp hcl (by omega) ⟨hcz, by omega⟩ _ rfl (by omega) _ _ rfl rfl g3
          · by_cases hD : (((l.length : Int) - ((q : Int) + 1)) * 8) / cc < (n : Int)
            · have hlt : l.length - (q + 1) < (n * cc + 7) / 8 := by
                have h1 := Int.lt_mul_of_ediv_lt (by omega) hD
                have h2 : (n : Int) * cc = ((n * cc : Nat) : Int) := by push_cast; rfl
                rw [h2] at h1
                omega
              rw [hres, if_pos hlt]
              exact rpak_short br g l p q n cc most a0 a2 a3 w HH.out hsm C1 hqlt hnp hcl (by omega) (by omega) hD g0
            · have hle : n * cc ≤ (l.length - (q + 1)) * 8 := by
                have h1 := Int.mul_le_of_le_ediv (by omega) (Int.not_lt.1 hD)
                have h2 : (n : Int) * cc = ((n * cc : Nat) : Int) := by push_cast; rfl
                rw [h2] at h1
                omega
              rw [hres, if_neg (by omega)]
              exact rpak_pos br g l p q n cc most a0 a2 a3 w HH.out hsm C1 hqlt hnp hcl (by omega) ⟨by omega, Int.not_lt.1 hD⟩ _ rfl (by omega) _ _ rfl rfl g3
end Go.Proofs.YtmpneljkpcniiaaDoor
