import Derived.Test.YtiemiphlfbaojaaDoorLxc
namespace Go.Proofs.YtiemiphlfbaojaaDoor
open Go.ChangeShapes Go.WideShapes Go.ChangeAt Go.RowKit

theorem make0I (w : World) (n : Nat) (C : Int) (hC : C = (n : Int)) (hn : n ≤ 1099511627776) : ∃ W1 : World, ((Instr.makeSlice 96 (.int .i64 0) (.int .i64 C)).run Tryd.prog w = .ok (.slice (some ⟨w.heap.size, 0, none⟩) 0 n) W1) ∧ Gb w W1 (some ⟨w.heap.size, 0, none⟩) n 0 [] := by
  subst hC
  exact make0B w n hn
theorem qe_yes (c : UInt8) (h : c = 34 ∨ c = 92) : qe c = [92, c] := by unfold qe; rcases h with rfl | rfl <;> rfl
theorem qe_no (c : UInt8) (h : c ≠ 34) (h2 : c ≠ 92) : qe c = [c] := by unfold qe; simp [h, h2]
theorem u8_eqL (c d : UInt8) (h : c = d) : ((c.toNat : Int) == (d.toNat : Int)) = true := by subst h; simp
/-- The kind of a run. -/
def kdF (l : List UInt8) : Nat := if rsv l ≠ 1 then rsv l else if (sgn l).any isW then 2 else 1
theorem any_wild (c : UInt8) (r : List UInt8) (h : wdB c = true) : (sgn (c :: r)).any isW = true := by
  rw [sgn_oth c r (by intro e; subst e; simp [wdB] at h)]
  simp [isW, h]
theorem any_oth (c : UInt8) (r : List UInt8) (h : wdB c = false) (h2 : c ≠ 92) : (sgn (c :: r)).any isW = (sgn r).any isW := by
  rw [sgn_oth c r h2]
  simp [isW, h]
theorem any_esc (r : List UInt8) : (sgn (92 :: r)).any isW = (sgn (r.drop 1)).any isW := by
  cases r with
  | nil => decide
  | cons d r => rw [sgn_esc]; simp [isW]
theorem cl_cases (c : UInt8) : (cl c = 103 ∧ wdB c = true) ∨ (cl c = 104 ∧ c = 92) ∨ (cl c ≠ 103 ∧ cl c ≠ 104 ∧ wdB c = false ∧ c ≠ 92) := by
  have h1 := cl_wild c
  have h2 := cl_esc c
  by_cases a : cl c = 103
  · exact .inl ⟨a, by rw [← h1, a]; rfl⟩
  · by_cases b : cl c = 104
    · refine .inr (.inl ⟨b, ?_⟩)
      rw [b] at h2
      simpa using h2.symm
    · refine .inr (.inr ⟨a, b, ?_, ?_⟩)
      · rw [← h1]; simpa using a
      · intro e
        rw [e] at h2
        simp at h2
        exact b (by rw [e]; exact h2)
set_option maxRecDepth 20000 in
set_option maxHeartbeats 4000000 in
theorem kindOf_any (l : List UInt8) (w : World) (hC : ClsAt w) (hl : l.length ≤ 400000000000) :
    Calls Tryd.prog 69 #[.string (bq l)] w fun e w' => e = .returned (.int .i64 (kdF l : Nat)) ∧ w' = w := by
  have CR := hideL (reserved_any l w)
  have hr7 := rsv_is l
  unfold kdF
  by_cases hr : rsv l = 1
  · rw [if_neg (by omega)]
    rw [hr] at CR
    obtain ⟨Z, hZ⟩ : ∃ Z, Z = (sgn l).any isW := ⟨_, rfl⟩
    rw [← hZ]
    have HZ : Hid (Z = (sgn (l.drop 0)).any isW) := hideL (by rw [hZ, List.drop_zero])
    obtain ⟨s, hs⟩ : ∃ s, s = bq l := ⟨_, rfl⟩
    have hz : s.size = l.length := by rw [hs]; exact bq_size l
    have HX : Hid (∀ k (h : k < l.length) (h2 : k < s.size), s[k] = l[k]) := hideL (fun k h h2 => by subst hs; rfl)
    rw [← hs] at CR ⊢
    obtain ⟨n, hn⟩ : ∃ n, n = s.size := ⟨_, rfl⟩
    have HLn : Hid (n = l.length) := hideL (by omega)
    have hnb : n ≤ 400000000000 := by omega
    have CC := hideL (fun c => classOf_any c w hC)
    clear hs hC hr hr7 hl hz hZ
    go_enter Tryd.func69, Tryd.ntmps69
    go_wp2_with (go_at_call 79; refine CR.out.mono ?_; clear CR; rintro e w5 ⟨rfl, e5⟩; subst e5)
    go_loopw [4] (fun i wr => ∃ (k : Nat), k ≤ n + 1 ∧ i = .int .i64 k ∧ Hid (Z = (sgn (l.drop k)).any isW) ∧ Hid (wr = w5)) (fun i _ => n + 1 - (intOf i).toNat)
    case atStart => exact ⟨0, by omega, rfl, HZ, hideL rfl⟩
    case round =>
      obtain ⟨k, hk, rfl, HD, HW⟩ := hrel
      have HW := HW.out
      subst HW
      clear HZ
      by_cases hlt : k < n
      · have hkl : k < l.length := by rw [← HLn.out]; exact hlt
        have hks : k < s.size := by rw [← hn]; exact hlt
        have hkz : (k : Int) < (n : Int) := by omega
        have c0' := HX.out k hkl hks
        have HD2 := HD.out
        rw [List.drop_eq_getElem_cons hkl] at HD2
        obtain ⟨x, hx⟩ : ∃ x, x = l[k] := ⟨_, rfl⟩
        rw [← hx] at HD2 c0'
        have C1 := hideL (CC.out x)
        obtain ⟨q, hq⟩ : ∃ q, q = x.toNat := ⟨_, rfl⟩
        have hqb : q < 256 := by rw [hq]; exact x.toNat_lt
        have y0 : s[k].toNat = q := by rw [c0', hq]
        rw [← hq] at C1
        clear c0' hx hq CC HD
        rcases cl_cases x with ⟨e, e2⟩ | ⟨e, e2⟩ | ⟨e, e1, e2, e3⟩
        · rw [e] at C1
          obtain rfl : Z = true := by rw [HD2]; exact any_wild x _ e2
          clear HD2 e e2
          go_wp2_with (go_at_call 68; refine C1.out.mono ?_; clear C1; rintro e w6 ⟨rfl, e6⟩; subst e6)
          go_ret
          exact ⟨rfl, rfl⟩
        · rw [e] at C1
          subst e2
          have HQ : Hid (Z = (sgn (l.drop (k + 1 + 1))).any isW) := hideL (by rw [HD2, any_esc, List.drop_drop])
          clear HD2 e
          go_wp2_with (go_at_call 68; refine C1.out.mono ?_; clear C1; rintro e w6 ⟨rfl, e6⟩; subst e6)
          go_roundw
          case rel => exact ⟨k + 1 + 1, by omega, by go_num, HQ, by first | exact hideL rfl | exact hideL trivial⟩
          case measure => simp [intOf]; omega
        · have HQ : Hid (Z = (sgn (l.drop (k + 1))).any isW) := hideL (by rw [HD2, any_oth x _ e2 e3])
          generalize cl x = r at *
          have q1 : ((r : Int) == 103) = false := by simp; omega
          have q2 : ((r : Int) == 104) = false := by simp; omega
          clear HD2 e e1 e2 e3
          go_wp2_with (go_at_call 68; refine C1.out.mono ?_; clear C1; rintro e w6 ⟨rfl, e6⟩; subst e6)
          go_roundw
          case rel => exact ⟨k + 1, by omega, by go_num, HQ, by first | exact hideL rfl | exact hideL trivial⟩
          case measure => simp [intOf]; omega
      · obtain rfl : Z = false := by rw [HD.out, List.drop_of_length_le (by have := HLn.out; omega)]; rfl
        have hkz : ¬ (k : Int) < (n : Int) := by omega
        clear CC HD
        go_wp2
        go_ret
        exact ⟨rfl, rfl⟩
  · rw [if_pos hr]
    generalize bq l = s at *
    generalize rsv l = r at *
    have q1 : ((r : Int) != 1) = true := by simp; omega
    clear hC
    go_enter Tryd.func69, Tryd.ntmps69
    go_wp2_with (go_at_call 79; refine CR.out.mono ?_; clear CR; rintro e w5 ⟨rfl, e5⟩; subst e5)
    go_ret
    exact ⟨rfl, rfl⟩
end Go.Proofs.YtiemiphlfbaojaaDoor
