import Derived.Test.YtiemiphlfbaojaaDoorLya
namespace Go.Proofs.YtiemiphlfbaojaaDoor
open Go.ChangeShapes Go.WideShapes Go.ChangeAt Go.RowKit

set_option maxRecDepth 20000 in
set_option maxHeartbeats 4000000 in
theorem literal_any (l : List UInt8) (w : World) (hC : ClsAt w) (hl : l.length ≤ 400000000000) (hE : (sgn l).any isE = false) :
    Calls Tryd.prog 52 #[.string (bq l)] w fun e w' => e = .returned (.string (bq (litF l))) ∧ Kept (fun _ => False) w w' := by
  obtain ⟨Z, hZ⟩ : ∃ Z, Z = litF l := ⟨_, rfl⟩
  rw [← hZ]
  have HZ : Hid (Z = [] ++ litF (l.drop 0)) := hideL (by rw [hZ, List.drop_zero]; rfl)
  have HE0 : Hid ((sgn (l.drop 0)).any isE = false) := hideL (by rw [List.drop_zero]; exact hE)
  obtain ⟨s, hs⟩ : ∃ s, s = bq l := ⟨_, rfl⟩
  have hz : s.size = l.length := by rw [hs]; exact bq_size l
  obtain ⟨W1, hm, hg⟩ := make0I w l.length (s.size : Int) (by omega) (by omega)
  have HG := hideL hg
  have HX : Hid (∀ k (h : k < l.length) (h2 : k < s.size), s[k] = l[k]) := hideL (fun k h h2 => by subst hs; rfl)
  rw [← hs]
  obtain ⟨g, hg0⟩ : ∃ g, g = w.heap.size := ⟨_, rfl⟩
  rw [← hg0] at hm HG
  have HC := hideL hC
  obtain ⟨n, hn⟩ : ∃ n, n = s.size := ⟨_, rfl⟩
  have HLn : Hid (n = l.length) := hideL (by omega)
  have hnb : n ≤ 400000000000 := by omega
  obtain ⟨cp, hcp⟩ : ∃ cp, cp = l.length := ⟨_, rfl⟩
  rw [← hcp] at hm HG
  clear hs hg hg0 hC hl hz hcp hZ hE
  go_enter Tryd.func52, Tryd.ntmps52
  go_wp2
  go_loopw [3, 4] (fun v i wr => ∃ (k m : Nat) (a : Option Addr) (c : Nat) (o : List UInt8), k ≤ n ∧ m ≤ 2 * k ∧ i = .int .i64 k ∧ v = .slice a m c ∧ Hid (Gb w wr a c m o) ∧ Hid (Z = o ++ litF (l.drop k)) ∧ Hid ((sgn (l.drop k)).any isE = false)) (fun _ i _ => n - (intOf i).toNat)
  case atStart => exact ⟨0, 0, _, _, [], by omega, by omega, rfl, rfl, HG, HZ, HE0⟩
  case round =>
    obtain ⟨k, m, a, c0, o, hk, hmk, rfl, rfl, HR, HD, HE⟩ := hrel
    clear HG hm HZ HE0
    have HCr := hideL (HC.out.later HR.out.gro.kept)
    by_cases hlt : k < n
    · have hkl : k < l.length := by rw [← HLn.out]; exact hlt
      have hks : k < s.size := by rw [← hn]; exact hlt
      have hkz : (k : Int) < (n : Int) := by omega
      have c0' := HX.out k hkl hks
      have HD2 := HD.out
      have HE2 := HE.out
      rw [List.drop_eq_getElem_cons hkl] at HD2 HE2
      obtain ⟨x, hx⟩ : ∃ x, x = l[k] := ⟨_, rfl⟩
      rw [← hx] at HD2 c0' HE2
      have C1 := hideL (classOf_any x wr HCr.out)
      obtain ⟨q, hq⟩ : ∃ q, q = x.toNat := ⟨_, rfl⟩
      have hqb : q < 256 := by rw [hq]; exact x.toNat_lt
      have y0 : s[k].toNat = q := by rw [c0', hq]
      have HQ0 : Hid ((q : Int) = (x.toNat : Int)) := hideL (by rw [hq])
      have H92 : Hid ((92 : Int) = ((92 : UInt8).toNat : Int)) := hideL rfl
      rw [← hq] at C1
      clear c0' hx HD HE hq
      by_cases e92 : x = 92
      · subst e92
        have C2 : Hid (Calls Tryd.prog 68 #[.int .u8 (q : Int)] wr fun e w' => e = .returned (.int .i64 (104 : Nat)) ∧ w' = wr) := C1
        clear C1
        by_cases hB : k + 1 < n
        · have hkl2 : k + 1 < l.length := by rw [← HLn.out]; exact hB
          have hks2 : k + 1 < s.size := by rw [← hn]; exact hB
          have hkz2 : (k : Int) + 1 < (n : Int) := by omega
          have d0' := HX.out (k + 1) hkl2 hks2
          rw [List.drop_eq_getElem_cons hkl2] at HD2 HE2
          obtain ⟨d, hd⟩ : ∃ d, d = l[k + 1] := ⟨_, rfl⟩
          rw [← hd] at HD2 d0' HE2
          have HEn : Hid ((sgn (l.drop (k + 1 + 1))).any isE = false) := hideL (by rw [sgn_esc] at HE2; simpa [isE] using HE2)
          obtain ⟨q2, hq2⟩ : ∃ q2, q2 = d.toNat := ⟨_, rfl⟩
          have hqb2 : q2 < 256 := by rw [hq2]; exact d.toNat_lt
          have y1 : s[k + 1].toNat = q2 := by rw [d0', hq2]
          have HQ1 : Hid ((q2 : Int) = (d.toNat : Int)) := hideL (by rw [hq2])
          have D1 := hideL (classOf_any d wr HCr.out)
          rw [← hq2] at D1
          have HQ : Hid (Z = (o ++ [d]) ++ litF (l.drop (k + 1 + 1))) := hideL (by rw [HD2, litF, sgn_esc, List.append_assoc]; rfl)
          clear HD2 HE2 hd hq2 d0' HQ0 HX D1
          go_wp2_with (first
            | (go_at_call 68; refine C2.out.mono ?_; clear C2; rintro e w6 ⟨rfl, e6⟩; subst e6)
            | (at_builtin; refine wpList_pushG rfl _ _ rfl _ _ m _ d _ rfl HR _ (by first | rfl | simp) rfl HQ1 (by omega) ?_; clear HR; intro a4 c4 W4 G4))
          go_roundw
          case rel => exact ⟨k + 1 + 1, m + 1, a4, c4, _, by omega, by omega, by go_num, rfl, G4, HQ, HEn⟩
          case measure => simp [intOf] <;> omega
        · exfalso
          rw [List.drop_of_length_le (by have := HLn.out; omega), sgn_one] at HE2
          simp [isE] at HE2
      · have hcl : cl x ≠ 104 := by
          intro h
          have := cl_esc x
          rw [h] at this
          exact e92 (eq_of_beq this.symm)
        have HQ : Hid (Z = (o ++ [x]) ++ litF (l.drop (k + 1))) := hideL (by rw [HD2, litF, sgn_oth x _ e92, List.append_assoc]; rfl)
        have HEn : Hid ((sgn (l.drop (k + 1))).any isE = false) := hideL (by rw [sgn_oth x _ e92] at HE2; simp [isE] at HE2 ⊢; exact HE2.2)
        generalize cl x = r at *
        have q1 : ((r : Int) == 104) = false := by simp; omega
        clear HD2 HE2 e92 hcl HX
        go_wp2_with (first
          | (go_at_call 68; refine C1.out.mono ?_; clear C1; rintro e w6 ⟨rfl, e6⟩; subst e6)
          | (at_builtin; refine wpList_pushG rfl _ _ rfl _ _ m _ x _ rfl HR _ (by first | rfl | simp) rfl HQ0 (by omega) ?_; clear HR; intro a4 c4 W4 G4))
        go_roundw
        case rel => exact ⟨k + 1, m + 1, a4, c4, _, by omega, by omega, by go_num, rfl, G4, HQ, HEn⟩
        case measure => simp [intOf] <;> omega
    · obtain rfl : k = n := by omega
      have hZ : Z = o := by rw [HD.out, List.drop_of_length_le (by have := HLn.out; omega)]; exact List.append_nil _
      subst hZ
      have hb := gro_string HR.out.gro HR.out.len
      have HK := hideL HR.out.gro.kept
      have hb2 : (convert 96 9 (.slice a m c0)).run Tryd.prog wr = .ok (.string (bq Z)) wr := hb
      clear hb HR
      go_wp2
      go_ret
      exact ⟨rfl, HK.out⟩
set_option maxRecDepth 20000 in
set_option maxHeartbeats 4000000 in
theorem canonical_any (l : List UInt8) (w : World) (hC : ClsAt w) (hl : l.length ≤ 400000000000) (hE : (sgn l).any isE = false) :
    Calls Tryd.prog 70 #[.string (bq l)] w fun e w' => e = .returned (.string (bq (cnF l))) ∧ Kept (fun _ => False) w w' := by
  obtain ⟨Z, hZ⟩ : ∃ Z, Z = cnF l := ⟨_, rfl⟩
  rw [← hZ]
  have HZ : Hid (Z = [] ++ cnF (l.drop 0)) := hideL (by rw [hZ, List.drop_zero]; rfl)
  have HE0 : Hid ((sgn (l.drop 0)).any isE = false) := hideL (by rw [List.drop_zero]; exact hE)
  obtain ⟨s, hs⟩ : ∃ s, s = bq l := ⟨_, rfl⟩
  have hz : s.size = l.length := by rw [hs]; exact bq_size l
  obtain ⟨W1, hm, hg⟩ := make0I w l.length (s.size : Int) (by omega) (by omega)
  have HG := hideL hg
  have HX : Hid (∀ k (h : k < l.length) (h2 : k < s.size), s[k] = l[k]) := hideL (fun k h h2 => by subst hs; rfl)
  rw [← hs]
  obtain ⟨g, hg0⟩ : ∃ g, g = w.heap.size := ⟨_, rfl⟩
  rw [← hg0] at hm HG
  have HC := hideL hC
  obtain ⟨n, hn⟩ : ∃ n, n = s.size := ⟨_, rfl⟩
  have HLn : Hid (n = l.length) := hideL (by omega)
  have hnb : n ≤ 400000000000 := by omega
  obtain ⟨cp, hcp⟩ : ∃ cp, cp = l.length := ⟨_, rfl⟩
  rw [← hcp] at hm HG
  clear hs hg hg0 hC hl hz hcp hZ hE
  go_enter Tryd.func70, Tryd.ntmps70
  go_wp2
  go_loopw [3, 4] (fun v i wr => ∃ (k m : Nat) (a : Option Addr) (c : Nat) (o : List UInt8), k ≤ n ∧ m ≤ 2 * k ∧ i = .int .i64 k ∧ v = .slice a m c ∧ Hid (Gb w wr a c m o) ∧ Hid (Z = o ++ cnF (l.drop k)) ∧ Hid ((sgn (l.drop k)).any isE = false)) (fun _ i _ => n - (intOf i).toNat)
  case atStart => exact ⟨0, 0, _, _, [], by omega, by omega, rfl, rfl, HG, HZ, HE0⟩
  case round =>
    obtain ⟨k, m, a, c0, o, hk, hmk, rfl, rfl, HR, HD, HE⟩ := hrel
    clear HG hm HZ HE0
    have HCr := hideL (HC.out.later HR.out.gro.kept)
    by_cases hlt : k < n
    · have hkl : k < l.length := by rw [← HLn.out]; exact hlt
      have hks : k < s.size := by rw [← hn]; exact hlt
      have hkz : (k : Int) < (n : Int) := by omega
      have c0' := HX.out k hkl hks
      have HD2 := HD.out
      have HE2 := HE.out
      rw [List.drop_eq_getElem_cons hkl] at HD2 HE2
      obtain ⟨x, hx⟩ : ∃ x, x = l[k] := ⟨_, rfl⟩
      rw [← hx] at HD2 c0' HE2
      have C1 := hideL (classOf_any x wr HCr.out)
      obtain ⟨q, hq⟩ : ∃ q, q = x.toNat := ⟨_, rfl⟩
      have hqb : q < 256 := by rw [hq]; exact x.toNat_lt
      have y0 : s[k].toNat = q := by rw [c0', hq]
      have HQ0 : Hid ((q : Int) = (x.toNat : Int)) := hideL (by rw [hq])
      have H92 : Hid ((92 : Int) = ((92 : UInt8).toNat : Int)) := hideL rfl
      rw [← hq] at C1
      clear c0' hx HD HE hq
      by_cases e92 : x = 92
      · subst e92
        have C2 : Hid (Calls Tryd.prog 68 #[.int .u8 (q : Int)] wr fun e w' => e = .returned (.int .i64 (104 : Nat)) ∧ w' = wr) := C1
        clear C1
        by_cases hB : k + 1 < n
        · have hkl2 : k + 1 < l.length := by rw [← HLn.out]; exact hB
          have hks2 : k + 1 < s.size := by rw [← hn]; exact hB
          have hkz2 : (k : Int) + 1 < (n : Int) := by omega
          have d0' := HX.out (k + 1) hkl2 hks2
          rw [List.drop_eq_getElem_cons hkl2] at HD2 HE2
          obtain ⟨d, hd⟩ : ∃ d, d = l[k + 1] := ⟨_, rfl⟩
          rw [← hd] at HD2 d0' HE2
          have HEn : Hid ((sgn (l.drop (k + 1 + 1))).any isE = false) := hideL (by rw [sgn_esc] at HE2; simpa [isE] using HE2)
          obtain ⟨q2, hq2⟩ : ∃ q2, q2 = d.toNat := ⟨_, rfl⟩
          have hqb2 : q2 < 256 := by rw [hq2]; exact d.toNat_lt
          have y1 : s[k + 1].toNat = q2 := by rw [d0', hq2]
          have HQ1 : Hid ((q2 : Int) = (d.toNat : Int)) := hideL (by rw [hq2])
          have D1 := hideL (classOf_any d wr HCr.out)
          rw [← hq2] at D1
          have HF : Hid (cnF (92 :: d :: l.drop (k + 1 + 1)) = cnE (d, true) ++ cnF (l.drop (k + 1 + 1))) := hideL (by rw [cnF, sgn_esc]; rfl)
          rcases cl_cases d with ⟨e, e2⟩ | ⟨e, e2⟩ | ⟨e, e1, e2, e3⟩
          · rw [e] at D1
            have HQ : Hid (Z = (o ++ [92] ++ [d]) ++ cnF (l.drop (k + 1 + 1))) := hideL (by rw [HD2, HF.out]; simp [cnE, e2])
            clear HD2 HE2 hd hq2 d0' HQ0 HX HF e e2
            go_wp2_with (first
              | (go_at_call 68; refine C2.out.mono ?_; clear C2; rintro e w6 ⟨rfl, e6⟩; subst e6)
              | (go_at_call 68; refine D1.out.mono ?_; clear D1; rintro e w7 ⟨rfl, e7⟩; subst e7)
              | (at_builtin; refine wpList_pushG rfl _ _ rfl _ _ m _ 92 _ rfl HR _ (by first | rfl | simp) rfl H92 (by omega) ?_; clear HR; intro a3 c3 W3 G3)
              | (at_builtin; refine wpList_pushG rfl _ _ rfl _ _ (m + 1) _ d _ rfl G3 _ (by first | rfl | simp) rfl HQ1 (by omega) ?_; clear G3; intro a4 c4 W4 G4))
            go_roundw
            case rel => exact ⟨k + 1 + 1, m + 1 + 1, a4, c4, _, by omega, by omega, by go_num, rfl, G4, HQ, HEn⟩
            case measure => simp [intOf] <;> omega
          · rw [e] at D1
            have HQ : Hid (Z = (o ++ [92] ++ [d]) ++ cnF (l.drop (k + 1 + 1))) := hideL (by rw [HD2, HF.out]; simp [cnE, e2])
            clear HD2 HE2 hd hq2 d0' HQ0 HX HF e e2
            go_wp2_with (first
              | (go_at_call 68; refine C2.out.mono ?_; clear C2; rintro e w6 ⟨rfl, e6⟩; subst e6)
              | (go_at_call 68; refine D1.out.mono ?_; clear D1; rintro e w7 ⟨rfl, e7⟩; subst e7)
              | (at_builtin; refine wpList_pushG rfl _ _ rfl _ _ m _ 92 _ rfl HR _ (by first | rfl | simp) rfl H92 (by omega) ?_; clear HR; intro a3 c3 W3 G3)
              | (at_builtin; refine wpList_pushG rfl _ _ rfl _ _ (m + 1) _ d _ rfl G3 _ (by first | rfl | simp) rfl HQ1 (by omega) ?_; clear G3; intro a4 c4 W4 G4))
            go_roundw
            case rel => exact ⟨k + 1 + 1, m + 1 + 1, a4, c4, _, by omega, by omega, by go_num, rfl, G4, HQ, HEn⟩
            case measure => simp [intOf] <;> omega
          · have HQ : Hid (Z = (o ++ [d]) ++ cnF (l.drop (k + 1 + 1))) := hideL (by rw [HD2, HF.out]; simp [cnE, e2, e3])
            generalize cl d = r at *
            have q1 : ((r : Int) == 103) = false := by simp; omega
            have q2' : ((r : Int) == 104) = false := by simp; omega
            clear HD2 HE2 hd hq2 d0' HQ0 HX HF e e1 e2 e3
            go_wp2_with (first
              | (go_at_call 68; refine C2.out.mono ?_; clear C2; rintro e w6 ⟨rfl, e6⟩; subst e6)
              | (go_at_call 68; refine D1.out.mono ?_; clear D1; rintro e w7 ⟨rfl, e7⟩; subst e7)
              | (at_builtin; refine wpList_pushG rfl _ _ rfl _ _ m _ d _ rfl HR _ (by first | rfl | simp) rfl HQ1 (by omega) ?_; clear HR; intro a4 c4 W4 G4))
            go_roundw
            case rel => exact ⟨k + 1 + 1, m + 1, a4, c4, _, by omega, by omega, by go_num, rfl, G4, HQ, HEn⟩
            case measure => simp [intOf] <;> omega
        · exfalso
          rw [List.drop_of_length_le (by have := HLn.out; omega), sgn_one] at HE2
          simp [isE] at HE2
      · have hcl : cl x ≠ 104 := by
          intro h
          have := cl_esc x
          rw [h] at this
          exact e92 (eq_of_beq this.symm)
        have HQ : Hid (Z = (o ++ [x]) ++ cnF (l.drop (k + 1))) := hideL (by rw [HD2, cnF, sgn_oth x _ e92, List.append_assoc]; rfl)
        have HEn : Hid ((sgn (l.drop (k + 1))).any isE = false) := hideL (by rw [sgn_oth x _ e92] at HE2; simp [isE] at HE2 ⊢; exact HE2.2)
        generalize cl x = r at *
        have q1 : ((r : Int) == 104) = false := by simp; omega
        clear HD2 HE2 e92 hcl HX
        go_wp2_with (first
          | (go_at_call 68; refine C1.out.mono ?_; clear C1; rintro e w6 ⟨rfl, e6⟩; subst e6)
          | (at_builtin; refine wpList_pushG rfl _ _ rfl _ _ m _ x _ rfl HR _ (by first | rfl | simp) rfl HQ0 (by omega) ?_; clear HR; intro a4 c4 W4 G4))
        go_roundw
        case rel => exact ⟨k + 1, m + 1, a4, c4, _, by omega, by omega, by go_num, rfl, G4, HQ, HEn⟩
        case measure => simp [intOf] <;> omega
    · obtain rfl : k = n := by omega
      have hZ : Z = o := by rw [HD.out, List.drop_of_length_le (by have := HLn.out; omega)]; exact List.append_nil _
      subst hZ
      have hb := gro_string HR.out.gro HR.out.len
      have HK := hideL HR.out.gro.kept
      have hb2 : (convert 96 9 (.slice a m c0)).run Tryd.prog wr = .ok (.string (bq Z)) wr := hb
      clear hb HR
      go_wp2
      go_ret
      exact ⟨rfl, HK.out⟩
end Go.Proofs.YtiemiphlfbaojaaDoor
