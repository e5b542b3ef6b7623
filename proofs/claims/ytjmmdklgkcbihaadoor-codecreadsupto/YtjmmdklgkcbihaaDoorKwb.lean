import Derived.Test.YtjmmdklgkcbihaaDoorKwa
import Derived.Test.YtjmmdklgkcbihaaDoorMrg2
namespace Go.Proofs.YtjmmdklgkcbihaaDoor
open Go.ChangeShapes Go.WideShapes Go.ChangeAt Go.RowKit

/-- The bits of the byte that is begun, behind t bits of N. -/
def cstK (N t : Nat) : Nat := N / 256 ^ (t / 8) % 2 ^ (t % 8)
theorem pow256K (q : Nat) : 256 ^ q = 2 ^ (8 * q) := by rw [Nat.pow_mul]
theorem cst_addK (N t : Nat) : cstK N t + (N / 2 ^ t % 2) * 2 ^ (t % 8) = N / 256 ^ (t / 8) % 2 ^ (t % 8 + 1) := by
  unfold cstK
  rw [Nat.mod_pow_succ, Nat.div_div_eq_div_mul, pow256K, ← Nat.pow_add, show 8 * (t / 8) + t % 8 = t by omega, Nat.mul_comm (2 ^ (t % 8))]
theorem cst_nextK {N t : Nat} (h : t % 8 + 1 ≠ 8) : cstK N (t + 1) = cstK N t + (N / 2 ^ t % 2) * 2 ^ (t % 8) := by
  rw [cst_addK]
  unfold cstK
  rw [show (t + 1) / 8 = t / 8 by omega, show (t + 1) % 8 = t % 8 + 1 by omega]
theorem cst_fullK {N t : Nat} (h : t % 8 + 1 = 8) : cstK N (t + 1) = 0 ∧ le ((t + 1) / 8) N = le (t / 8) N ++ [((cstK N t + (N / 2 ^ t % 2) * 2 ^ (t % 8) : Nat) : Int)] := by
  rw [cst_addK, h]
  unfold cstK
  rw [show (t + 1) % 8 = 0 by omega, show (t + 1) / 8 = t / 8 + 1 by omega, le_snoc]
  exact ⟨by rw [Nat.pow_zero, Nat.mod_one], rfl⟩
theorem hd_eqK {d cc pp bt h A B C : Nat} (hd : d = cc + pp) (hpp : pp = bt * 2 ^ h) (h1 : cc = A) (h2 : h = C) (h3 : B = bt) : d = A + B * 2 ^ C := by
  subst h1 h2 h3 hpp
  exact hd
theorem cst_nextDK {N t d : Nat} (hd : d = cstK N t + (N / 2 ^ t % 2) * 2 ^ (t % 8)) (h : t % 8 + 1 ≠ 8) : cstK N (t + 1) = d := hd ▸ cst_nextK h
theorem cst_fullDK {N t d : Nat} (hd : d = cstK N t + (N / 2 ^ t % 2) * 2 ^ (t % 8)) (h : t % 8 + 1 = 8) : cstK N (t + 1) = 0 ∧ le ((t + 1) / 8) N = le (t / 8) N ++ [(d : Int)] := by
  subst hd
  exact cst_fullK h
theorem cst_ltK (N t : Nat) : cstK N t < 2 ^ (t % 8) := Nat.mod_lt _ (Nat.two_pow_pos _)
theorem cst_zeroK (N : Nat) : cstK N 0 = 0 := by unfold cstK; simp [Nat.mod_one]
theorem pow8DK {h : Nat} (hh : h < 8) : 2 ^ h ≤ 128 := by
  have : 2 ^ h ≤ 2 ^ 7 := Nat.pow_le_pow_right (by decide) (by omega)
  omega
theorem le_endK {N t : Nat} (h : N < 2 ^ t) : le ((t + 7) / 8) N = if t % 8 = 0 then le (t / 8) N else le (t / 8) N ++ [((cstK N t : Nat) : Int)] := by
  by_cases ht : t % 8 = 0
  · rw [if_pos ht, show (t + 7) / 8 = t / 8 by omega]
  · rw [if_neg ht, show (t + 7) / 8 = t / 8 + 1 by omega, le_snoc]
    have h1 : N / 256 ^ (t / 8) < 2 ^ (t % 8) := by
      rw [pow256K, Nat.div_lt_iff_lt_mul (Nat.two_pow_pos _), ← Nat.pow_add, show t % 8 + 8 * (t / 8) = t by omega]
      exact h
    have h2 := pow8DK (h := t % 8) (by omega)
    have h3 : cstK N t = N / 256 ^ (t / 8) % 256 := by
      unfold cstK
      rw [Nat.mod_eq_of_lt h1, Nat.mod_eq_of_lt (by omega)]
    rw [h3]
theorem le_endDK {N t h : Nat} (hN : N < 2 ^ t) (hh : h = t % 8) : le ((t + 7) / 8) N = if h = 0 then le (t / 8) N else le (t / 8) N ++ [((cstK N t : Nat) : Int)] := by
  subst hh
  exact le_endK hN
theorem pk_dropNK (w : Nat) : ∀ (i : Nat) (l : List Int), (∀ x ∈ l, x.toNat < 2 ^ w) → pk w l / 2 ^ (i * w) = pk w (l.drop i)
  | 0, l, _ => by simp
  | i + 1, [], _ => by simp [pk]
  | i + 1, x :: r, h => by
    have h1 := h x (List.mem_cons_self ..)
    rw [List.drop_succ_cons, ← pk_dropNK w i r (fun y hy => h y (List.mem_cons_of_mem _ hy)), pk, Nat.succ_mul, Nat.add_comm (i * w), Nat.pow_add, ← Nat.div_div_eq_div_mul, Nat.add_mul_div_left _ _ (Nat.two_pow_pos _), Nat.div_eq_of_lt h1, Nat.zero_add]
theorem pk_bitK {w i k : Nat} {l : List Int} (h : ∀ x ∈ l, x.toNat < 2 ^ w) (hi : i < l.length) (hk : k < w) : pk w l / 2 ^ (i * w + k) % 2 = l[i].toNat / 2 ^ k % 2 := by
  rw [Nat.pow_add, ← Nat.div_div_eq_div_mul, pk_dropNK w i l h, List.drop_eq_getElem_cons hi, pk]
  obtain ⟨d, rfl⟩ : ∃ d, w = k + (d + 1) := ⟨w - k - 1, by omega⟩
  rw [Nat.pow_add, Nat.mul_assoc, Nat.add_mul_div_left _ _ (Nat.two_pow_pos _), Nat.pow_succ, Nat.mul_comm (2 ^ d) 2, Nat.mul_assoc, Nat.add_mul_mod_self_left]
set_option maxRecDepth 20000 in
set_option maxHeartbeats 4000000 in
theorem dpk_anyK (l : List Int) (a : Option Addr) (c : Nat) (w : World) (hA : IntsAt w a l) (h0 : ∀ x ∈ l, 0 ≤ x) (hI : IsInts l) (hl : l.length ≤ 1048576) (hne : l ≠ []) (hzz : bitLen (orl l) ≠ 0 ∨ l.length ≤ 65536) :
    Calls Tryd.prog 72 #[.slice a l.length c] w fun e w' => ∃ g c', e = .returned (.tuple #[.slice (some ⟨g, 0, none⟩) (packed l).length c', .int .i64 0]) ∧ GroK w w' 5 1 (.slice (some ⟨g, 0, none⟩) (packed l).length c') (packed l).length (bs (packed l)) := by
  have CU := hideH (duv_anyK l.length w (by omega))
  have CW : Hid (∀ W, Kept (fun _ => False) w W → Calls Tryd.prog 85 #[.slice a l.length c] W fun e w' => e = .returned (.int .i64 ((bitLen (orl l) : Nat) : Int)) ∧ w' = W) := hideH (fun W k => dwid_anyK l a c W (hA.keptK k) h0 hI (by omega))
  obtain ⟨wd, hwd⟩ : ∃ wd, wd = bitLen (orl l) := ⟨_, rfl⟩
  obtain ⟨N, hN⟩ : ∃ N, N = pk wd l := ⟨_, rfl⟩
  have HP : Hid (packed l = (uvb l.length ++ [(wd : Int)]) ++ le ((l.length * wd + 7) / 8) N) := hideH (by rw [packed_eq, pbody, if_neg hne, ← hwd, ← hN]; simp)
  have HX : Hid (∀ x ∈ l, x.toNat < 2 ^ wd) := hideH (fun x hx => by rw [hwd]; exact mem_lt_width hx)
  have HNl : Hid (N < 2 ^ (l.length * wd)) := hideH (by rw [hN, Nat.mul_comm]; exact pk_lt wd l HX.out)
  have hw63 : wd ≤ 63 := by rw [hwd]; exact orl_bits l h0 hI
  have HBt : Hid (∀ i k, (h : i < l.length) → k < wd → N / 2 ^ (i * wd + k) % 2 = l[i].toNat / 2 ^ k % 2) := hideH (fun i k h hk => by rw [hN]; exact pk_bitK HX.out h hk)
  rw [← hwd] at CW hzz
  have HA := hideH hA
  have H0 := hideH h0
  have HI := hideH hI
  have hn0 : 0 < l.length := List.length_pos_iff.2 hne
  have HU := uvb_le10K l.length (by omega)
  obtain ⟨U, hU⟩ : ∃ U, U = uvb l.length := ⟨_, rfl⟩
  rw [← hU] at CU HP HU
  obtain ⟨n, hn⟩ : ∃ n, n = l.length := ⟨_, rfl⟩
  rw [← hn] at hl CU CW HP HNl hn0 hzz ⊢
  have HN := hideH hn
  have hn0b : ((n : Int) == 0) = false := by rw [beq_eq_false_iff_ne]; omega
  clear hA h0 hI hn hne hwd hN hU
  go_enter Tryd.func72, Tryd.ntmps72
  go_wp2
  go_loop [15] (fun v15 => ∃ j : Nat, j ≤ n ∧ v15 = .int .i64 j) (fun v15 => n - (intOf v15).toNat)
  case atStart => exact ⟨0, by omega, rfl⟩
  case round =>
    obtain ⟨j, hj, rfl⟩ := hrel
    by_cases hlt : j < n
    · have hjj : (j : Int) < (n : Int) := by omega
      have hjl : j < l.length := by rw [← HN.out]; exact hlt
      obtain ⟨b, off, rfl, hc⟩ := HA.out.get (k := j) hjl
      have hx0 := H0.out (l[j]?.getD 0) (by rw [List.getElem?_eq_getElem hjl]; exact List.getElem_mem hjl)
      generalize l[j]?.getD 0 = x at *
      have hxn : ¬ x < 0 := by omega
      go_wp2
      go_round
      case rel => exact ⟨j + 1, by omega, by go_num⟩
      case measure => simp [intOf]; omega
    · have hjj : ¬ (j : Int) < (n : Int) := by omega
      have hw8 : IntKind.u8.wrap (wd : Int) = (wd : Int) := by rw [IntKind.wrap_u8]; omega
      by_cases hz0 : wd = 0
      · subst hz0
        have hnl : decide ((65536 : Int) < (n : Int)) = false := by rw [decide_eq_false_iff_not]; omega
        go_wp2_with (first
          | (go_at_call 31; refine CU.out.mono ?_; clear CU; rintro e W1 ⟨g1, c1, rfl, hG1⟩; have HG1 := hideH hG1; have CW1 := hideH (CW.out W1 hG1.kept); clear hG1 CW)
          | (go_at_call 85; refine CW1.out.mono ?_; clear CW1; rintro e W1 ⟨rfl, rfl⟩)
          | (at_builtin; refine StpH.go ?_))
        refine ⟨?_⟩
        refine wpList_pushZK rfl (.tmp 41) (.tmp 44) rfl _ U.length U 0 rfl HG1 _ rfl rfl (by omega) ?_
        clear HG1
        intro g2 c2 W2 HG2 _
        go_wp2
        have HZ : Hid (packed l = U ++ [0]) := hideH (by rw [HP.out, Nat.mul_zero, Nat.zero_add]; simp [le])
        go_loopw [6, 8, 9, 48] (fun v6 v8 v9 v48 wr => ∃ j : Nat, j ≤ n ∧ v48 = .int .i64 j ∧ v8 = .int .i64 0 ∧ v9 = .int .i64 0 ∧ v6 = .slice (some ⟨g2, 0, none⟩) (U.length + 1) c2 ∧ wr = W2) (fun _ _ _ v48 _ => n - (intOf v48).toNat)
        case atStart => exact ⟨0, by omega, rfl, rfl, rfl, rfl, rfl⟩
        case round =>
          obtain ⟨j2, hj2, rfl, rfl, rfl, rfl, rfl⟩ := hrel
          by_cases hlt2 : j2 < n
          · have hjj2 : (j2 : Int) < (n : Int) := by omega
            have hjl : j2 < l.length := by rw [← HN.out]; exact hlt2
            obtain ⟨b, off, rfl, hc⟩ := (HA.out.keptK HG2.out.kept).get (k := j2) hjl
            go_wp2
            go_loopw [6, 8, 9, 12] (fun v6 v8 v9 v12 wr2 => v12 = .int .i64 0 ∧ v8 = .int .i64 0 ∧ v9 = .int .i64 0 ∧ v6 = .slice (some ⟨g2, 0, none⟩) (U.length + 1) c2 ∧ wr2 = wr) (fun _ _ _ _ _ => 0)
            case atStart => exact ⟨rfl, rfl, rfl, rfl, rfl⟩
            case round =>
              obtain ⟨rfl, rfl, rfl, rfl, rfl⟩ := hrel
              go_wp2
              go_roundw
              case rel => exact ⟨j2 + 1, by omega, by go_num, rfl, rfl, rfl, by first | rfl | trivial⟩
              case measure => simp [intOf]; omega
          · have hjj2 : ¬ (j2 : Int) < (n : Int) := by omega
            go_wp2
            go_ret2
            refine ⟨g2, c2, ?_, ?_⟩
            · rw [HZ.out, List.length_append]; rfl
            · rw [HZ.out, List.length_append]; exact HG2.out
      · have hz : ((wd : Int) == 0) = false := by rw [beq_eq_false_iff_ne]; omega
        go_wp2_with (first
          | (go_at_call 31; refine CU.out.mono ?_; clear CU; rintro e W1 ⟨g1, c1, rfl, hG1⟩; have HG1 := hideH hG1; have CW1 := hideH (CW.out W1 hG1.kept); clear hG1 CW)
          | (go_at_call 85; refine CW1.out.mono ?_; clear CW1; rintro e W1 ⟨rfl, rfl⟩)
          | (at_builtin; refine StpH.go ?_))
        refine ⟨?_⟩
        refine wpList_pushZK rfl (.tmp 41) (.tmp 44) rfl _ U.length U (wd : Int) rfl HG1 _ rfl rfl (by omega) ?_
        clear HG1
        intro g2 c2 W2 HG2 _
        go_wp2
        have HG3 : Hid (GroK w W2 5 1 (.slice (some ⟨g2, 0, none⟩) (U.length + 1) c2) (U ++ [(wd : Int)]).length (bs (U ++ [(wd : Int)]))) := hideH (by rw [List.length_append]; exact HG2.out)
        have hLb : Hid (∀ t, t ≤ n * wd → t / 8 ≤ 10000000) := hideH (fun t ht => by
          have : n * wd ≤ 1048576 * 63 := Nat.mul_le_mul hl hw63
          omega)
        clear HG2
        go_loopw [6, 8, 9, 48] (fun v6 v8 v9 v48 wr => ∃ (j h cc : Nat) (va : Value) (zs : List Int), j ≤ n ∧ h < 8 ∧ cc < 128 ∧ v48 = .int .i64 j ∧ v8 = .int .i64 h ∧ v9 = .int .i64 cc ∧ v6 = va ∧ Hid (h = (j * wd) % 8) ∧ Hid (cc = cstK N (j * wd)) ∧ Hid (zs = (U ++ [(wd : Int)]) ++ le (j * wd / 8) N) ∧ Hid (GroK w wr 5 1 va zs.length (bs zs))) (fun _ _ _ v48 _ => n - (intOf v48).toNat)
        case atStart => exact ⟨0, 0, 0, _, _, by omega, by omega, by omega, rfl, rfl, rfl, rfl, hideH (by simp), hideH (by rw [Nat.zero_mul, cst_zeroK]), hideH (by rw [Nat.zero_mul]; exact (List.append_nil _).symm), HG3⟩
        case round =>
          obtain ⟨j2, h, cc, va, zs, hj2, hh, hcc, rfl, rfl, rfl, rfl, HH, HC, HZ, HG⟩ := hrel
          by_cases hlt2 : j2 < n
          · have hjj2 : (j2 : Int) < (n : Int) := by omega
            have hjl : j2 < l.length := by rw [← HN.out]; exact hlt2
            obtain ⟨b, off, rfl, hc⟩ := (HA.out.keptK HG.out.kept).get (k := j2) hjl
            have hx0 := H0.out (l[j2]?.getD 0) (by rw [List.getElem?_eq_getElem hjl]; exact List.getElem_mem hjl)
            have HBj : Hid (∀ k, k < wd → N / 2 ^ (j2 * wd + k) % 2 = (l[j2]?.getD 0).toNat / 2 ^ k % 2) := hideH (fun k hk => by rw [HBt.out j2 k hjl hk, List.getElem?_eq_getElem hjl]; rfl)
            have HLj : Hid (∀ k, k < wd → (j2 * wd + k) / 8 ≤ 10000000) := hideH (fun k hk => hLb.out _ (by
              have h1 : (j2 + 1) * wd ≤ n * wd := Nat.mul_le_mul_right _ hlt2
              rw [Nat.succ_mul] at h1
              omega))
            generalize l[j2]?.getD 0 = x at *
            obtain ⟨X, rfl⟩ := Int.eq_ofNat_of_zero_le hx0
            rw [Int.toNat_natCast] at HBj
            go_wp2
            go_loopw [6, 8, 9, 12] (fun v6 v8 v9 v12 wr => ∃ (k h cc : Nat) (va : Value) (zs : List Int), k ≤ wd ∧ h < 8 ∧ cc < 128 ∧ v12 = .int .i64 k ∧ v8 = .int .i64 h ∧ v9 = .int .i64 cc ∧ v6 = va ∧ Hid (h = (j2 * wd + k) % 8) ∧ Hid (cc = cstK N (j2 * wd + k)) ∧ Hid (zs = (U ++ [(wd : Int)]) ++ le ((j2 * wd + k) / 8) N) ∧ Hid (GroK w wr 5 1 va zs.length (bs zs))) (fun _ _ _ v12 _ => wd - (intOf v12).toNat)
            case atStart => exact ⟨0, h, cc, _, zs, by omega, hh, hcc, rfl, rfl, rfl, rfl, HH, HC, HZ, HG⟩
            case round =>
              clear HH HC HZ HG hh hcc hc
              obtain ⟨k, h, cc, va, zs, hk, hh, hcc, rfl, rfl, rfl, rfl, HH, HC, HZ, HG⟩ := hrel
              by_cases hkw : k < wd
              · have hkk : (k : Int) < (wd : Int) := by omega
                obtain ⟨Y, hY⟩ : ∃ Y, Y = X / 2 ^ k := ⟨_, rfl⟩
                obtain ⟨bt, hbt⟩ : ∃ bt, bt = Y % 2 := ⟨_, rfl⟩
                have hsh : (X : Int) / (2 : Int) ^ k = (Y : Int) := by rw [shr_castK, hY]
                have hb1 : (Y : Int).tmod 2 = (bt : Int) := by rw [Int.tmod_eq_emod_of_nonneg (by omega)]; omega
                have hb2 : (Y : Int) % 2 = (bt : Int) := by omega
                have hb3 : bt < 2 := by omega
                have HBt2 : Hid (N / 2 ^ (j2 * wd + k) % 2 = bt) := hideH (by rw [HBj.out k hkw, ← hY, ← hbt])
                have hYX : Y ≤ X := by rw [hY]; exact Nat.div_le_self _ _
                clear hY hbt
                obtain ⟨pp, hpp⟩ : ∃ pp, pp = bt * 2 ^ h := ⟨_, rfl⟩
                obtain ⟨d, hd⟩ : ∃ d, d = cc + pp := ⟨_, rfl⟩
                have hcl : cc < 2 ^ h := by rw [HC.out, HH.out]; exact cst_ltK _ _
                have hpl : pp ≤ 2 ^ h := by
                  rw [hpp]
                  rcases (show bt = 0 ∨ bt = 1 by omega) with e | e <;> rw [e] <;> omega
                have h28 := pow8DK hh
                have hd256 : d < 256 := by omega
                have hw3 : (d : Int) % 256 = (d : Int) := by omega
                have HW1 : Hid (wrap64 ((bt : Int) * 2 ^ h) = (pp : Int)) := by
                  apply hideH
                  have e : (bt : Int) * 2 ^ h = (pp : Int) := by rw [hpp]; push_cast; rfl
                  rw [e]
                  unfold wrap64
                  omega
                have HW2 : Hid (wrap64 ((cc : Int) + (pp : Int)) = (d : Int)) := by
                  apply hideH
                  unfold wrap64
                  omega
                have HD : Hid (d = cstK N (j2 * wd + k) + (N / 2 ^ (j2 * wd + k) % 2) * 2 ^ ((j2 * wd + k) % 8)) := hideH (hd_eqK hd hpp HC.out HH.out HBt2.out)
                have hzl : zs.length ≤ 20000000 := by
                  rw [HZ.out]
                  simp only [List.length_append, le_length, List.length_singleton]
                  have := HLj.out k hkw
                  omega
                clear hpp hd hcl hpl
                by_cases h8 : h + 1 = 8
                · have h8b : ((h : Int) + 1 == 8) = true := by rw [beq_iff_eq]; omega
                  have HF := hideH (cst_fullDK (N := N) (t := j2 * wd + k) HD.out (by have := HH.out; omega))
                  have hw1 := HW1.out
                  have hw2 := HW2.out
                  go_wp2_with (at_builtin; refine StpH.go ?_)
                  clear hw1 hw2
                  refine ⟨?_⟩
                  refine wpList_pushZK rfl (.tmp 69) (.tmp 72) rfl _ zs.length zs (d : Int) rfl HG _ rfl rfl (by omega) ?_
                  intro g7 c7 W7 HG7 _
                  go_wp2
                  go_roundw
                  case rel => exact ⟨k + 1, 0, 0, _, zs ++ [(d : Int)], by omega, by omega, by omega, by go_num, rfl, rfl, rfl, hideH (by have := HH.out; omega), hideH (by rw [← Nat.add_assoc]; exact HF.out.1.symm), hideH (by rw [← Nat.add_assoc, HF.out.2, HZ.out]; simp only [List.append_assoc]), hideH (by rw [List.length_append]; exact HG7.out)⟩
                  case measure => simp [intOf]; omega
                · have h8b : ((h : Int) + 1 == 8) = false := by rw [beq_eq_false_iff_ne]; omega
                  have hF := cst_nextDK (N := N) (t := j2 * wd + k) HD.out (by have := HH.out; omega)
                  have HF := hideH hF
                  have hd2 : d < 128 := by
                    have h1 := cst_ltK N (j2 * wd + k + 1)
                    have h2 := pow8DK (h := (j2 * wd + k + 1) % 8) (by omega)
                    omega
                  clear hF
                  have hw1 := HW1.out
                  have hw2 := HW2.out
                  go_wp2
                  go_roundw
                  all_goals clear hw1 hw2
                  case rel => exact ⟨k + 1, h + 1, d, _, zs, by omega, by omega, hd2, by go_num, by go_num, by rw [HW2.out], rfl, hideH (by have := HH.out; omega), hideH (by rw [← Nat.add_assoc]; exact HF.out.symm), hideH (by rw [HZ.out]; have := HH.out; rw [show (j2 * wd + (k + 1)) / 8 = (j2 * wd + k) / 8 by omega]), HG⟩
                  case measure => simp [intOf]; omega
              · have hkk : ¬ (k : Int) < (wd : Int) := by omega
                have HE : Hid (j2 * wd + k = (j2 + 1) * wd) := hideH (by rw [Nat.succ_mul]; omega)
                go_wp2
                go_roundw
                case rel => exact ⟨j2 + 1, h, cc, _, zs, by omega, hh, hcc, by go_num, rfl, rfl, rfl, hideH (by rw [← HE.out]; exact HH.out), hideH (by rw [← HE.out]; exact HC.out), hideH (by rw [← HE.out]; exact HZ.out), HG⟩
                case measure => simp [intOf]; omega
          · have hjj2 : ¬ (j2 : Int) < (n : Int) := by omega
            obtain rfl : j2 = n := by omega
            have hE := le_endDK HNl.out HH.out
            have hzl : zs.length ≤ 20000000 := by
              rw [HZ.out]
              simp only [List.length_append, le_length, List.length_singleton]
              have := hLb.out (j2 * wd) (Nat.le_refl _)
              omega
            by_cases hh0 : h = 0
            · subst hh0
              rw [if_pos rfl] at hE
              have HR : Hid (packed l = zs) := hideH (by rw [HP.out, hE, HZ.out])
              clear hE
              obtain ⟨ga, gc, hva⟩ := HG.out.shape
              subst hva
              obtain ⟨g9, rfl, -, -⟩ := HG.out.cell (by rw [HZ.out]; simp only [List.length_append, List.length_singleton]; omega)
              go_wp2
              go_ret2
              rw [HR.out]
              exact ⟨g9, gc, rfl, HG.out⟩
            · rw [if_neg hh0] at hE
              have hhb : decide ((0 : Int) < (h : Int)) = true := by rw [decide_eq_true_iff]; omega
              have hw3 : (cc : Int) % 256 = (cc : Int) := by omega
              have HR : Hid (packed l = zs ++ [(cc : Int)]) := hideH (by rw [HP.out, hE, HZ.out, HC.out]; simp only [List.append_assoc])
              clear hE
              go_wp2_with (at_builtin; refine StpH.go ?_)
              refine ⟨?_⟩
              refine wpList_pushZK rfl (.tmp 77) (.tmp 80) rfl _ zs.length zs (cc : Int) rfl HG _ rfl rfl (by omega) ?_
              intro g7 c7 W7 HG7 _
              go_wp2
              go_ret2
              rw [HR.out, List.length_append]
              exact ⟨g7, c7, rfl, HG7.out⟩
end Go.Proofs.YtjmmdklgkcbihaaDoor
