import Derived.Test.YtmfdoohnladohaaRlg
namespace Go.Proofs.Ytmfdoohnladohaa
open Go.ChangeShapes Go.WideShapes Go.ChangeAt Go.RowKit

theorem bo_some (p : Rl) : bo (some p) = p := rfl
set_option maxRecDepth 20000 in
set_option maxHeartbeats 4000000 in
theorem measured_any (l : List UInt8) (T : Tbl) (g n c most : Nat) (w : World) (hl : l.length ≤ 140737488355000) (h1 : ∀ p ∈ T, 1 ≤ p.1.length ∧ p.1.length ≤ 7) (h2 : ∀ p ∈ T, lk T p.1 = some p.2) (h3 : ∀ p ∈ T, p.2.length ≤ 7) (hn : n = T.length) (hn9 : n ≤ 1000) (hR : RulesAt w g T) :
    Calls Try.prog 36 #[.string (bq l), .slice (some ⟨g, 0, none⟩) n c, .int .i64 most] w fun e w' => e = .returned (.string (bq (rep T (most + 1) l))) ∧ Kept (fun _ => False) w w' := by
  have CL := fun w' (k : Kept (fun _ => False) w w') => hideV (longest_any l T g n c w' (by omega) (fun p hp => (h1 p hp).2) hn hn9 (hR.kept k))
  have CL := CL w (Kept.refl _ _)
  have HF := hideV (rep_lg T h1 h2 (most + 1) l)
  have HB := hideV (lg_best T l)
  have HM := hideV (fun (e : List UInt8) w => rmeasure_any (cutE l e) w (by have := cutE_le l e; omega))
  obtain ⟨Z, hZ⟩ : ∃ Z, Z = bq (rep T (most + 1) l) := ⟨_, rfl⟩
  rw [← hZ]
  have HZ := hideV hZ
  clear hZ hR h2 h1
  cases hg : lg T l with
  | none =>
    rw [hg] at CL HF
    have HG : Hid (bq l = Z) := hideV (by rw [HZ.out, HF.out])
    have CL2 : Hid (Calls Try.prog 32 #[.string (bq l), .slice (some ⟨g, 0, none⟩) n c] w fun e w' => e = .returned (.tuple #[.string (bq (cutE l (bo none).1)), .agg #[.string (bq (bo none).1), .string (bq (bo none).2)], .bool false]) ∧ Kept (fun _ => False) w w') := CL
    clear CL HF HZ HB HM h3 hn
    generalize bq (cutE l (bo none).1) = R at *
    generalize bq (bo none).1 = x at *
    generalize bq (bo none).2 = y at *
    generalize bq l = s at *
    go_enter Try.func36, Try.ntmps36
    go_wp2_with (go_at_call 32; refine CL2.out.mono ?_; clear CL2; rintro e W ⟨rfl, K⟩)
    go_ret
    exact ⟨rets HG.out, K.trans (Kept.alloc _ _) (fun _ f => f.elim)⟩
  | some p =>
    rw [hg] at CL HF HB
    have CL2 : Hid (Calls Try.prog 32 #[.string (bq l), .slice (some ⟨g, 0, none⟩) n c] w fun e w' => e = .returned (.tuple #[.string (bq (cutE l p.1)), .agg #[.string (bq p.1), .string (bq p.2)], .bool true]) ∧ Kept (fun _ => False) w w') := CL
    have CM := fun w => hideV (HM.out p.1 w)
    have MI : meas (cutE l p.1) ≤ 140737488355000 := Nat.le_trans (meas_le _) (Nat.le_trans (cutE_le _ _) hl)
    have s1 : (bq (cutE l p.1)).size ≤ 140737488355000 := by rw [bq_size]; exact Nat.le_trans (cutE_le _ _) hl
    have s2 : (bq p.2).size ≤ 7 := by rw [bq_size]; exact h3 p HB.out.1
    clear CL HB HM h3 hn
    by_cases hm : meas (cutE l p.1) < most + 1
    · have HG : Hid (bq l = Z) := hideV (by rw [HZ.out, HF.out]; show _ = bq (if meas (cutE l p.1) < most + 1 then l else _); rw [if_pos hm])
      have m2 : ¬ (most : Int) < (meas (cutE l p.1) : Int) := by omega
      clear HF HZ hm
      generalize meas (cutE l p.1) = mm at *
      generalize bq (cutE l p.1) = R at *
      generalize bq p.1 = x at *
      generalize bq p.2 = y at *
      generalize bq l = s at *
      go_enter Try.func36, Try.ntmps36
      go_wp2_with (first
        | (go_at_call 32; refine CL2.out.mono ?_; clear CL2; rintro e W ⟨rfl, K⟩)
        | (go_at_call 33; refine (CM _).out.mono ?_; clear CM; rintro e W2 ⟨rfl, K2⟩))
      go_ret
      exact ⟨rets HG.out, (K.trans (Kept.alloc _ _) (fun _ f => f.elim)).trans K2 (fun _ f => f.elim)⟩
    · have HG : Hid (bq (cutE l p.1) ++ bq p.2 = Z) := hideV (by rw [HZ.out, HF.out]; show _ = bq (if meas (cutE l p.1) < most + 1 then l else _); rw [if_neg hm]; exact bq_append _ _)
      have m2 : (most : Int) < (meas (cutE l p.1) : Int) := by omega
      clear HF HZ hm
      generalize meas (cutE l p.1) = mm at *
      generalize bq (cutE l p.1) = R at *
      generalize bq p.1 = x at *
      generalize bq p.2 = y at *
      generalize bq l = s at *
      go_enter Try.func36, Try.ntmps36
      go_wp2_with (first
        | (go_at_call 32; refine CL2.out.mono ?_; clear CL2; rintro e W ⟨rfl, K⟩)
        | (go_at_call 33; refine (CM _).out.mono ?_; clear CM; rintro e W2 ⟨rfl, K2⟩; have y1 : W2.cell? ⟨W.heap.size, 1, none⟩ = some (.string y) := K2.cell (by simp) (fun f => f)))
      go_ret
      exact ⟨rets HG.out, (K.trans (Kept.alloc _ _) (fun _ f => f.elim)).trans K2 (fun _ f => f.elim)⟩
theorem sfx1 (l : List UInt8) (c : UInt8) (h : 1 ≤ l.length) : sfx l [c] = (l.getD (l.length - 1) 0 == c) := by
  rw [Bool.eq_iff_iff, sfx_iff, beq_iff_eq, getD_at l (l.length - 1) (by omega)]
  have e : l.drop (l.length - 1) = [l[l.length - 1]] := by
    rw [List.drop_eq_getElem_cons (by omega), List.drop_of_length_le (by omega)]
  constructor
  · rintro ⟨_, h2⟩
    rw [show ([c] : List UInt8).length = 1 from rfl, e] at h2
    simpa using h2
  · intro h2
    refine ⟨h, ?_⟩
    rw [show ([c] : List UInt8).length = 1 from rfl, e, h2]
set_option maxRecDepth 20000 in
set_option maxHeartbeats 4000000 in
theorem rshort_any (l : List UInt8) (w : World) (hl : l.length ≤ 140737488355328) :
    Calls Try.prog 37 #[.string (bq l)] w fun e w' => e = .returned (.bool (sht l)) ∧ Kept (fun _ => False) w w' := by
  have HV := fun w => hideV (rform_any l w hl)
  obtain ⟨s, hs⟩ : ∃ s, s = bq l := ⟨_, rfl⟩
  have hz : s.size = l.length := by rw [hs]; exact bq_size l
  have hz' : (s.size : Int) = (l.length : Int) := by rw [hz]
  have HX : Hid (∀ k (h : k < l.length) (h2 : k < s.size), s[k].toNat = (l.getD k 0).toNat) := hideV (fun k h h2 => by subst hs; rw [getD_at l k h]; rfl)
  rw [← hs] at HV ⊢
  clear hs
  by_cases h3 : 3 ≤ l.length
  · obtain ⟨m, hm⟩ : ∃ m, l.length = m + 3 := ⟨l.length - 3, by omega⟩
    have b2 : m + 2 < s.size := by omega
    have c2 := HX.out (m + 2) (by omega) b2
    have hW : wxy l = (l.getD (m + 2) 0 == 119 || (l.getD (m + 2) 0 == 120 || l.getD (m + 2) 0 == 121)) := by
      unfold wxy
      rw [sfx1 l 119 (by omega), sfx1 l 120 (by omega), sfx1 l 121 (by omega), hm, show m + 3 - 1 = m + 2 by omega]
    have hD : sht l = (!wxy l && (!vat l m && vat l (m + 1) && !vat l (m + 2))) := by
      unfold sht
      rw [decide_eq_true h3, Bool.true_and, hm, show m + 3 - 1 = m + 2 by omega, show m + 3 - 2 = m + 1 by omega, show m + 3 - 3 = m by omega]
    have hf : (((bq (fm l)).extract m (l.length)).toList == ([99, 118, 99] : List UInt8)) = (!vat l m && vat l (m + 1) && !vat l (m + 2)) := by
      have e : (bq (fm l)).extract m l.length = bq [vc (vat l m), vc (vat l (m + 1)), vc (vat l (m + 2))] := by
        rw [ext_drop (fm l) m _ (fm_len l).symm]
        congr 1
        have hv : ∀ k, k < l.length → (fm l)[k]? = some (vc (vat l k)) := fun k hk => by
          unfold fm vat
          rw [List.getElem?_map, List.getElem?_eq_getElem (by rw [vwl_len]; exact hk), List.getD_eq_getElem?_getD, List.getElem?_eq_getElem (by rw [vwl_len]; exact hk), Option.getD_some]; rfl
        apply List.ext_getElem?
        intro i
        rw [List.getElem?_drop]
        match i with
        | 0 => exact hv m (by omega)
        | 1 => exact hv (m + 1) (by omega)
        | 2 => exact hv (m + 2) (by omega)
        | i + 3 => rw [List.getElem?_eq_none (by rw [fm_len]; omega)]; rfl
      rw [e, bq_list]
      cases vat l m <;> cases vat l (m + 1) <;> cases vat l (m + 2) <;> rfl
    have hfz : (bq (fm l)).size = l.length := by rw [bq_size, fm_len]
    have hfz' : ((bq (fm l)).size : Int) = (l.length : Int) := by rw [hfz]
    generalize bq (fm l) = f at *
    have q1 : (((l.getD (m + 2) 0).toNat : Int) == 119) = (l.getD (m + 2) 0 == 119) := beq_u8 _ 119
    have q2 : (((l.getD (m + 2) 0).toNat : Int) == 120) = (l.getD (m + 2) 0 == 120) := beq_u8 _ 120
    have q3 : (((l.getD (m + 2) 0).toNat : Int) == 121) = (l.getD (m + 2) 0 == 121) := beq_u8 _ 121
    rw [hW] at hD
    generalize sht l = D at *
    generalize (!vat l m && vat l (m + 1) && !vat l (m + 2)) = V at *
    generalize (l.getD (m + 2) 0 == 119) = A at *
    generalize (l.getD (m + 2) 0 == 120) = B at *
    generalize (l.getD (m + 2) 0 == 121) = C at *
    generalize l.getD (m + 2) 0 = ch at *
    have l1 : ((m : Int) + 3) - 1 = (m : Int) + 2 := by omega
    have l2 : (m : Int) + 3 - 3 = (m : Int) := by omega
    have l7 : ¬ (m : Int) + 3 < 3 := by omega
    have e2 : (l.length : Int) = (m : Int) + 3 := by omega
    have e3 : m ≤ l.length := by omega
    have l5 : IntKind.i64.wrap (m : Int) = (m : Int) := by rw [IntKind.wrap_i64]; omega
    have l6 : IntKind.i64.wrap ((m : Int) + 2) = (m : Int) + 2 := by rw [IntKind.wrap_i64]; omega
    have l8 : (0 : Int) ≤ (m : Int) + 2 := by omega
    have l9 : ((m : Int) + 2).toNat = m + 2 := by omega
    have l10 : (m : Int) + 2 < (m : Int) + 3 := by omega
    have l11 : ¬ (m : Int) + 3 < (m : Int) := by omega
    clear HX hW hm h3
    cases A <;> cases B <;> cases C
    all_goals
      simp only [Bool.or_true, Bool.or_false, Bool.not_true, Bool.not_false, Bool.true_and, Bool.false_and] at hD
      subst hD
      go_enter Try.func37, Try.ntmps37
      go_wp2_with (go_at_call 49; refine (HV _).out.mono ?_; rintro e W ⟨rfl, K⟩)
      go_ret
      first | exact ⟨rfl, Kept.refl _ _⟩ | exact ⟨rfl, K⟩
  · have hD : sht l = false := by unfold sht; rw [decide_eq_false h3]; rfl
    rw [hD]
    have z1 : (l.length : Int) < 3 := by omega
    clear HX HV
    go_enter Try.func37, Try.ntmps37
    go_wp2
    go_ret
    exact ⟨rfl, Kept.refl _ _⟩
end Go.Proofs.Ytmfdoohnladohaa
