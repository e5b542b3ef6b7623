import Derived.Test.YteeimpjjmdpbgaaDoorRba
namespace Go.Proofs.YteeimpjjmdpbgaaDoor
open Go.ChangeShapes Go.WideShapes Go.ChangeAt Go.RowKit

theorem genB_eq (k : ByteArray) (d t p s : Int) : genB ⟨k, d, t, p, s⟩ = ((decide (1 ≤ k.size) && decide (k.size ≤ 65)) && ((nin d && nin t) && (nin p && nin s))) := rfl
/-- What Check tells. -/
def ckPost (l : List En) (e : Ending) : Prop := (l.all genB = false ∧ e = .returned (.int .i64 3)) ∨ (l.all genB = true ∧ ¬ Rises l ∧ e = .returned (.int .i64 4)) ∨ (l.all genB = true ∧ Rises l ∧ e = .returned (.int .i64 0))
theorem ck3 {l : List En} {e : Ending} (h : l.all genB = false) (he : e = .returned (.int .i64 3)) : ckPost l e := .inl ⟨h, he⟩
theorem ck4 {l : List En} {e : Ending} (h : l.all genB = true) (h2 : ¬ Rises l) (he : e = .returned (.int .i64 4)) : ckPost l e := .inr (.inl ⟨h, h2, he⟩)
theorem ck0 {l : List En} {e : Ending} (h : l.all genB = true) (h2 : Rises l) (he : e = .returned (.int .i64 0)) : ckPost l e := .inr (.inr ⟨h, h2, he⟩)
set_option maxRecDepth 20000 in
set_option maxHeartbeats 8000000 in
theorem rcheck_any (l : List En) (a : Option Addr) (c : Nat) (w : World) (h : EsAt w a l) (hl : l.length ≤ 1073741824) : Calls Tryd.prog 14 #[.slice a l.length c] w fun e w' => ckPost l e ∧ Kept (fun _ => False) w w' := by
  have HE := hideQ h
  obtain ⟨nl, hnl⟩ : ∃ nl, nl = l.length := ⟨_, rfl⟩
  rw [← hnl] at hl ⊢
  have HNL := hideQ hnl
  clear h hnl
  go_enter Tryd.func14, Tryd.ntmps14
  go_wp2_with fail
  go_loopw [3] (fun v3 wr => ∃ (j : Nat), j ≤ nl ∧ v3 = .int .i64 j ∧ Hid (Kept (fun _ => False) w wr) ∧ Hid (∀ i (hi : i < l.length), i < j → genB l[i] = true)) (fun v3 _ => nl - (intOf v3).toNat)
  case atStart => exact ⟨0, by omega, rfl, Kept.refl _ _, hideQ (fun i _ hi => by omega)⟩
  case round =>
    obtain ⟨j, hj, rfl, HK, HF⟩ := hrel
    by_cases hlt : j < nl
    · have hjj : (j : Int) < (nl : Int) := by omega
      have hjl : j < l.length := by rw [← HNL.out]; exact hlt
      obtain ⟨b, off, rfl, hc⟩ := HE.out.kept HK.out (by intro e; rw [e] at hjl; simp at hjl)
      obtain ⟨x0, x1, x2, x3, x4⟩ := hc j hjl
      have HNo : Hid (genB l[j] = false → l.all genB = false) := hideQ (fun h => all_no hjl h)
      have HYes : Hid (genB l[j] = true → ∀ i (hi : i < l.length), i < j + 1 → genB l[i] = true) := hideQ (fun h i hi h2 => by
        by_cases e : i = j
        · subst e; exact h
        · exact HF.out i hi (by omega))
      generalize l[j] = en at *
      obtain ⟨k, d, t, p, s⟩ := en
      simp only at x0 x1 x2 x3 x4
      rw [genB_eq] at HNo HYes
      clear hc HF hjl
      have KA := hideQ (HK.out.trans (Kept.alloc wr (.cells #[.string k, .int .i64 d, .int .i64 t, .int .i64 p, .int .i64 s] 62)) (fun _ f => f.elim))
      have CD := fun w => hideQ (rnumber_any d w)
      have CT := fun w => hideQ (rnumber_any t w)
      have CP := fun w => hideQ (rnumber_any p w)
      have CS := fun w => hideQ (rnumber_any s w)
      generalize nin d = B1 at *
      generalize nin t = B2 at *
      generalize nin p = B3 at *
      generalize nin s = B4 at *
      by_cases hk1 : (k.size : Int) < 1
      · have hk3 : decide ((k.size : Int) < 1) = true := decide_eq_true hk1
        have HQ := hideQ (HNo.out (by rw [decide_eq_false (by omega : ¬ 1 ≤ k.size)]; rfl))
        clear HNo HYes CD CT CP CS
        go_wp2_with fail
        go_ret
        exact ⟨ck3 HQ.out rfl, KA.out⟩
      · have hk3 : decide ((k.size : Int) < 1) = false := decide_eq_false hk1
        have e1 : decide (1 ≤ k.size) = true := decide_eq_true (by omega)
        by_cases hk2 : (65 : Int) < (k.size : Int)
        · have hk4 : decide ((65 : Int) < (k.size : Int)) = true := decide_eq_true hk2
          have hk5 : decide (65 < k.size) = true := decide_eq_true (by omega)
          have HQ := hideQ (HNo.out (by rw [decide_eq_false (by omega : ¬ k.size ≤ 65), Bool.and_false]; rfl))
          clear HNo HYes CD CT CP CS e1
          go_wp2_with fail
          go_ret
          exact ⟨ck3 HQ.out rfl, KA.out⟩
        · have hk4 : decide ((65 : Int) < (k.size : Int)) = false := decide_eq_false hk2
          have hk5 : decide (65 < k.size) = false := decide_eq_false (by omega)
          have e2 : decide (k.size ≤ 65) = true := decide_eq_true (by omega)
          rw [e1, e2] at HNo HYes
          clear e1 e2
          cases B1 with
          | false =>
            have HQ := hideQ (HNo.out (by simp))
            clear HNo HYes
            go_wp2_with (first
              | (go_at_call 34; refine (CD _).out.mono ?_; rintro e W ⟨rfl, eW⟩; subst eW; clear CD))
            go_ret
            exact ⟨ck3 HQ.out rfl, KA.out⟩
          | true =>
            cases B2 with
            | false =>
              have HQ := hideQ (HNo.out (by simp))
              clear HNo HYes
              go_wp2_with (first
                | (go_at_call 34; refine (CD _).out.mono ?_; rintro e W ⟨rfl, eW⟩; subst eW; clear CD)
                | (go_at_call 34; refine (CT _).out.mono ?_; rintro e W ⟨rfl, eW⟩; subst eW; clear CT))
              go_ret
              exact ⟨ck3 HQ.out rfl, KA.out⟩
            | true =>
              cases B3 with
              | false =>
                have HQ := hideQ (HNo.out (by simp))
                clear HNo HYes
                go_wp2_with (first
                  | (go_at_call 34; refine (CD _).out.mono ?_; rintro e W ⟨rfl, eW⟩; subst eW; clear CD)
                  | (go_at_call 34; refine (CT _).out.mono ?_; rintro e W ⟨rfl, eW⟩; subst eW; clear CT)
                  | (go_at_call 34; refine (CP _).out.mono ?_; rintro e W ⟨rfl, eW⟩; subst eW; clear CP))
                go_ret
                exact ⟨ck3 HQ.out rfl, KA.out⟩
              | true =>
                cases B4 with
                | false =>
                  have HQ := hideQ (HNo.out (by simp))
                  clear HNo HYes
                  go_wp2_with (first
                    | (go_at_call 34; refine (CD _).out.mono ?_; rintro e W ⟨rfl, eW⟩; subst eW; clear CD)
                    | (go_at_call 34; refine (CT _).out.mono ?_; rintro e W ⟨rfl, eW⟩; subst eW; clear CT)
                    | (go_at_call 34; refine (CP _).out.mono ?_; rintro e W ⟨rfl, eW⟩; subst eW; clear CP)
                    | (go_at_call 34; refine (CS _).out.mono ?_; rintro e W ⟨rfl, eW⟩; subst eW; clear CS))
                  go_ret
                  exact ⟨ck3 HQ.out rfl, KA.out⟩
                | true =>
                  have HQ := hideQ (HYes.out rfl)
                  clear HYes HNo
                  go_wp2_with (first
                    | (go_at_call 34; refine (CD _).out.mono ?_; rintro e W ⟨rfl, eW⟩; subst eW; clear CD)
                    | (go_at_call 34; refine (CT _).out.mono ?_; rintro e W ⟨rfl, eW⟩; subst eW; clear CT)
                    | (go_at_call 34; refine (CP _).out.mono ?_; rintro e W ⟨rfl, eW⟩; subst eW; clear CP)
                    | (go_at_call 34; refine (CS _).out.mono ?_; rintro e W ⟨rfl, eW⟩; subst eW; clear CS))
                  go_roundw
                  case rel => exact ⟨j + 1, hlt, by go_num, KA, HQ⟩
                  case measure => simp [intOf]; omega
    · obtain rfl : j = nl := by omega
      have HAll : Hid (l.all genB = true) := hideQ (all_yes (fun i hi => HF.out i hi (by rw [HNL.out]; exact hi)))
      clear HF
      go_wp2_with fail
      go_loopw [5] (fun v5 wr => ∃ (m : Nat), (m ≤ j ∨ m = 1) ∧ 1 ≤ m ∧ v5 = .int .i64 m ∧ Hid (Kept (fun _ => False) w wr) ∧ Hid (∀ i (hi : i + 1 < l.length), i + 1 < m → klt (l[i]).k (l[i + 1]).k = true)) (fun v5 _ => j - (intOf v5).toNat)
      case atStart => exact ⟨1, .inr rfl, by omega, rfl, HK, hideQ (fun i _ hi => by omega)⟩
      case round =>
        obtain ⟨m, hm, hm1, rfl, HK2, HF2⟩ := hrel
        clear HK
        by_cases hlt2 : m < j
        · have hjj : (m : Int) < (j : Int) := by omega
          have hjl : m < l.length := by rw [← HNL.out]; exact hlt2
          obtain ⟨m, rfl⟩ : ∃ m', m = m' + 1 := ⟨m - 1, by omega⟩
          obtain ⟨b, off, rfl, hc⟩ := HE.out.kept HK2.out (by intro e; rw [e] at hjl; simp at hjl)
          obtain ⟨x0, -⟩ := hc (m + 1) hjl
          obtain ⟨y0, -⟩ := hc m (by omega)
          have HNo : Hid (klt (l[m]).k (l[m + 1]).k = false → ¬ Rises l) := hideQ (fun h hr => by rw [hr m hjl] at h; cases h)
          have HYes : Hid (klt (l[m]).k (l[m + 1]).k = true → ∀ i (hi : i + 1 < l.length), i + 1 < m + 1 + 1 → klt (l[i]).k (l[i + 1]).k = true) := hideQ (fun h i hi h2 => by
            by_cases e : i = m
            · subst e; exact h
            · exact HF2.out i hi (by omega))
          generalize (l[m]).k = k0 at *
          generalize (l[m + 1]).k = k1 at *
          have g1 : binOp .geq 9 (.string k0) (.string k1) = pure (.bool !(Op.bytesLess k0.toList k1.toList)) := by simp [binOp, Op.stringOp]
          clear hc HF2 hjl
          cases hk : klt k0 k1 with
          | true =>
            rw [show Op.bytesLess k0.toList k1.toList = true from hk] at g1
            have HQ := hideQ (HYes.out hk)
            clear HNo HYes hk
            go_wp2_with fail
            go_quiet (fail)
            go_wp2
            go_roundw
            case rel => exact ⟨m + 1 + 1, .inl hlt2, by omega, by go_num, hideQ (HK2.out.trans (Kept.drewN _ _) (fun _ f => f.elim)), HQ⟩
            case measure => simp [intOf]; omega
          | false =>
            rw [show Op.bytesLess k0.toList k1.toList = false from hk] at g1
            have HQ := hideQ (HNo.out hk)
            clear HNo HYes hk
            go_wp2_with fail
            go_quiet (fail)
            go_wp2
            go_ret
            exact ⟨ck4 HAll.out HQ.out rfl, HK2.out.trans (Kept.drewN _ _) (fun _ f => f.elim)⟩
        · have HQ : Hid (Rises l) := hideQ (fun i hi => HF2.out i hi (by have := HNL.out; omega))
          go_wp2
          go_ret
          exact ⟨ck0 HAll.out HQ.out rfl, HK2.out⟩
end Go.Proofs.YteeimpjjmdpbgaaDoor
