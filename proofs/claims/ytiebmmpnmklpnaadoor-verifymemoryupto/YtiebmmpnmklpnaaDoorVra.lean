import Derived.Test.YtiebmmpnmklpnaaDoorVfs
import Derived.Test.YtiebmmpnmklpnaaDoorMrg2
namespace Go.Proofs.YtiebmmpnmklpnaaDoor
open Go.ChangeShapes Go.WideShapes Go.ChangeAt Go.RowKit

/-! The document's near. -/
set_option maxRecDepth 20000 in
set_option maxHeartbeats 16000000 in
theorem rnear_any (cu : List Lf) (cs os : List Int) (sl : Int) (vA vN vL vD vO : Value) (aC a1 a2 : Option Addr) (cC c1 c2 : Nat) (w : World) (hC : LfAt w aC cu) (h1 : IntsAt w a1 cs) (h2 : IntsAt w a2 os) (hl1 : cs.length ≤ 67108864) (hl2 : os.length ≤ 67108864) (v : Bool) (hv : v = true ↔ NrOk cu ⟨cs, os, sl⟩) :
    Calls Tryd.prog 44 #[.agg #[vA, .slice aC cu.length cC, vN, vL, vD, vO], .agg #[.slice a1 cs.length c1, .slice a2 os.length c2, .int .i64 sl]] w fun e w' => e = .returned (.bool v) ∧ Kept (fun _ => False) w w' := by
  have HV : Hid (v = true ↔ (1 ≤ cs.length ∧ cs.length = os.length ∧ 0 ≤ sl ∧ sl < 2147483647) ∧ ∀ k, k < cs.length → QnOk cu ⟨cs, os, sl⟩ k) := hideI (by rw [hv, nr_q])
  obtain ⟨nC, hnC⟩ : ∃ nC, nC = cu.length := ⟨_, rfl⟩
  obtain ⟨cl, hcl⟩ : ∃ cl, cl = cs.length := ⟨_, rfl⟩
  obtain ⟨ol, hol⟩ : ∃ ol, ol = os.length := ⟨_, rfl⟩
  have HNC := hideI hnC
  have HCL := hideI hcl
  have HOL := hideI hol
  rw [← hnC, ← hcl, ← hol]
  rw [← hcl, ← hol] at HV
  rw [← hcl] at hl1
  rw [← hol] at hl2
  have KA := Kept.alloc w (.cells #[vA, .slice aC nC cC, vN, vL, vD, vO] 27)
  have KB := Kept.alloc (w.alloc (.cells #[vA, .slice aC nC cC, vN, vL, vD, vO] 27)) (.cells #[.slice a1 cl c1, .slice a2 ol c2, .int .i64 sl] 51)
  have z1 : (w.alloc (.cells #[vA, .slice aC nC cC, vN, vL, vD, vO] 27)).heap.size = w.heap.size + 1 := by simp
  have hbx := KB.heap (heap_alloc_new w (.cells #[vA, .slice aC nC cC, vN, vL, vD, vO] 27 (0, 0))) (fun f => f)
  have hbn := heap_alloc_new (w.alloc (.cells #[vA, .slice aC nC cC, vN, vL, vD, vO] 27)) (.cells #[.slice a1 cl c1, .slice a2 ol c2, .int .i64 sl] 51 (0, 0))
  rw [z1] at hbn
  have HBX := hideI hbx
  have HBN := hideI hbn
  have HKA := hideI (KA.trans KB (fun _ f => f.elim))
  have HC := hideI (hC.kept HKA.out)
  have H1 := hideI (h1.keptI HKA.out)
  have H2 := hideI (h2.keptI HKA.out)
  clear KA KB z1 hbx hbn hC h1 h2 hv hnC hcl hol
  obtain ⟨V, hV⟩ : ∃ V, V = (w.alloc (.cells #[vA, .slice aC nC cC, vN, vL, vD, vO] 27)).alloc (.cells #[.slice a1 cl c1, .slice a2 ol c2, .int .i64 sl] 51) := ⟨_, rfl⟩
  rw [← hV] at HBX HBN HKA HC H1 H2
  by_cases g1 : 1 ≤ cl
  · have g1i : ¬ (cl : Int) = 0 := by omega
    have g1b : ((cl : Int) == 0) = false := by rw [beq_eq_false_iff_ne]; exact g1i
    by_cases g2 : cl = ol
    · have g2b : ((cl : Int) != (ol : Int)) = false := by rw [g2]; simp
      by_cases g3 : 0 ≤ sl
      · have g3i : ¬ sl < 0 := by omega
        by_cases g4 : sl < 2147483647
        · have g4i : ¬ sl > 2147483646 := by omega
          have HV2 : Hid (v = true ↔ ∀ k, k < cl → QnOk cu ⟨cs, os, sl⟩ k) := hideI (by rw [HV.out]; exact ⟨fun e => e.2, fun e => ⟨⟨g1, g2, g3, g4⟩, e⟩⟩)
          subst g2
          subst hV
          clear HV
          go_enter Tryd.func44, Tryd.ntmps44
          go_wp2
          generalize hV : (w.alloc (.cells #[vA, .slice aC nC cC, vN, vL, vD, vO] 27)).alloc (.cells #[.slice a1 cl c1, .slice a2 cl c2, .int .i64 sl] 51) = V at *
          clear hV g1i g1b g2b g3i g4i
          go_loopw [5] (fun v5 wr => ∃ k : Nat, k ≤ cl ∧ v5 = .int .i64 k ∧ Hid (∀ i, i < k → QnOk cu ⟨cs, os, sl⟩ i) ∧ Hid (Kept (fun _ => False) V wr)) (fun v5 _ => cl - (intOf v5).toNat)
          case atStart => exact ⟨0, by omega, rfl, hideI (fun i h => by omega), hideI (Kept.refl _ _)⟩
          case round =>
            obtain ⟨k, hk, rfl, HA, HK⟩ := hrel
            obtain ⟨-, y1, -, -, -, -⟩ := box6 (HK.out.heap HBX.out (fun f => f))
            obtain ⟨q0, q1, q2⟩ := bin3 (HK.out.heap HBN.out (fun f => f))
            by_cases hlt : k < cl
            · have hkl : k < cs.length := by rw [← HCL.out]; exact hlt
              have hkl2 : k < os.length := by rw [← HOL.out]; exact hlt
              have hki : (k : Int) < (cl : Int) := by omega
              have hk0 : (0 : Int) < (cl : Int) := by omega
              obtain ⟨b1, o1, e1, d1⟩ := H1.out.get hkl
              obtain ⟨b1', o1', e1', d0⟩ := H1.out.get (k := 0) (by omega)
              obtain ⟨b2, o2, e2, d2⟩ := H2.out.get hkl2
              rw [e1] at e1'
              cases e1'
              have d1 := HK.out.cell d1 (fun f => f)
              have d0 := HK.out.cell d0 (fun f => f)
              have d2 := HK.out.cell d2 (fun f => f)
              have HS : Hid ((((0 : Int) ≤ cs[k]?.getD 0 ∧ cs[k]?.getD 0 < (nC : Int) ∧ fdA cu (cs[k]?.getD 0) = fdA cu (cs[0]?.getD 0)) ∧ OsOk (os[k]?.getD 0)) → ∀ i, i < k + 1 → QnOk cu ⟨cs, os, sl⟩ i) := hideI (fun e => lt_succ.2 ⟨HA.out, by rw [HNC.out] at e; exact e⟩)
              have HB : Hid (¬ (((0 : Int) ≤ cs[k]?.getD 0 ∧ cs[k]?.getD 0 < (nC : Int) ∧ fdA cu (cs[k]?.getD 0) = fdA cu (cs[0]?.getD 0)) ∧ OsOk (os[k]?.getD 0)) → v = false) := hideI (fun e => isB_f HV2.out (fun f => e (by rw [HNC.out]; exact f k hlt)))
              have HZ : Hid ((0 : Int) ≤ cs[k]?.getD 0 ∧ cs[k]?.getD 0 < (nC : Int) → (0 : Int) ≤ cs[0]?.getD 0 ∧ cs[0]?.getD 0 < (nC : Int)) := hideI (fun e => by
                by_cases hk0 : k = 0
                · subst hk0; exact e
                · have q := (HA.out 0 (by omega)).1
                  rw [HNC.out]
                  exact ⟨q.1, q.2.1⟩)
              rw [Nat.add_zero] at d0
              obtain ⟨T, hT⟩ : ∃ T : Prop, T = ∀ i, i < k + 1 → QnOk cu ⟨cs, os, sl⟩ i := ⟨_, rfl⟩
              rw [← hT] at HS
              have HTT := hideI hT
              clear hT
              generalize cs[k]?.getD 0 = c at *
              generalize cs[0]?.getD 0 = c0 at *
              generalize os[k]?.getD 0 = o at *
              subst e1 e2
              clear HA hkl hkl2
              by_cases h1 : 0 ≤ c
              · have h1i : ¬ c < 0 := by omega
                by_cases h2 : c < (nC : Int)
                · have h2i : ¬ c ≥ (nC : Int) := by omega
                  by_cases h3 : 0 ≤ o
                  · have h3i : ¬ o < 0 := by omega
                    by_cases h4 : o < 2147483647
                    · have h4i : ¬ o > 2147483646 := by omega
                      obtain ⟨z1, z2⟩ := HZ.out ⟨h1, h2⟩
                      obtain ⟨fi, rfl⟩ : ∃ fi : Nat, c = fi := ⟨c.toNat, by omega⟩
                      obtain ⟨f0, rfl⟩ : ∃ f0 : Nat, c0 = f0 := ⟨c0.toNat, by omega⟩
                      obtain ⟨cb, co, ec, e1⟩ := HC.out.fd (i := fi) (by rw [← HNC.out]; omega)
                      obtain ⟨cb', co', ec', e2⟩ := HC.out.fd (i := f0) (by rw [← HNC.out]; omega)
                      rw [ec] at ec'
                      cases ec'
                      have e1 := HK.out.cell e1 (fun f => f)
                      have e2 := HK.out.cell e2 (fun f => f)
                      subst ec
                      by_cases hff : fdA cu fi = fdA cu f0
                      · have HR := hideI (HS.out ⟨⟨h1, h2, hff⟩, h3, h4⟩)
                        rw [hff] at e1
                        generalize fdA cu f0 = ff at *
                        have g1 : ((ff : Int) != ff) = false := by simp
                        clear HS HB HZ z1 h1 hff
                        go_wp2
                        go_quiet (fail)
                        go_wp2
                        go_roundw
                        case rel => exact ⟨k + 1, hlt, by go_num, hideI (by rw [← HTT.out]; exact HR.out), hideI (HK.out.trans (Kept.drewN _ _) (fun _ f => f.elim))⟩
                        case measure => simp [intOf]; omega
                      · have hf := HB.out (fun e => hff e.1.2.2)
                        subst hf
                        generalize fdA cu fi = f1 at *
                        generalize fdA cu f0 = f2 at *
                        have g1 : ((f1 : Int) != f2) = true := by rw [bne_iff_ne]; exact hff
                        clear HS HB HZ z1 h1 HV2
                        go_wp2
                        go_quiet (fail)
                        go_wp2
                        go_ret
                        exact ⟨rfl, (HKA.out.trans HK.out (fun _ f => f.elim)).trans (Kept.drewN _ _) (fun _ f => f.elim)⟩
                    · have hf := HB.out (fun e => h4 e.2.2)
                      subst hf
                      have h4i : o > 2147483646 := by omega
                      clear HS HB HZ HV2
                      go_wp2
                      go_ret
                      exact ⟨rfl, HKA.out.trans HK.out (fun _ f => f.elim)⟩
                  · have hf := HB.out (fun e => h3 e.2.1)
                    subst hf
                    have h3i : o < 0 := by omega
                    clear HS HB HZ HV2
                    go_wp2
                    go_ret
                    exact ⟨rfl, HKA.out.trans HK.out (fun _ f => f.elim)⟩
                · have hf := HB.out (fun e => h2 e.1.2.1)
                  subst hf
                  have h2i : c ≥ (nC : Int) := by omega
                  clear HS HB HZ HV2
                  go_wp2
                  go_ret
                  exact ⟨rfl, HKA.out.trans HK.out (fun _ f => f.elim)⟩
              · have hf := HB.out (fun e => h1 e.1.1)
                subst hf
                have h1i : c < 0 := by omega
                clear HS HB HZ HV2
                go_wp2
                go_ret
                exact ⟨rfl, HKA.out.trans HK.out (fun _ f => f.elim)⟩
            · obtain rfl : k = cl := by omega
              have hki : ¬ (k : Int) < (k : Int) := by omega
              have ht := isB_t HV2.out HA.out
              subst ht
              clear HV2
              go_wp2
              go_ret
              exact ⟨rfl, HKA.out.trans HK.out (fun _ f => f.elim)⟩
        · have hf := isB_f HV.out (fun e => g4 e.1.2.2.2)
          have g4i : sl > 2147483646 := by omega
          subst hf
          subst g2
          subst hV
          clear HV
          go_enter Tryd.func44, Tryd.ntmps44
          go_wp2
          go_ret
          exact ⟨rfl, HKA.out⟩
      · have hf := isB_f HV.out (fun e => g3 e.1.2.2.1)
        have g3i : sl < 0 := by omega
        subst hf
        subst g2
        subst hV
        clear HV
        go_enter Tryd.func44, Tryd.ntmps44
        go_wp2
        go_ret
        exact ⟨rfl, HKA.out⟩
    · have hf := isB_f HV.out (fun e => g2 e.1.2.1)
      have g2b : ((cl : Int) != (ol : Int)) = true := by rw [bne_iff_ne]; omega
      subst hf
      subst hV
      clear HV
      go_enter Tryd.func44, Tryd.ntmps44
      go_wp2
      go_ret
      exact ⟨rfl, HKA.out⟩
  · have hf := isB_f HV.out (fun e => g1 e.1.1)
    have g1b : ((cl : Int) == 0) = true := by rw [show cl = 0 by omega]; rfl
    have g1i : (cl : Int) = 0 := by omega
    subst hf
    subst hV
    clear HV
    go_enter Tryd.func44, Tryd.ntmps44
    go_wp2
    go_ret
    exact ⟨rfl, HKA.out⟩
end Go.Proofs.YtiebmmpnmklpnaaDoor
