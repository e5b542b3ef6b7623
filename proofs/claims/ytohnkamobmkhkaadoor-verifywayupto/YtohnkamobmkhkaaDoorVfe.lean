import Derived.Test.YtohnkamobmkhkaaDoorVfd
namespace Go.Proofs.YtohnkamobmkhkaaDoor
open Go.ChangeShapes Go.WideShapes Go.ChangeAt Go.RowKit

set_option maxRecDepth 20000 in
set_option maxHeartbeats 8000000 in
theorem goodNears_any (p : Pg) (aA aC aN aD aO : Option Addr) (cA cC cN cD cO : Nat) (w : World) (hP : PgAt w p aA aC aN aD aO) (hO : p.Ok) (v : Bool) (hv : v = true ↔ ∀ n ∈ p.nr, NrOk p.cu n) :
    Calls Tryd.prog 41 #[.agg #[.slice aA p.av.length cA, .slice aC p.cu.length cC, .slice aN p.nr.length cN, .bool p.al, .slice aD p.dr.length cD, .slice aO p.co.length cO]] w fun e w' => e = .returned (.bool v) ∧ Kept (fun _ => False) w w' := by
  obtain ⟨l1, l2, l3, l4, l5⟩ := hO.len
  have KA := Kept.alloc w (.cells #[.slice aA p.av.length cA, .slice aC p.cu.length cC, .slice aN p.nr.length cN, .bool p.al, .slice aD p.dr.length cD, .slice aO p.co.length cO] 27)
  have HC := hideI (hP.kept KA).cu
  have HN := hideI (hP.kept KA).nr
  have HKA := hideI KA
  have HV := hideI hv
  have HO := hideI hO
  have HA := fun (i n : Int) (W : World) => hideI (among_any i n W)
  have HBX : Hid ((w.alloc (.cells #[.slice aA p.av.length cA, .slice aC p.cu.length cC, .slice aN p.nr.length cN, .bool p.al, .slice aD p.dr.length cD, .slice aO p.co.length cO] 27)).heap[w.heap.size]? = some (.cells #[.slice aA p.av.length cA, .slice aC p.cu.length cC, .slice aN p.nr.length cN, .bool p.al, .slice aD p.dr.length cD, .slice aO p.co.length cO] 27 (0, 0))) := hideI (heap_alloc_new w _)
  clear KA hP hO hv
  obtain ⟨nN, hnN⟩ : ∃ nN, nN = p.nr.length := ⟨_, rfl⟩
  rw [← hnN] at HKA HBX HN HC ⊢
  rw [← hnN] at l4
  have HNN := hideI hnN
  clear hnN l1 l2 l5
  go_enter Tryd.func41, Tryd.ntmps41
  go_wp2
  obtain ⟨V, hV⟩ : ∃ V, V = w.alloc (.cells #[.slice aA p.av.length cA, .slice aC p.cu.length cC, .slice aN nN cN, .bool p.al, .slice aD p.dr.length cD, .slice aO p.co.length cO] 27) := ⟨_, rfl⟩
  rw [← hV] at HKA HN HC HBX ⊢
  clear hV
  go_loopw [8] (fun v8 wr => ∃ (j : Nat), j ≤ nN ∧ v8 = .int .i64 j ∧ Hid (∀ c ∈ p.nr.take j, NrOk p.cu c) ∧ Hid (Kept (fun _ => False) V wr)) (fun v8 _ => nN - (intOf v8).toNat)
  case atStart => exact ⟨0, by omega, rfl, hideI (by simp), hideI (Kept.refl _ _)⟩
  case round =>
    obtain ⟨j, hj, rfl, HAl, HK⟩ := hrel
    by_cases hlt : j < nN
    · have hjl : j < p.nr.length := by rw [← HNN.out]; exact hlt
      have hji : (j : Int) < (nN : Int) := by omega
      obtain ⟨fb, fo, ea, hc⟩ := HN.out (by intro e; rw [e] at hjl; simp at hjl)
      obtain ⟨a1, c1, a2, c2, x0, x1, x2, i1, i2⟩ := hc j hjl
      subst ea
      have x0 := HK.out.cell x0 (fun f => f)
      have x1 := HK.out.cell x1 (fun f => f)
      have x2 := HK.out.cell x2 (fun f => f)
      have HS : Hid (NrOk p.cu p.nr[j] → ∀ c ∈ p.nr.take (j + 1), NrOk p.cu c) := hideI (fun e => all_snoc hjl HAl.out e)
      have HB : Hid (¬ NrOk p.cu p.nr[j] → v = false) := hideI (fun e => isB_f HV.out (fun f => e (f _ (List.getElem_mem hjl))))
      have hnl := HO.out.nlen (List.getElem_mem hjl)
      generalize p.nr[j] = nn at *
      obtain ⟨cs, os, sl⟩ := nn
      simp only at x0 x1 x2 i1 i2 hnl
      have HKx := hideI (HK.out.trans (Kept.alloc wr (.cells #[.slice a1 cs.length c1, .slice a2 os.length c2, .int .i64 sl] 65)) (fun _ f => f.elim))
      obtain ⟨-, y1, -, -, -, -⟩ := box6 (HKx.out.heap HBX.out (fun f => f))
      have HAx := fun W => (HA sl 2147483647 W)
      obtain ⟨b1, hb1⟩ := asB (∀ i ∈ cs, CsOk p.cu (cs[0]?.getD 0) i)
      obtain ⟨b2, hb2⟩ := asB (∀ o ∈ os, OsOk o)
      have HCa := hideI (ofOne_any p.cu cs aC a1 cC c1 _ (HC.out.kept HKx.out) (i1.keptI HKx.out) hnl.1 b1 hb1)
      have HI2 := hideI (i2.keptI HKx.out)
      have HOa := fun (W : World) (K : Kept (fun _ => False) (wr.alloc (.cells #[.slice a1 cs.length c1, .slice a2 os.length c2, .int .i64 sl] 65)) W) => hideI (goodOffs_any os a2 c2 W (HI2.out.keptI K) (by omega) b2 hb2)
      have HD : Hid (NrOk p.cu ⟨cs, os, sl⟩ ↔ 1 ≤ cs.length ∧ os.length = cs.length ∧ OsOk sl ∧ b1 = true ∧ b2 = true) := hideI (by rw [hb1, hb2]; exact Iff.rfl)
      clear hc i1 i2 HA hb1 hb2
      obtain ⟨n1, hn1⟩ : ∃ n1, n1 = cs.length := ⟨_, rfl⟩
      obtain ⟨n2, hn2⟩ : ∃ n2, n2 = os.length := ⟨_, rfl⟩
      rw [← hn1, ← hn2] at HD HKx HOa HCa y1 hnl
      rw [← hn1] at x0
      rw [← hn2] at x1
      clear hn1 hn2
      by_cases h1 : 1 ≤ n1
      · have g1 : ¬ (n1 : Int) = 0 := by omega
        have g1' : ((n1 : Int) == 0) = false := by rw [beq_eq_false_iff_ne]; exact g1
        by_cases h2 : n2 = n1
        · have g2 : ((n2 : Int) != (n1 : Int)) = false := by rw [h2]; simp
          have g2' : ((n2 : Int) == (n1 : Int)) = true := by rw [h2]; simp
          cases hb : amB sl 2147483647 with
          | true =>
            rw [hb] at HAx
            cases b1 with
            | true =>
              cases b2 with
              | true =>
                have HS2 := hideI (HS.out (HD.out.2 ⟨h1, h2, amB_iff.1 hb, rfl, rfl⟩))
                clear hb HS HB HAl HD h2
                go_wp2_with (first
                  | (go_at_call 59; refine (HAx _).out.mono ?_; rintro e W ⟨rfl, rfl⟩; clear HAx)
                  | (go_at_call 60; refine HCa.out.mono ?_; clear HCa; rintro e W1 ⟨rfl, K1⟩; have HOb := HOa W1 K1; have HK1 := hideI (HKx.out.trans K1 (fun _ f => f.elim)); have hbx := K1.cell (p := ⟨wr.heap.size, 1, none⟩) (v := .slice a2 n2 c2) (by rw [World.cell?_alloc_new]; rfl) (fun f => f); clear K1 HOa)
                  | (go_at_call 61; refine HOb.out.mono ?_; clear HOb; rintro e W2 ⟨rfl, rfl⟩))
                go_roundw
                case rel => exact ⟨j + 1, hlt, by go_num, HS2, HK1⟩
                case measure => simp [intOf]; omega
              | false =>
                have hf := HB.out (fun e => by have := (HD.out.1 e).2.2.2.2; cases this)
                subst hf
                clear hb HS HB HAl HD HV h2
                go_wp2_with (first
                  | (go_at_call 59; refine (HAx _).out.mono ?_; rintro e W ⟨rfl, rfl⟩; clear HAx)
                  | (go_at_call 60; refine HCa.out.mono ?_; clear HCa; rintro e W1 ⟨rfl, K1⟩; have HOb := HOa W1 K1; have HK1 := hideI (HKx.out.trans K1 (fun _ f => f.elim)); have hbx := K1.cell (p := ⟨wr.heap.size, 1, none⟩) (v := .slice a2 n2 c2) (by rw [World.cell?_alloc_new]; rfl) (fun f => f); clear K1 HOa)
                  | (go_at_call 61; refine HOb.out.mono ?_; clear HOb; rintro e W2 ⟨rfl, rfl⟩))
                go_ret
                exact ⟨rfl, HKA.out.trans HK1.out (fun _ f => f.elim)⟩
            | false =>
              have hf := HB.out (fun e => by have := (HD.out.1 e).2.2.2.1; cases this)
              subst hf
              clear hb HS HB HAl HD HV h2 HOa
              go_wp2_with (first
                | (go_at_call 59; refine (HAx _).out.mono ?_; rintro e W ⟨rfl, rfl⟩; clear HAx)
                | (go_at_call 60; refine HCa.out.mono ?_; clear HCa; rintro e W1 ⟨rfl, K1⟩; have HK1 := hideI (HKx.out.trans K1 (fun _ f => f.elim)); clear K1))
              go_ret
              exact ⟨rfl, HKA.out.trans HK1.out (fun _ f => f.elim)⟩
          | false =>
            rw [hb] at HAx
            have hf := HB.out (fun e => by rw [amB_iff.2 (HD.out.1 e).2.2.1] at hb; cases hb)
            subst hf
            clear hb HS HB HAl HD HV h2 HOa HCa
            go_wp2_with (go_at_call 59; refine (HAx _).out.mono ?_; rintro e W ⟨rfl, rfl⟩; clear HAx)
            go_ret
            exact ⟨rfl, HKA.out.trans HKx.out (fun _ f => f.elim)⟩
        · have hf := HB.out (fun e => h2 (HD.out.1 e).2.1)
          subst hf
          have g2 : ((n2 : Int) != (n1 : Int)) = true := by rw [bne_iff_ne]; omega
          have g2' : ((n2 : Int) == (n1 : Int)) = false := by rw [beq_eq_false_iff_ne]; omega
          clear HS HB HAl HD HV h2 HOa HCa HAx
          go_wp2
          go_ret
          exact ⟨rfl, HKA.out.trans HKx.out (fun _ f => f.elim)⟩
      · have hf := HB.out (fun e => h1 (HD.out.1 e).1)
        subst hf
        have g1 : (n1 : Int) = 0 := by omega
        have g1' : ((n1 : Int) == 0) = true := by rw [g1]; rfl
        clear HS HB HAl HD HV HOa HCa HAx
        go_wp2
        go_ret
        exact ⟨rfl, HKA.out.trans HKx.out (fun _ f => f.elim)⟩
    · have hji : ¬ (j : Int) < (nN : Int) := by omega
      have ht := isB_t HV.out (by have e := HAl.out; rw [List.take_of_length_le (by rw [← HNN.out]; omega)] at e; exact e)
      subst ht
      clear HV
      go_wp2
      go_ret
      exact ⟨rfl, HKA.out.trans HK.out (fun _ f => f.elim)⟩
end Go.Proofs.YtohnkamobmkhkaaDoor
