import Derived.Test.YtiebmmpnmklpnaaDoorVra
import Derived.OrdersHeld
namespace Go.Proofs.YtiebmmpnmklpnaaDoor
open Go.ChangeShapes Go.WideShapes Go.ChangeAt Go.RowKit

theorem takeR {P : Program} {ops : Array Oper} {Q : Exit → Act → World → Prop} {md : Region.Mode} {S : World → Prop} {i d : Nat} {oi : Oper} {v : Value} {fuel : Nat} {listed : Array Bool} {a : Act} {w : World} (hi : ops[i]? = some oi) (hd : oi.dst = some d)
    (hs : Region.noSelect ops = true) (hf : Region.free md ops listed i = true) (hr : (Region.ready md ops listed).contains i = true)
    (hQ : ∀ c a w, Q (.panic c) (a.put (some d) v) w → Q (.panic c) a w) (hy : YieldsIf P ops S oi v a) (hS : S w)
    (h : wpAnyH P md ops Q S fuel (listed.setIfInBounds i true) (a.put (some d) v) w) : wpAnyH P md ops Q S (fuel + 1) listed a w := by
  rw [← hd] at hQ h
  exact wpAnyH_take hi hs hf hr hQ hy hS h
set_option maxRecDepth 20000 in
set_option maxHeartbeats 16000000 in
theorem rtables_any (p : Pg) (aA aC aN aD aO : Option Addr) (cA cC cN cD cO : Nat) (w : World) (hP : PgAt w p aA aC aN aD aO) (hO : p.Ok) (v : Bool) (hv : v = true ↔ TbOk p) :
    Calls Tryd.prog 25 #[.agg #[.slice aA p.av.length cA, .slice aC p.cu.length cC, .slice aN p.nr.length cN, .bool p.al, .slice aD p.dr.length cD, .slice aO p.co.length cO]] w fun e w' => e = .returned (.bool v) ∧ Kept (fun _ => False) w w' := by
  obtain ⟨l1, l2, l3, l4, l5⟩ := hO.len
  have KA := Kept.alloc w (.cells #[.slice aA p.av.length cA, .slice aC p.cu.length cC, .slice aN p.nr.length cN, .bool p.al, .slice aD p.dr.length cD, .slice aO p.co.length cO] 27)
  have HP := hideI (hP.kept KA)
  have HKA := hideI KA
  have HO := hideI hO
  have HBX : Hid ((w.alloc (.cells #[.slice aA p.av.length cA, .slice aC p.cu.length cC, .slice aN p.nr.length cN, .bool p.al, .slice aD p.dr.length cD, .slice aO p.co.length cO] 27)).heap[w.heap.size]? = some (.cells #[.slice aA p.av.length cA, .slice aC p.cu.length cC, .slice aN p.nr.length cN, .bool p.al, .slice aD p.dr.length cD, .slice aO p.co.length cO] 27 (0, 0))) := hideI (heap_alloc_new w _)
  have HV := hideI hv
  clear KA hP hO hv
  obtain ⟨n1, hn1⟩ : ∃ n1, n1 = p.av.length := ⟨_, rfl⟩
  obtain ⟨n2, hn2⟩ : ∃ n2, n2 = p.cu.length := ⟨_, rfl⟩
  obtain ⟨n3, hn3⟩ : ∃ n3, n3 = p.nr.length := ⟨_, rfl⟩
  obtain ⟨n4, hn4⟩ : ∃ n4, n4 = p.dr.length := ⟨_, rfl⟩
  obtain ⟨n5, hn5⟩ : ∃ n5, n5 = p.co.length := ⟨_, rfl⟩
  obtain ⟨al, hal⟩ : ∃ al, al = p.al := ⟨_, rfl⟩
  have HN1 := hideI hn1
  have HN2 := hideI hn2
  have HN3 := hideI hn3
  have HN4 := hideI hn4
  have HAL := hideI hal
  rw [← hn1, ← hn2, ← hn3, ← hn4, ← hn5, ← hal] at HKA HBX HP ⊢
  rw [← hn1] at l1
  rw [← hn2] at l3
  rw [← hn3] at l4
  rw [← hn4] at l2
  clear hn1 hn2 hn3 hn4 hn5 hal l5
  have HB6 := fun (W : World) (K : Kept (fun _ => False) (w.alloc (.cells #[.slice aA n1 cA, .slice aC n2 cC, .slice aN n3 cN, .bool al, .slice aD n4 cD, .slice aO n5 cO] 27)) W) => hideI (box6 (K.heap HBX.out (fun f => f)))
  obtain ⟨z0, z1, z2, z3, z4, z5⟩ := (HB6 _ (Kept.refl _ _)).out
  by_cases ha1 : 1 ≤ n1
  · have ha1i : ¬ (n1 : Int) < 1 := by omega
    by_cases ha2 : n1 ≤ 16
    · have ha2i : ¬ (n1 : Int) > 16 := by omega
      go_enter Tryd.func25, Tryd.ntmps25
      go_wp2
      obtain ⟨V, hV⟩ : ∃ V, V = w.alloc (.cells #[.slice aA n1 cA, .slice aC n2 cC, .slice aN n3 cN, .bool al, .slice aD n4 cD, .slice aO n5 cO] 27) := ⟨_, rfl⟩
      rw [← hV] at HKA HP HBX HB6 ⊢
      clear hV z0 z1 z2 z3 z4 z5 ha1i ha2i
      go_loopw [3] (fun s3 wr => ∃ (j : Nat), j ≤ n1 ∧ s3 = .int .i64 j ∧ Hid (∀ x ∈ p.av.take j, 0 ≤ x) ∧ Hid (Kept (fun _ => False) V wr)) (fun s3 _ => n1 - (intOf s3).toNat)
      case atStart => exact ⟨0, by omega, rfl, hideI (by simp), hideI (Kept.refl _ _)⟩
      case round =>
        obtain ⟨j, hj, rfl, HA, HK⟩ := hrel
        obtain ⟨z0, z1, z2, z3, z4, z5⟩ := (HB6 wr HK.out).out
        by_cases hlt : j < n1
        · as_aux_lemma =>
            have hjl : j < p.av.length := by rw [← HN1.out]; exact hlt
            have hji : (j : Int) < (n1 : Int) := by omega
            obtain ⟨fb, fo, rfl, hc⟩ := HP.out.av.get hjl
            rw [List.getElem?_eq_getElem hjl, Option.getD_some] at hc
            have hc := HK.out.cell hc (fun f => f)
            have HS : Hid (0 ≤ p.av[j] → ∀ x ∈ p.av.take (j + 1), 0 ≤ x) := hideI (fun e => all_snoc hjl HA.out e)
            have HB : Hid (¬ 0 ≤ p.av[j] → v = false) := hideI (fun e => isB_f HV.out (fun f => e (f.1.2.2 _ (List.getElem_mem hjl))))
            generalize p.av[j] = x at *
            by_cases hx : 0 ≤ x
            · have HR := hideI (HS.out hx)
              have hxi : ¬ x < 0 := by omega
              clear HS HB HA
              go_wp2
              go_roundw
              case rel => exact ⟨j + 1, hlt, by go_num, HR, HK⟩
              case measure => simp [intOf]; omega
            · have hf := HB.out hx
              subst hf
              have hxi : x < 0 := by omega
              clear HS HB HA HV
              go_wp2
              go_ret
              exact ⟨rfl, HKA.out.trans HK.out (fun _ f => f.elim)⟩
        · obtain rfl : j = n1 := by omega
          have hji : ¬ (j : Int) < (j : Int) := by omega
          have HAv : Hid (∀ x ∈ p.av, 0 ≤ x) := hideI (by have := HA.out; rw [HN1.out, List.take_length] at this; exact this)
          clear HA
          go_wp2
          clear z0 z1 z2 z3 z4 z5
          go_loopw [4] (fun s4 wr => ∃ (k : Nat), k ≤ n2 ∧ s4 = .int .i64 k ∧ Hid (∀ c ∈ p.cu.take k, CuOk j c) ∧ Hid (Kept (fun _ => False) V wr)) (fun s4 _ => n2 - (intOf s4).toNat)
          case atStart => exact ⟨0, by omega, rfl, hideI (by simp), HK⟩
          case round =>
            obtain ⟨k, hk, rfl, HA, HKy⟩ := hrel
            obtain ⟨z0, z1, z2, z3, z4, z5⟩ := (HB6 wr HKy.out).out
            by_cases hlt2 : k < n2
            · as_aux_lemma =>
                have hkl : k < p.cu.length := by rw [← HN2.out]; exact hlt2
                have hki : (k : Int) < (n2 : Int) := by omega
                obtain ⟨fb, fo, ea, hc⟩ := HP.out.cu (by intro e; rw [e] at hkl; simp at hkl)
                obtain ⟨x0, x1⟩ := hc k hkl
                subst ea
                have x0 := HKy.out.cell x0 (fun f => f)
                have x1 := HKy.out.cell x1 (fun f => f)
                have HS : Hid (CuOk j p.cu[k] → ∀ c ∈ p.cu.take (k + 1), CuOk j c) := hideI (fun e => all_snoc hkl HA.out e)
                have HB : Hid (¬ CuOk j p.cu[k] → v = false) := hideI (fun e => isB_f HV.out (fun f => e (by have := f.2.1 _ (List.getElem_mem hkl); rw [← HN1.out] at this; exact this)))
                generalize p.cu[k] = c at *
                obtain ⟨f, t⟩ := c
                simp only at x0 x1
                have HKx := hideI (HKy.out.trans (Kept.alloc _ (.cells #[.int .i64 f, .string t] 49)) (fun _ f => f.elim))
                obtain ⟨y0, y1, y2, y3, y4, y5⟩ := (HB6 _ HKx.out).out
                clear hc HA
                by_cases hx : 0 ≤ f
                · have hxi : ¬ f < 0 := by omega
                  by_cases hx2 : f < (j : Int)
                  · have hx2i : ¬ f ≥ (j : Int) := by omega
                    by_cases hx3 : t.size ≤ 64
                    · have HR := hideI (HS.out ⟨hx, hx2, hx3⟩)
                      have hx3i : ¬ ((t.size : Nat) : Int) > 64 := by omega
                      clear HS HB
                      go_wp2
                      go_roundw
                      case rel => exact ⟨k + 1, hlt2, by go_num, HR, HKx⟩
                      case measure => simp [intOf]; omega
                    · have hf := HB.out (fun e => hx3 e.2.2)
                      subst hf
                      have hx3i : ((t.size : Nat) : Int) > 64 := by omega
                      clear HS HB HV
                      go_wp2
                      go_ret
                      exact ⟨rfl, HKA.out.trans HKx.out (fun _ f => f.elim)⟩
                  · have hf := HB.out (fun e => hx2 e.2.1)
                    subst hf
                    have hx2i : f ≥ (j : Int) := by omega
                    clear HS HB HV
                    go_wp2
                    go_ret
                    exact ⟨rfl, HKA.out.trans HKx.out (fun _ f => f.elim)⟩
                · have hf := HB.out (fun e => hx e.1)
                  subst hf
                  have hxi : f < 0 := by omega
                  clear HS HB HV
                  go_wp2
                  go_ret
                  exact ⟨rfl, HKA.out.trans HKx.out (fun _ f => f.elim)⟩
            · obtain rfl : k = n2 := by omega
              have hki : ¬ (k : Int) < (k : Int) := by omega
              have HCu : Hid (∀ c ∈ p.cu, CuOk j c) := hideI (by have := HA.out; rw [HN2.out, List.take_length] at this; exact this)
              clear HA HK
              go_wp2
              clear z0 z1 z2 z3 z4 z5
              go_loopw [6] (fun s6 wr => ∃ (m : Nat), m ≤ n3 ∧ s6 = .int .i64 m ∧ Hid (∀ c ∈ p.nr.take m, NrOk p.cu c) ∧ Hid (Kept (fun _ => False) V wr)) (fun s6 _ => n3 - (intOf s6).toNat)
              case atStart => exact ⟨0, by omega, rfl, hideI (by simp), HKy⟩
              case round =>
                obtain ⟨m, hm, rfl, HA, HKz⟩ := hrel
                obtain ⟨z0, z1, z2, z3, z4, z5⟩ := (HB6 wr HKz.out).out
                by_cases hlt3 : m < n3
                · as_aux_lemma =>
                    have hml : m < p.nr.length := by rw [← HN3.out]; exact hlt3
                    have hmi : (m : Int) < (n3 : Int) := by omega
                    have hm0 : (0 : Int) ≤ (m : Int) := by omega
                    obtain ⟨fb, fo, ea, hc⟩ := HP.out.nr (by intro e; rw [e] at hml; simp at hml)
                    obtain ⟨a1, c1, a2, c2, x0, x1, x2, i1, i2⟩ := hc m hml
                    subst ea
                    have x0 := HKz.out.cell x0 (fun f => f)
                    have x1 := HKz.out.cell x1 (fun f => f)
                    have x2 := HKz.out.cell x2 (fun f => f)
                    obtain ⟨bb, hbb⟩ := asB (NrOk p.cu p.nr[m])
                    have HS : Hid (bb = true → ∀ c ∈ p.nr.take (m + 1), NrOk p.cu c) := hideI (fun e => all_snoc hml HA.out (hbb.1 e))
                    have HB : Hid (bb = false → v = false) := hideI (fun e => isB_f HV.out (fun f => (asB_false hbb).1 e (f.2.2.1 _ (List.getElem_mem hml))))
                    have hnl := HO.out.nlen (List.getElem_mem hml)
                    generalize p.nr[m] = nn at *
                    obtain ⟨cs, os, sl⟩ := nn
                    simp only at x0 x1 x2 i1 i2 hnl
                    have HNE := fun (W : World) (K : Kept (fun _ => False) wr W) => hideI (rnear_any p.cu cs os sl (.slice aA j cA) (.slice (some ⟨fb, fo, none⟩) n3 cN) (.bool al) (.slice aD n4 cD) (.slice aO n5 cO) aC a1 a2 cC c1 c2 W (HP.out.cu.kept (HKz.out.trans K (fun _ f => f.elim))) (i1.keptI (HKz.out.trans K (fun _ f => f.elim))) (i2.keptI (HKz.out.trans K (fun _ f => f.elim))) hnl.1 hnl.2 bb hbb)
                    rw [← HN2.out] at HNE
                    obtain ⟨cl, hcl⟩ : ∃ cl, cl = cs.length := ⟨_, rfl⟩
                    obtain ⟨ol, hol⟩ : ∃ ol, ol = os.length := ⟨_, rfl⟩
                    rw [← hcl, ← hol] at HNE
                    rw [← hcl] at x0
                    rw [← hol] at x1
                    clear hc HA hbb hnl hcl hol i1 i2
                    go_wp2_with fail
                    refine wp_region_held (S := fun W => Kept (fun _ => False) wr W) (by kernel_rfl) ?_
                    change wpAnyH _ _ _ _ _ _ _ _ (World.drew _)
                    have hS0 := Kept.drew wr
                    refine takeR (i := 0) (d := 67) (v := .agg #[.slice aA j cA, .slice aC k cC, .slice (some ⟨fb, fo, none⟩) n3 cN, .bool al, .slice aD n4 cD, .slice aO n5 cO]) rfl rfl (by kernel_rfl) (by kernel_rfl) (by kernel_rfl) (fun _ _ _ h => h) (Or.inl ⟨by rfl, fun W hW => ?_⟩) hS0 ?_
                    · (have q := (HB6 W (HKz.out.trans hW (fun _ f => f.elim))).out; obtain ⟨w0, w1, w2, w3, w4, w5⟩ := q; go_simp)
                    simp only [Act.put, List.setIfInBounds_toArray, List.set_cons_zero, List.set_cons_succ]
                    refine takeR (i := 1) (d := 68) (v := .pointer (some ⟨w.heap.size, 2, none⟩)) rfl rfl (by kernel_rfl) (by kernel_rfl) (by kernel_rfl) (fun _ _ _ h => h) (Or.inl ⟨by rfl, fun W hW => ?_⟩) hS0 ?_
                    · (go_simp)
                    simp only [Act.put, List.setIfInBounds_toArray, List.set_cons_zero, List.set_cons_succ]
                    refine takeR (i := 2) (d := 69) (v := .slice (some ⟨fb, fo, none⟩) n3 cN) rfl rfl (by kernel_rfl) (by kernel_rfl) (by kernel_rfl) (fun _ _ _ h => h) (Or.inl ⟨by rfl, fun W hW => ?_⟩) hS0 ?_
                    · (have q := (HB6 W (HKz.out.trans hW (fun _ f => f.elim))).out; obtain ⟨w0, w1, w2, w3, w4, w5⟩ := q; go_simp)
                    simp only [Act.put, List.setIfInBounds_toArray, List.set_cons_zero, List.set_cons_succ]
                    refine takeR (i := 3) (d := 70) (v := .int .i64 (m : Int)) rfl rfl (by kernel_rfl) (by kernel_rfl) (by kernel_rfl) (fun _ _ _ h => h) (Or.inl ⟨by rfl, fun W hW => ?_⟩) hS0 ?_
                    · (go_simp)
                    simp only [Act.put, List.setIfInBounds_toArray, List.set_cons_zero, List.set_cons_succ]
                    refine takeR (i := 4) (d := 71) (v := .pointer (some ⟨fb, fo + m * 3, none⟩)) rfl rfl (by kernel_rfl) (by kernel_rfl) (by kernel_rfl) (fun _ _ _ h => h) (Or.inl ⟨by rfl, fun W hW => ?_⟩) hS0 ?_
                    · (go_simp)
                    simp only [Act.put, List.setIfInBounds_toArray, List.set_cons_zero, List.set_cons_succ]
                    refine takeR (i := 5) (d := 72) (v := .agg #[.slice a1 cl c1, .slice a2 ol c2, .int .i64 sl]) rfl rfl (by kernel_rfl) (by kernel_rfl) (by kernel_rfl) (fun _ _ _ h => h) (Or.inl ⟨by rfl, fun W hW => ?_⟩) hS0 ?_
                    · (have q0 := hW.cell x0 (fun f => f); have q1 := hW.cell x1 (fun f => f); have q2 := hW.cell x2 (fun f => f); go_simp)
                    simp only [Act.put, List.setIfInBounds_toArray, List.set_cons_zero, List.set_cons_succ]
                    refine wpAnyH_all (rs := [6]) (by kernel_rfl) (by simp) ?_
                    intro jj hjj
                    obtain rfl : jj = 6 := by simpa using hjj
                    unfold wpOp
                    go_simp
                    first | refine (HNE _ hS0).out.mono ?_ | refine Or.inl ((HNE _ hS0).out.mono ?_)
                    clear HNE
                    rintro e W8 ⟨rfl, K8⟩
                    have K9 := hS0.trans K8 (fun _ f => f.elim)
                    clear K8
                    refine ⟨K9, ?_⟩
                    refine takeR (i := 7) (d := 74) (v := .bool (!bb)) rfl rfl (by kernel_rfl) (by kernel_rfl) (by kernel_rfl) (fun _ _ _ h => h) (Or.inl ⟨by rfl, fun W hW => ?_⟩) K9 ?_
                    · (cases bb <;> go_simp)
                    simp only [Act.put, List.setIfInBounds_toArray, List.set_cons_zero, List.set_cons_succ]
                    refine wpAnyH_done (by kernel_rfl) ?_ _
                    have HK9 := hideI (HKz.out.trans K9 (fun _ f => f.elim))
                    clear K9 hS0
                    cases bb with
                    | true =>
                      have HR := hideI (HS.out rfl)
                      clear HS HB
                      go_wp2
                      go_roundw
                      case rel => exact ⟨m + 1, hlt3, by go_num, HR, HK9⟩
                      case measure => simp [intOf]; omega
                    | false =>
                      have hf := HB.out rfl
                      subst hf
                      clear HS HB HV
                      go_wp2
                      go_ret
                      exact ⟨rfl, HKA.out.trans HK9.out (fun _ f => f.elim)⟩
                · obtain rfl : m = n3 := by omega
                  have hmi : ¬ (m : Int) < (m : Int) := by omega
                  have HNr : Hid (∀ c ∈ p.nr, NrOk p.cu c) := hideI (by have := HA.out; rw [HN3.out, List.take_length] at this; exact this)
                  clear HA HKy
                  by_cases hbad : al = true ∧ 0 < n4
                  · obtain ⟨rfl, hn4⟩ := hbad
                    have hf := isB_f HV.out (fun e => by have := e.2.2.2.1 HAL.out.symm; have := HN4.out; omega)
                    subst hf
                    have hn4i : (n4 : Int) > 0 := by omega
                    clear HV
                    go_wp2
                    go_ret
                    exact ⟨rfl, HKA.out.trans HKz.out (fun _ f => f.elim)⟩
                  · have HD0 : Hid (p.al = true → p.dr.length = 0) := hideI (fun e => by
                      have := HN4.out
                      rw [← HAL.out] at e
                      apply Classical.byContradiction
                      intro h
                      exact hbad ⟨e, by omega⟩)
                    have HGD : Hid (v = true ↔ DrOk k p.dr) := hideI ⟨fun e => by have q := (HV.out.1 e).2.2.2.2; rw [← HN2.out] at q; exact q, fun e => HV.out.2 ⟨⟨by rw [← HN1.out]; exact ha1, by rw [← HN1.out]; exact ha2, HAv.out⟩, by rw [← HN1.out]; exact HCu.out, HNr.out, HD0.out, by rw [← HN2.out]; exact e⟩⟩
                    have hcs : al = false ∨ (al = true ∧ ¬ (n4 : Int) > 0) := by
                      cases al with
                      | false => exact .inl rfl
                      | true => exact .inr ⟨rfl, fun h => hbad ⟨rfl, by omega⟩⟩
                    clear HV HD0 hbad HAv HCu HNr
                    rcases hcs with rfl | ⟨rfl, hz4⟩
                    case inl =>
                      go_wp2
                      clear z0 z1 z2 z3 z4 z5
                      go_loopw [7] (fun s7 wr => ∃ (i : Nat), i ≤ n4 ∧ s7 = .int .i64 i ∧ Hid (∀ q, q < i → laD p.dr q < p.dr[q]?.getD 0 ∧ p.dr[q]?.getD 0 < k) ∧ Hid (Kept (fun _ => False) V wr)) (fun s7 _ => n4 - (intOf s7).toNat)
                      case atStart => exact ⟨0, by omega, rfl, hideI (fun q h => by omega), HKz⟩
                      case round =>
                        obtain ⟨i, hi, rfl, HA, HKw⟩ := hrel
                        obtain ⟨z0, z1, z2, z3, z4, z5⟩ := (HB6 wr HKw.out).out
                        by_cases hlt4 : i < n4
                        · as_aux_lemma =>
                            have hil : i < p.dr.length := by rw [← HN4.out]; exact hlt4
                            have hii : (i : Int) < (n4 : Int) := by omega
                            obtain ⟨fb, fo, rfl, hc⟩ := HP.out.dr.get hil
                            have hc := HKw.out.cell hc (fun f => f)
                            have HS : Hid (laD p.dr i < p.dr[i]?.getD 0 ∧ p.dr[i]?.getD 0 < k → ∀ q, q < i + 1 → laD p.dr q < p.dr[q]?.getD 0 ∧ p.dr[q]?.getD 0 < k) := hideI (fun e => lt_succ.2 ⟨HA.out, e⟩)
                            have HB : Hid (¬ (laD p.dr i < p.dr[i]?.getD 0 ∧ p.dr[i]?.getD 0 < k) → v = false) := hideI (fun e => isB_f HGD.out (fun f => e (f i hil)))
                            have HNN : Hid (0 < i → (0 : Int) ≤ p.dr[i - 1]?.getD 0) := hideI (fun hp => by
                              have q := (HA.out 0 hp).1
                              have key : ∀ u, u < i → (0 : Int) ≤ p.dr[u]?.getD 0 := by
                                intro u
                                induction u with
                                | zero => intro _; have := (HA.out 0 hp).1; unfold laD at this; simp only [if_true] at this; omega
                                | succ u ih =>
                                  intro hu
                                  have r := (HA.out (u + 1) hu).1
                                  unfold laD at r
                                  rw [if_neg (by omega), Nat.add_sub_cancel] at r
                                  have := ih (by omega)
                                  omega
                              exact key (i - 1) (by omega))
                            obtain ⟨T, hT⟩ : ∃ T : Prop, T = ∀ q, q < i + 1 → laD p.dr q < p.dr[q]?.getD 0 ∧ p.dr[q]?.getD 0 < k := ⟨_, rfl⟩
                            rw [← hT] at HS
                            have HTT := hideI hT
                            clear hT
                            by_cases hi0 : i = 0
                            · subst hi0
                              have hla : laD p.dr 0 = -1 := rfl
                              rw [hla] at HS HB
                              rw [Nat.add_zero] at hc
                              clear HNN
                              generalize p.dr[0]?.getD 0 = x at *
                              by_cases h1 : 0 ≤ x
                              · have h1i : decide (x < 0) = false := decide_eq_false (by omega)
                                have h1j : ¬ x < 0 := by omega
                                by_cases h2 : x < (k : Int)
                                · have h2i : decide (x ≥ (k : Int)) = false := decide_eq_false (by omega)
                                  have h2j : ¬ x ≥ (k : Int) := by omega
                                  have HR := hideI (HS.out ⟨by omega, h2⟩)
                                  clear HS HB HA
                                  go_wp2
                                  go_quiet (fail)
                                  go_wp2
                                  go_roundw
                                  case rel => exact ⟨0 + 1, hlt4, by go_num, hideI (by rw [← HTT.out]; exact HR.out), hideI (HKw.out.trans (Kept.drewN _ _) (fun _ f => f.elim))⟩
                                  case measure => simp [intOf]; omega
                                · have h2i : decide (x ≥ (k : Int)) = true := decide_eq_true (by omega)
                                  have h2j : x ≥ (k : Int) := by omega
                                  have hf := HB.out (fun e => h2 e.2)
                                  subst hf
                                  clear HS HB HA HGD
                                  go_wp2
                                  go_quiet (fail)
                                  go_wp2
                                  go_ret
                                  exact ⟨rfl, (HKA.out.trans HKw.out (fun _ f => f.elim)).trans (Kept.drewN _ _) (fun _ f => f.elim)⟩
                              · have h1i : decide (x < 0) = true := decide_eq_true (by omega)
                                have h1j : x < 0 := by omega
                                have hf := HB.out (fun e => h1 (by omega))
                                subst hf
                                clear HS HB HA HGD
                                go_wp2
                                go_quiet (fail)
                                go_wp2
                                go_ret
                                exact ⟨rfl, (HKA.out.trans HKw.out (fun _ f => f.elim)).trans (Kept.drewN _ _) (fun _ f => f.elim)⟩
                            · have hip : (i : Int) > 0 := by omega
                              have hip2 : decide ((i : Int) > 0) = true := decide_eq_true hip
                              have hip3 : 0 < i := by omega
                              have hip4 : decide (0 < i) = true := decide_eq_true hip3
                              have hip5 : decide ((0 : Int) < (i : Int)) = true := decide_eq_true hip
                              have hi1 : ((i : Int) - 1).toNat = i - 1 := by omega
                              have hi2 : (0 : Int) ≤ (i : Int) - 1 := by omega
                              have hi3 : (i : Int) - 1 < (n4 : Int) := by omega
                              obtain ⟨fb', fo', e', hd⟩ := HP.out.dr.get (k := i - 1) (by omega)
                              cases e'
                              have hd := HKw.out.cell hd (fun f => f)
                              have hla : laD p.dr i = p.dr[i - 1]?.getD 0 := by unfold laD; rw [if_neg hi0]
                              rw [hla] at HS HB
                              have hnn := HNN.out (by omega)
                              clear HNN hla
                              generalize p.dr[i]?.getD 0 = x at *
                              generalize p.dr[i - 1]?.getD 0 = y at *
                              by_cases h1 : 0 ≤ x
                              · have h1i : decide (x < 0) = false := decide_eq_false (by omega)
                                have h1j : ¬ x < 0 := by omega
                                by_cases h2 : x < (k : Int)
                                · have h2i : decide (x ≥ (k : Int)) = false := decide_eq_false (by omega)
                                  have h2j : ¬ x ≥ (k : Int) := by omega
                                  by_cases h3 : y < x
                                  · have h3i : decide (x ≤ y) = false := decide_eq_false (by omega)
                                    have h3j : ¬ x ≤ y := by omega
                                    have HR := hideI (HS.out ⟨h3, h2⟩)
                                    clear HS HB HA
                                    go_wp2
                                    go_quiet (fail)
                                    go_wp2
                                    go_roundw
                                    case rel => exact ⟨i + 1, hlt4, by go_num, hideI (by rw [← HTT.out]; exact HR.out), hideI (HKw.out.trans (Kept.drewN _ _) (fun _ f => f.elim))⟩
                                    case measure => simp [intOf]; omega
                                  · have h3i : decide (x ≤ y) = true := decide_eq_true (by omega)
                                    have h3j : x ≤ y := by omega
                                    have hf := HB.out (fun e => h3 e.1)
                                    subst hf
                                    clear HS HB HA HGD
                                    go_wp2
                                    go_quiet (fail)
                                    go_wp2
                                    go_ret
                                    exact ⟨rfl, (HKA.out.trans HKw.out (fun _ f => f.elim)).trans (Kept.drewN _ _) (fun _ f => f.elim)⟩
                                · have h2i : decide (x ≥ (k : Int)) = true := decide_eq_true (by omega)
                                  have h2j : x ≥ (k : Int) := by omega
                                  have hf := HB.out (fun e => h2 e.2)
                                  subst hf
                                  clear HS HB HA HGD
                                  go_wp2
                                  go_quiet (fail)
                                  go_wp2
                                  go_ret
                                  exact ⟨rfl, (HKA.out.trans HKw.out (fun _ f => f.elim)).trans (Kept.drewN _ _) (fun _ f => f.elim)⟩
                              · have h1i : decide (x < 0) = true := decide_eq_true (by omega)
                                have h1j : x < 0 := by omega
                                have hf := HB.out (fun e => h1 (by omega))
                                subst hf
                                clear HS HB HA HGD
                                go_wp2
                                go_quiet (fail)
                                go_wp2
                                go_ret
                                exact ⟨rfl, (HKA.out.trans HKw.out (fun _ f => f.elim)).trans (Kept.drewN _ _) (fun _ f => f.elim)⟩
                        · obtain rfl : i = n4 := by omega
                          have hii : ¬ (i : Int) < (i : Int) := by omega
                          have ht := isB_t HGD.out (fun q hq => HA.out q (by have := HN4.out; omega))
                          subst ht
                          clear HGD
                          go_wp2
                          go_ret
                          exact ⟨rfl, HKA.out.trans HKw.out (fun _ f => f.elim)⟩
                    case inr =>
                      have hz5 : ¬ (0 : Int) < (n4 : Int) := hz4
                      have ht := isB_t HGD.out (fun q hq => by have := HN4.out; omega)
                      subst ht
                      clear HGD
                      go_wp2
                      clear z0 z1 z2 z3 z4 z5
                      go_loopw [7] (fun s7 wr => s7 = .int .i64 0 ∧ Hid (Kept (fun _ => False) V wr)) (fun _ _ => 0)
                      case atStart => exact ⟨rfl, HKz⟩
                      case round =>
                        obtain ⟨rfl, HW⟩ := hrel
                        obtain ⟨z0, z1, z2, z3, z4, z5⟩ := (HB6 wr HW.out).out
                        go_wp2
                        go_ret
                        exact ⟨rfl, HKA.out.trans HW.out (fun _ f => f.elim)⟩
    · have hf := isB_f HV.out (fun e => by have := e.1.2.1; have := HN1.out; omega)
      subst hf
      have ha2i : (n1 : Int) > 16 := by omega
      clear HV
      go_enter Tryd.func25, Tryd.ntmps25
      go_wp2
      go_ret
      exact ⟨rfl, HKA.out⟩
  · have hf := isB_f HV.out (fun e => by have := e.1.1; have := HN1.out; omega)
    subst hf
    have ha1i : (n1 : Int) < 1 := by omega
    clear HV
    go_enter Tryd.func25, Tryd.ntmps25
    go_wp2
    go_ret
    exact ⟨rfl, HKA.out⟩
end Go.Proofs.YtiebmmpnmklpnaaDoor
