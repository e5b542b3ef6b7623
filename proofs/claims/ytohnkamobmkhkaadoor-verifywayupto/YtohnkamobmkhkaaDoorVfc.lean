import Derived.Test.YtohnkamobmkhkaaDoorVfb
namespace Go.Proofs.YtohnkamobmkhkaaDoor
open Go.ChangeShapes Go.WideShapes Go.ChangeAt Go.RowKit

theorem box6 {W : World} {g : Nat} {x0 x1 x2 x3 x4 x5 : Value} {t : TypeId} (z : W.heap[g]? = some (.cells #[x0, x1, x2, x3, x4, x5] t (0, 0))) : W.cell? ⟨g, 0, none⟩ = some x0 ∧ W.cell? ⟨g, 1, none⟩ = some x1 ∧ W.cell? ⟨g, 2, none⟩ = some x2 ∧ W.cell? ⟨g, 3, none⟩ = some x3 ∧ W.cell? ⟨g, 4, none⟩ = some x4 ∧ W.cell? ⟨g, 5, none⟩ = some x5 := by
  refine ⟨?_, ?_, ?_, ?_, ?_, ?_⟩ <;> simp [World.cell?, z]
set_option maxRecDepth 20000 in
set_option maxHeartbeats 4000000 in
theorem goodCursors_any (p : Pg) (aA aC aN aD aO : Option Addr) (cA cC cN cD cO : Nat) (w : World) (hP : PgAt w p aA aC aN aD aO) (hO : p.Ok) (v : Bool) (hv : v = true ↔ ∀ c ∈ p.cu, CuOk p.av.length c) :
    Calls Tryd.prog 40 #[.agg #[.slice aA p.av.length cA, .slice aC p.cu.length cC, .slice aN p.nr.length cN, .bool p.al, .slice aD p.dr.length cD, .slice aO p.co.length cO]] w fun e w' => e = .returned (.bool v) ∧ Kept (fun _ => False) w w' := by
  obtain ⟨l1, l2, l3, l4, l5⟩ := hO.len
  have KA := Kept.alloc w (.cells #[.slice aA p.av.length cA, .slice aC p.cu.length cC, .slice aN p.nr.length cN, .bool p.al, .slice aD p.dr.length cD, .slice aO p.co.length cO] 27)
  have HC := hideI (hP.kept KA).cu
  have HKA := hideI KA
  have HV := hideI hv
  have HA := fun (i n : Int) (W : World) => hideI (among_any i n W)
  have HBX : Hid ((w.alloc (.cells #[.slice aA p.av.length cA, .slice aC p.cu.length cC, .slice aN p.nr.length cN, .bool p.al, .slice aD p.dr.length cD, .slice aO p.co.length cO] 27)).heap[w.heap.size]? = some (.cells #[.slice aA p.av.length cA, .slice aC p.cu.length cC, .slice aN p.nr.length cN, .bool p.al, .slice aD p.dr.length cD, .slice aO p.co.length cO] 27 (0, 0))) := hideI (heap_alloc_new w _)
  clear KA hP hO hv
  obtain ⟨na, hna⟩ : ∃ na, na = p.av.length := ⟨_, rfl⟩
  obtain ⟨nC, hnC⟩ : ∃ nC, nC = p.cu.length := ⟨_, rfl⟩
  rw [← hna, ← hnC] at HKA HBX HC ⊢
  rw [← hna] at HV l1
  rw [← hnC] at l3
  have HNC := hideI hnC
  clear hna hnC l2 l4 l5
  go_enter Tryd.func40, Tryd.ntmps40
  go_wp2
  obtain ⟨V, hV⟩ : ∃ V, V = w.alloc (.cells #[.slice aA na cA, .slice aC nC cC, .slice aN p.nr.length cN, .bool p.al, .slice aD p.dr.length cD, .slice aO p.co.length cO] 27) := ⟨_, rfl⟩
  rw [← hV] at HKA HC HBX ⊢
  clear hV
  go_loopw [8] (fun v8 wr => ∃ (j : Nat), j ≤ nC ∧ v8 = .int .i64 j ∧ Hid (∀ c ∈ p.cu.take j, CuOk na c) ∧ Hid (Kept (fun _ => False) V wr)) (fun v8 _ => nC - (intOf v8).toNat)
  case atStart => exact ⟨0, by omega, rfl, hideI (by simp), hideI (Kept.refl _ _)⟩
  case round =>
    obtain ⟨j, hj, rfl, HAl, HK⟩ := hrel
    by_cases hlt : j < nC
    · have hjl : j < p.cu.length := by rw [← HNC.out]; exact hlt
      have hji : (j : Int) < (nC : Int) := by omega
      obtain ⟨fb, fo, ea, hc⟩ := HC.out (by intro e; rw [e] at hjl; simp at hjl)
      obtain ⟨x0, x1⟩ := hc j hjl
      subst ea
      have x0 := HK.out.cell x0 (fun f => f)
      have x1 := HK.out.cell x1 (fun f => f)
      have HS : Hid (CuOk na p.cu[j] → ∀ c ∈ p.cu.take (j + 1), CuOk na c) := hideI (fun e => all_snoc hjl HAl.out e)
      have HB : Hid (¬ CuOk na p.cu[j] → v = false) := hideI (fun e => isB_f HV.out (fun f => e (f _ (List.getElem_mem hjl))))
      generalize p.cu[j] = c at *
      obtain ⟨f, t⟩ := c
      simp only at x0 x1
      have HKx := hideI (HK.out.trans (Kept.alloc wr (.cells #[.int .i64 f, .string t] 63)) (fun _ f => f.elim))
      obtain ⟨y0, -, -, -, -, -⟩ := box6 (HKx.out.heap HBX.out (fun f => f))
      have HAx := fun W => (HA f na W)
      clear HA hc
      cases hb : amB f na with
      | false =>
        rw [hb] at HAx
        have hf := HB.out (fun e => by rw [amB_iff.2 ⟨e.1, e.2.1⟩] at hb; cases hb)
        subst hf
        clear hb HS HB HAl HV
        go_wp2_with (go_at_call 59; refine (HAx _).out.mono ?_; rintro e W ⟨rfl, rfl⟩)
        go_ret
        exact ⟨rfl, HKA.out.trans HKx.out (fun _ f => f.elim)⟩
      | true =>
        rw [hb] at HAx
        have ham := amB_iff.1 hb
        obtain ⟨sz, hsz⟩ : ∃ sz, sz = t.size := ⟨_, rfl⟩
        by_cases h64 : sz ≤ 64
        · have HS2 := hideI (HS.out ⟨ham.1, ham.2, by rw [← hsz]; exact h64⟩)
          have h64i : ¬ ((t.size : Nat) : Int) > 64 := by omega
          clear hb HS HB HAl ham
          go_wp2_with (go_at_call 59; refine (HAx _).out.mono ?_; rintro e W ⟨rfl, rfl⟩)
          go_roundw
          case rel => exact ⟨j + 1, hlt, by go_num, HS2, HKx⟩
          case measure => simp [intOf]; omega
        · have hf := HB.out (fun e => h64 (by rw [hsz]; exact e.2.2))
          subst hf
          have h64i : ((t.size : Nat) : Int) > 64 := by omega
          clear hb HS HB HAl HV ham
          go_wp2_with (go_at_call 59; refine (HAx _).out.mono ?_; rintro e W ⟨rfl, rfl⟩)
          go_ret
          exact ⟨rfl, HKA.out.trans HKx.out (fun _ f => f.elim)⟩
    · have hji : ¬ (j : Int) < (nC : Int) := by omega
      have ht := isB_t HV.out (by have e := HAl.out; rw [List.take_of_length_le (by rw [← HNC.out]; omega)] at e; exact e)
      subst ht
      clear HV
      go_wp2
      go_ret
      exact ⟨rfl, HKA.out.trans HK.out (fun _ f => f.elim)⟩
set_option maxRecDepth 20000 in
set_option maxHeartbeats 4000000 in
theorem goodDrive_any (p : Pg) (aA aC aN aD aO : Option Addr) (cA cC cN cD cO : Nat) (w : World) (hP : PgAt w p aA aC aN aD aO) (hO : p.Ok) (v : Bool) (hv : v = true ↔ (p.al = true → p.dr.length = 0) ∧ DrOk p.cu.length p.dr) :
    Calls Tryd.prog 42 #[.agg #[.slice aA p.av.length cA, .slice aC p.cu.length cC, .slice aN p.nr.length cN, .bool p.al, .slice aD p.dr.length cD, .slice aO p.co.length cO]] w fun e w' => e = .returned (.bool v) ∧ Kept (fun _ => False) w w' := by
  obtain ⟨l1, l2, l3, l4, l5⟩ := hO.len
  have KA := Kept.alloc w (.cells #[.slice aA p.av.length cA, .slice aC p.cu.length cC, .slice aN p.nr.length cN, .bool p.al, .slice aD p.dr.length cD, .slice aO p.co.length cO] 27)
  have HD := hideI (hP.kept KA).dr
  have HKA := hideI KA
  have HV := hideI hv
  have HBX : Hid ((w.alloc (.cells #[.slice aA p.av.length cA, .slice aC p.cu.length cC, .slice aN p.nr.length cN, .bool p.al, .slice aD p.dr.length cD, .slice aO p.co.length cO] 27)).heap[w.heap.size]? = some (.cells #[.slice aA p.av.length cA, .slice aC p.cu.length cC, .slice aN p.nr.length cN, .bool p.al, .slice aD p.dr.length cD, .slice aO p.co.length cO] 27 (0, 0))) := hideI (heap_alloc_new w _)
  clear KA hP hO hv
  obtain ⟨nC, hnC⟩ : ∃ nC, nC = p.cu.length := ⟨_, rfl⟩
  obtain ⟨nD, hnD⟩ : ∃ nD, nD = p.dr.length := ⟨_, rfl⟩
  obtain ⟨al, hal⟩ : ∃ al, al = p.al := ⟨_, rfl⟩
  rw [← hnD, ← hnC, ← hal] at HKA HBX HD HV ⊢
  rw [← hnC] at l3
  rw [← hnD] at l2
  have HND := hideI hnD
  clear hnD hnC l1 l4 l5 hal
  by_cases hbad : al = true ∧ ¬ nD = 0
  · obtain ⟨rfl, hn0⟩ := hbad
    have hf := isB_f HV.out (fun e => hn0 (e.1 rfl))
    subst hf
    have hn1 : (nD : Int) > 0 := by omega
    clear HV
    go_enter Tryd.func42, Tryd.ntmps42
    go_wp2
    go_ret
    exact ⟨rfl, HKA.out⟩
  · have hgd : al = true → nD = 0 := fun e => Classical.byContradiction (fun h => hbad ⟨e, h⟩)
    have HV2 : Hid (v = true ↔ DrOk nC p.dr) := hideI ⟨fun e => (HV.out.1 e).2, fun e => HV.out.2 ⟨hgd, e⟩⟩
    have hx : al = false ∨ (al = true ∧ ¬ (nD : Int) > 0) := by
      cases al with
      | false => exact .inl rfl
      | true => exact .inr ⟨rfl, by have := hgd rfl; omega⟩
    clear hbad hgd HV
    rcases hx with rfl | ⟨rfl, hng⟩
    case inl =>
      go_enter Tryd.func42, Tryd.ntmps42
      go_wp2
      obtain ⟨V, hV⟩ : ∃ V, V = w.alloc (.cells #[.slice aA p.av.length cA, .slice aC nC cC, .slice aN p.nr.length cN, .bool false, .slice aD nD cD, .slice aO p.co.length cO] 27) := ⟨_, rfl⟩
      rw [← hV] at HKA HD HBX ⊢
      clear hV
      go_loopw [3, 17] (fun v3 v17 wr => ∃ (j : Nat), j ≤ nD ∧ v3 = .int .i64 (laD p.dr j) ∧ v17 = .int .i64 j ∧ Hid (∀ k, k < j → laD p.dr k < p.dr[k]?.getD 0 ∧ p.dr[k]?.getD 0 < nC) ∧ Hid (Kept (fun _ => False) V wr)) (fun _ v17 _ => nD - (intOf v17).toNat)
      case atStart => exact ⟨0, by omega, rfl, rfl, hideI (fun k hk => by omega), hideI (Kept.refl _ _)⟩
      case round =>
        obtain ⟨j, hj, rfl, rfl, HAl, HW⟩ := hrel
        by_cases hlt : j < nD
        · have hjl : j < p.dr.length := by rw [← HND.out]; exact hlt
          have hji : (j : Int) < (nD : Int) := by omega
          obtain ⟨b, off, rfl, hc⟩ := HD.out.get hjl
          have hc := HW.out.cell hc (fun f => f)
          obtain ⟨-, y1, -, -, -, -⟩ := box6 (HW.out.heap HBX.out (fun f => f))
          have HN : Hid (laD p.dr (j + 1) = p.dr[j]?.getD 0) := hideI (by unfold laD; rw [if_neg (by omega)]; rfl)
          have HS : Hid (laD p.dr j < p.dr[j]?.getD 0 ∧ p.dr[j]?.getD 0 < nC → ∀ k, k < j + 1 → laD p.dr k < p.dr[k]?.getD 0 ∧ p.dr[k]?.getD 0 < nC) := hideI (fun e k hk => by
            by_cases hkj : k = j
            · subst hkj; exact e
            · exact HAl.out k (by omega))
          have HB : Hid (¬ (laD p.dr j < p.dr[j]?.getD 0 ∧ p.dr[j]?.getD 0 < nC) → v = false) := hideI (fun e => isB_f HV2.out (fun f => e (f j hjl)))
          obtain ⟨x, hx⟩ : ∃ x, x = p.dr[j]?.getD 0 := ⟨_, rfl⟩
          rw [← hx] at HS HB hc HN
          clear hx
          generalize laD p.dr j = la at *
          by_cases h1 : la < x
          · have h1' : ¬ x ≤ la := by omega
            by_cases h2 : x < (nC : Int)
            · have h2' : ¬ (nC : Int) ≤ x := by omega
              have HS2 := hideI (HS.out ⟨h1, h2⟩)
              clear HS HB HAl
              go_wp2
              go_roundw
              case rel => exact ⟨j + 1, hlt, congrArg (Value.int .i64) HN.out.symm, by go_num, HS2, HW⟩
              case measure => simp [intOf]; omega
            · have hf := HB.out (fun e => h2 e.2)
              subst hf
              have h2' : (nC : Int) ≤ x := by omega
              clear HS HB HAl HV2
              go_wp2
              go_ret
              exact ⟨rfl, HKA.out.trans HW.out (fun _ f => f.elim)⟩
          · have hf := HB.out (fun e => h1 e.1)
            subst hf
            have h1' : x ≤ la := by omega
            clear HS HB HAl HV2
            go_wp2
            go_ret
            exact ⟨rfl, HKA.out.trans HW.out (fun _ f => f.elim)⟩
        · have hji : ¬ (j : Int) < (nD : Int) := by omega
          have ht := isB_t HV2.out (fun k hk => HAl.out k (by have := HND.out; omega))
          subst ht
          clear HV2
          go_wp2
          go_ret
          exact ⟨rfl, HKA.out.trans HW.out (fun _ f => f.elim)⟩
    case inr =>
      have ht := isB_t HV2.out (fun k hk => by have := HND.out; omega)
      subst ht
      have hji : ¬ (0 : Int) < (nD : Int) := by omega
      clear HV2 HD HBX
      go_enter Tryd.func42, Tryd.ntmps42
      go_wp2
      obtain ⟨V, hV⟩ : ∃ V, V = w.alloc (.cells #[.slice aA p.av.length cA, .slice aC nC cC, .slice aN p.nr.length cN, .bool true, .slice aD nD cD, .slice aO p.co.length cO] 27) := ⟨_, rfl⟩
      rw [← hV] at HKA ⊢
      clear hV
      go_loopw [17] (fun v17 wr => v17 = .int .i64 0 ∧ Hid (Kept (fun _ => False) V wr)) (fun _ _ => 0)
      case atStart => exact ⟨rfl, hideI (Kept.refl _ _)⟩
      case round =>
        obtain ⟨rfl, HW⟩ := hrel
        go_wp2
        go_ret
        exact ⟨rfl, HKA.out.trans HW.out (fun _ f => f.elim)⟩
end Go.Proofs.YtohnkamobmkhkaaDoor
