import Derived.Test.YtiebmmpnmklpnaaDoorIye
import Derived.Test.YtiebmmpnmklpnaaDoorMrg1
namespace Go.Proofs.YtiebmmpnmklpnaaDoor
open Go.ChangeShapes Go.WideShapes Go.ChangeAt Go.RowKit

set_option maxRecDepth 20000 in
set_option maxHeartbeats 4000000 in
/-- Two lists that are alike: true, and nothing but draws. -/
theorem sameI_still (l : List Int) (a b : Option Addr) (c d : Nat) (w : World) (hA : IntsAt w a l) (hB : IntsAt w b l) (hl : l.length ≤ 9223372036854775807) :
    Calls Tryd.prog 13 #[.slice a l.length c, .slice b l.length d] w fun e w' => e = .returned (.bool true) ∧ ∃ m, w' = w.drewN m := by
  have HA := hideI hA
  have HB := hideI hB
  clear hA hB
  obtain ⟨nl, hnl⟩ : ∃ nl, nl = l.length := ⟨_, rfl⟩
  rw [← hnl] at hl ⊢
  have HNL := hideI hnl
  clear hnl
  have hne : ((nl : Int) != (nl : Int)) = false := by simp
  go_enter Tryd.func13, Tryd.ntmps13
  go_wp2
  clear hne
  go_loopw [13] (fun v13 wr => ∃ (j m : Nat), j ≤ nl ∧ v13 = .int .i64 j ∧ Hid (wr = w.drewN m)) (fun v13 _ => nl - (intOf v13).toNat)
  case atStart => exact ⟨0, 0, by omega, rfl, hideI rfl⟩
  case round =>
    obtain ⟨j, m, hj, rfl, HM⟩ := hrel
    by_cases hlt : j < nl
    · have hjl : j < l.length := by rw [← HNL.out]; exact hlt
      have hji : (j : Int) < (nl : Int) := by omega
      have HK : Kept (fun _ => False) w wr := by rw [HM.out]; exact Kept.drewN w m
      obtain ⟨b1, o1, rfl, hc1⟩ := HA.out.get hjl
      obtain ⟨b2, o2, rfl, hc2⟩ := HB.out.get hjl
      rw [List.getElem?_eq_getElem hjl, Option.getD_some] at hc1
      rw [List.getElem?_eq_getElem hjl, Option.getD_some] at hc2
      have h0 := HK.cell hc1 (fun f => f)
      have g0 := HK.cell hc2 (fun f => f)
      generalize l[j] = x at *
      have hx0 : (x != x) = false := by simp
      clear hc1 hc2 hjl HK
      go_wp2_with fail
      go_quiet (fail)
      have HKq := hideI (show wr.drewN nq = w.drewN (m + nq) by rw [HM.out, World.drewN_drewN])
      go_wp2
      go_roundw
      case rel => exact ⟨j + 1, _, hlt, by go_num, HKq⟩
      case measure => simp [intOf]; omega
    · obtain rfl : j = nl := by omega
      go_wp2
      go_ret
      exact ⟨rfl, m, HM.out⟩
theorem bytes_cell {w : World} {a : Option Addr} {l : List Int} (h : BytesAt w a l) {j : Nat} (hj : j < l.length) : ∃ b off, a = some ⟨b, off, none⟩ ∧ w.cell? ⟨b, off + j, none⟩ = some (.int .u8 l[j]) := by
  obtain ⟨b, off, e, hc⟩ := h (by intro e; rw [e] at hj; simp at hj)
  have q := hc j hj
  rw [List.getElem?_eq_getElem hj, Option.getD_some] at q
  exact ⟨b, off, e, q⟩
set_option maxRecDepth 20000 in
set_option maxHeartbeats 4000000 in
theorem sameB_still (l : List Int) (a b : Option Addr) (c d : Nat) (w : World) (hA : BytesAt w a l) (hB : BytesAt w b l) (hl : l.length ≤ 9223372036854775807) :
    Calls Tryd.prog 28 #[.slice a l.length c, .slice b l.length d] w fun e w' => e = .returned (.bool true) ∧ ∃ m, w' = w.drewN m := by
  have HA := hideI hA
  have HB := hideI hB
  clear hA hB
  obtain ⟨nl, hnl⟩ : ∃ nl, nl = l.length := ⟨_, rfl⟩
  rw [← hnl] at hl ⊢
  have HNL := hideI hnl
  clear hnl
  have hne : ((nl : Int) != (nl : Int)) = false := by simp
  go_enter Tryd.func28, Tryd.ntmps28
  go_wp2
  clear hne
  go_loopw [13] (fun v13 wr => ∃ (j m : Nat), j ≤ nl ∧ v13 = .int .i64 j ∧ Hid (wr = w.drewN m)) (fun v13 _ => nl - (intOf v13).toNat)
  case atStart => exact ⟨0, 0, by omega, rfl, hideI rfl⟩
  case round =>
    obtain ⟨j, m, hj, rfl, HM⟩ := hrel
    by_cases hlt : j < nl
    · have hjl : j < l.length := by rw [← HNL.out]; exact hlt
      have hji : (j : Int) < (nl : Int) := by omega
      have HK : Kept (fun _ => False) w wr := by rw [HM.out]; exact Kept.drewN w m
      obtain ⟨b1, o1, rfl, hc1⟩ := bytes_cell HA.out hjl
      obtain ⟨b2, o2, rfl, hc2⟩ := bytes_cell HB.out hjl
      have h0 := HK.cell hc1 (fun f => f)
      have g0 := HK.cell hc2 (fun f => f)
      generalize l[j] = x at *
      have hx0 : (x != x) = false := by simp
      clear hc1 hc2 hjl HK
      go_wp2_with fail
      go_quiet (fail)
      have HKq := hideI (show wr.drewN nq = w.drewN (m + nq) by rw [HM.out, World.drewN_drewN])
      go_wp2
      go_roundw
      case rel => exact ⟨j + 1, _, hlt, by go_num, HKq⟩
      case measure => simp [intOf]; omega
    · obtain rfl : j = nl := by omega
      go_wp2
      go_ret
      exact ⟨rfl, m, HM.out⟩
set_option maxRecDepth 20000 in
set_option maxHeartbeats 8000000 in
theorem alike_any (p : Pg) (aA aC aN aD aO bA bC bN bD bO : Option Addr) (cA cC cN cD cO dA dC dN dD dO : Nat) (w : World) (hP : PgAt w p aA aC aN aD aO) (hQ : PgAt w p bA bC bN bD bO) (hO : p.Ok) :
    Calls Tryd.prog 14 #[.agg #[.slice aA p.av.length cA, .slice aC p.cu.length cC, .slice aN p.nr.length cN, .bool p.al, .slice aD p.dr.length cD, .slice aO p.co.length cO], .agg #[.slice bA p.av.length dA, .slice bC p.cu.length dC, .slice bN p.nr.length dN, .bool p.al, .slice bD p.dr.length dD, .slice bO p.co.length dO]] w fun e w' => e = .returned (.bool true) ∧ Kept (fun _ => False) w w' := by
  obtain ⟨l1, l2, l3, l4, l5⟩ := hO.len
  obtain ⟨V, hV⟩ : ∃ V, V = (w.alloc (.cells #[.slice aA p.av.length cA, .slice aC p.cu.length cC, .slice aN p.nr.length cN, .bool p.al, .slice aD p.dr.length cD, .slice aO p.co.length cO] 27)).alloc (.cells #[.slice bA p.av.length dA, .slice bC p.cu.length dC, .slice bN p.nr.length dN, .bool p.al, .slice bD p.dr.length dD, .slice bO p.co.length dO] 27) := ⟨_, rfl⟩
  have KA : Kept (fun _ => False) w V := by rw [hV]; exact (Kept.alloc w _).trans (Kept.alloc _ _) (fun _ f => f.elim)
  have HBP : Hid (V.heap[w.heap.size]? = some (.cells #[.slice aA p.av.length cA, .slice aC p.cu.length cC, .slice aN p.nr.length cN, .bool p.al, .slice aD p.dr.length cD, .slice aO p.co.length cO] 27 (0, 0))) := hideI (by rw [hV]; exact (Kept.alloc _ _).heap (heap_alloc_new w _) (fun f => f))
  have HBQ : Hid (V.heap[w.heap.size + 1]? = some (.cells #[.slice bA p.av.length dA, .slice bC p.cu.length dC, .slice bN p.nr.length dN, .bool p.al, .slice bD p.dr.length dD, .slice bO p.co.length dO] 27 (0, 0))) := hideI (by
    have q := heap_alloc_new (w.alloc (.cells #[.slice aA p.av.length cA, .slice aC p.cu.length cC, .slice aN p.nr.length cN, .bool p.al, .slice aD p.dr.length cD, .slice aO p.co.length cO] 27)) (.cells #[.slice bA p.av.length dA, .slice bC p.cu.length dC, .slice bN p.nr.length dN, .bool p.al, .slice bD p.dr.length dD, .slice bO p.co.length dO] 27)
    rw [show (w.alloc (.cells #[.slice aA p.av.length cA, .slice aC p.cu.length cC, .slice aN p.nr.length cN, .bool p.al, .slice aD p.dr.length cD, .slice aO p.co.length cO] 27)).heap.size = w.heap.size + 1 by simp] at q
    rw [hV]; exact q)
  have HP := hideI (hP.kept KA)
  have HQ := hideI (hQ.kept KA)
  have HO := hideI hO
  have HKA := hideI KA
  have HS1 := fun (W : World) (k : Kept (fun _ => False) V W) => hideI (sameI_still p.av aA bA cA dA W (HP.out.kept k).av (HQ.out.kept k).av (by omega))
  have HS2 := fun (W : World) (k : Kept (fun _ => False) V W) => hideI (sameI_still p.dr aD bD cD dD W (HP.out.kept k).dr (HQ.out.kept k).dr (by omega))
  have HS3 := fun (W : World) (k : Kept (fun _ => False) V W) => hideI (sameB_still p.co aO bO cO dO W (HP.out.kept k).co (HQ.out.kept k).co (by omega))
  obtain ⟨y0, y1, y2, y3, y4, y5⟩ := box6 HBP.out
  obtain ⟨z0, z1, z2, z3, z4, z5⟩ := box6 HBQ.out
  clear KA hP hQ hO
  have hbb : (p.al != p.al) = false := by simp
  have hcc : ((p.cu.length : Int) != (p.cu.length : Int)) = false := by simp
  have hnn : ((p.nr.length : Int) != (p.nr.length : Int)) = false := by simp
  go_enter Tryd.func14, Tryd.ntmps14
  go_wp2_with fail
  rw [← hV]
  clear hV
  have HBP1 := hideI HBP.out
  have HBQ1 := hideI HBQ.out
  clear HBP HBQ y0 y1 y2 y3 y4 y5 z0 z1 z2 z3 z4 z5
  obtain ⟨y0, y1, y2, y3, y4, y5⟩ := box6 HBP1.out
  obtain ⟨z0, z1, z2, z3, z4, z5⟩ := box6 HBQ1.out
  go_wp2_with (first
    | (go_at_call 13; refine (HS1 V (Kept.refl _ _)).out.mono ?_; clear HS1; rintro e W1 ⟨rfl, m1, hm1⟩; have HK1 : Hid (Kept (fun _ => False) V W1) := hideI (by rw [hm1]; exact Kept.drewN _ _); clear hm1; obtain ⟨y0, y1, y2, y3, y4, y5⟩ := box6 (HK1.out.heap HBP1.out (fun f => f)); obtain ⟨z0, z1, z2, z3, z4, z5⟩ := box6 (HK1.out.heap HBQ1.out (fun f => f)))
    | (go_at_call 13; refine (HS2 _ HK1.out).out.mono ?_; clear HS2 y0 y1 y2 y3 y4 y5 z0 z1 z2 z3 z4 z5; rintro e W2 ⟨rfl, m2, hm2⟩; have HK2 : Hid (Kept (fun _ => False) V W2) := hideI (by rw [hm2]; exact HK1.out.trans (Kept.drewN _ _) (fun _ f => f.elim)); clear hm2; obtain ⟨y0, y1, y2, y3, y4, y5⟩ := box6 (HK2.out.heap HBP1.out (fun f => f)); obtain ⟨z0, z1, z2, z3, z4, z5⟩ := box6 (HK2.out.heap HBQ1.out (fun f => f)))
    | (go_at_call 28; refine (HS3 _ HK2.out).out.mono ?_; clear HS3 y0 y1 y2 y3 y4 y5 z0 z1 z2 z3 z4 z5; rintro e W3 ⟨rfl, m3, hm3⟩; have HK3 : Hid (Kept (fun _ => False) V W3) := hideI (by rw [hm3]; exact HK2.out.trans (Kept.drewN _ _) (fun _ f => f.elim)); clear hm3; obtain ⟨y0, y1, y2, y3, y4, y5⟩ := box6 (HK3.out.heap HBP1.out (fun f => f)); obtain ⟨z0, z1, z2, z3, z4, z5⟩ := box6 (HK3.out.heap HBQ1.out (fun f => f))))
  clear hbb hcc hnn y0 y1 y2 y3 y4 y5 z0 z1 z2 z3 z4 z5
  obtain ⟨nC, hnC⟩ : ∃ nC, nC = p.cu.length := ⟨_, rfl⟩
  obtain ⟨nN, hnN⟩ : ∃ nN, nN = p.nr.length := ⟨_, rfl⟩
  have HNC := hideI hnC
  have HNN := hideI hnN
  rw [← hnC, ← hnN] at HBP1 HBQ1 ⊢
  rw [← hnC] at l3
  rw [← hnN] at l4
  clear hnC hnN
  go_loopw [57] (fun v57 wr => ∃ (j : Nat), j ≤ nC ∧ v57 = .int .i64 j ∧ Hid (Kept (fun _ => False) V wr)) (fun v57 _ => nC - (intOf v57).toNat)
  case atStart => exact ⟨0, by omega, rfl, HK3⟩
  case round =>
    obtain ⟨j, hj, rfl, HK⟩ := hrel
    by_cases hlt : j < nC
    · have hjl : j < p.cu.length := by rw [← HNC.out]; exact hlt
      have hji : (j : Int) < (nC : Int) := by omega
      obtain ⟨fb, fo, ea, hc⟩ := HP.out.cu (by intro e; rw [e] at hjl; simp at hjl)
      obtain ⟨gb, go, eb, hd⟩ := HQ.out.cu (by intro e; rw [e] at hjl; simp at hjl)
      obtain ⟨-, y1, -, -, -, -⟩ := box6 (HK.out.heap HBP1.out (fun f => f))
      obtain ⟨-, z1, -, -, -, -⟩ := box6 (HK.out.heap HBQ1.out (fun f => f))
      have x0 := HK.out.cell (hc j hjl).1 (fun f => f)
      have x1 := HK.out.cell (hc j hjl).2 (fun f => f)
      have u0 := HK.out.cell (hd j hjl).1 (fun f => f)
      have u1 := HK.out.cell (hd j hjl).2 (fun f => f)
      subst ea eb
      clear hc hd
      generalize p.cu[j] = c at *
      obtain ⟨f, t⟩ := c
      simp only at x0 x1 u0 u1
      clear hjl
      go_wp2_with fail
      go_quiet (fail)
      have HKq := hideI (HK.out.trans (Kept.drewN wr nq) (fun _ f => f.elim))
      go_wp2
      go_roundw
      case rel => exact ⟨j + 1, hlt, by go_num, HKq⟩
      case measure => simp [intOf]; omega
    · obtain rfl : j = nC := by omega
      obtain ⟨-, -, y2, -, -, -⟩ := box6 (HK.out.heap HBP1.out (fun f => f))
      go_wp2
      clear y2
      go_loopw [75] (fun v75 wr => ∃ (k : Nat), k ≤ nN ∧ v75 = .int .i64 k ∧ Hid (Kept (fun _ => False) V wr)) (fun v75 _ => nN - (intOf v75).toNat)
      case atStart => exact ⟨0, by omega, rfl, HK⟩
      case round =>
        obtain ⟨k, hk, rfl, HK2⟩ := hrel
        by_cases hlt : k < nN
        · have hjl : k < p.nr.length := by rw [← HNN.out]; exact hlt
          have hji : (k : Int) < (nN : Int) := by omega
          obtain ⟨fb, fo, ea, hc⟩ := HP.out.nr (by intro e; rw [e] at hjl; simp at hjl)
          obtain ⟨gb, go, eb, hd⟩ := HQ.out.nr (by intro e; rw [e] at hjl; simp at hjl)
          obtain ⟨-, -, y2, -, -, -⟩ := box6 (HK2.out.heap HBP1.out (fun f => f))
          obtain ⟨-, -, z2, -, -, -⟩ := box6 (HK2.out.heap HBQ1.out (fun f => f))
          obtain ⟨p1, r1, p2, r2, x0, x1, x2, i1, i2⟩ := hc k hjl
          obtain ⟨q1, s1, q2, s2, u0, u1, u2, j1, j2⟩ := hd k hjl
          have x0' := HK2.out.cell x0 (fun f => f)
          have x1' := HK2.out.cell x1 (fun f => f)
          have x2' := HK2.out.cell x2 (fun f => f)
          have u0' := HK2.out.cell u0 (fun f => f)
          have u1' := HK2.out.cell u1 (fun f => f)
          have u2' := HK2.out.cell u2 (fun f => f)
          obtain ⟨n1, n2⟩ := HO.out.nlen (List.getElem_mem hjl)
          subst ea eb
          clear hc hd x0 x1 x2 u0 u1 u2
          generalize p.nr[k] = c at *
          obtain ⟨cs, os, sl⟩ := c
          simp only at x0' x1' x2' u0' u1' u2' i1 i2 j1 j2 n1 n2
          have HT1 := fun (n : Nat) => hideI (sameI_still cs p1 q1 r1 s1 (wr.drewN n) ((i1.keptI HK2.out).keptI (Kept.drewN wr n)) ((j1.keptI HK2.out).keptI (Kept.drewN wr n)) (by omega))
          have HT2 := fun (n : Nat) => hideI (sameI_still os p2 q2 r2 s2 (wr.drewN n) ((i2.keptI HK2.out).keptI (Kept.drewN wr n)) ((j2.keptI HK2.out).keptI (Kept.drewN wr n)) (by omega))
          have hss : (sl != sl) = false := by simp
          clear hjl i1 i2 j1 j2
          obtain ⟨m1, hm1⟩ : ∃ m1, m1 = cs.length := ⟨_, rfl⟩
          obtain ⟨m2, hm2⟩ : ∃ m2, m2 = os.length := ⟨_, rfl⟩
          rw [← hm1] at HT1 x0' u0' n1
          rw [← hm2] at HT2 x1' u1' n2
          clear hm1 hm2
          go_wp2_with fail
          go_quiet (first
            | (go_at_call_of 13 (Value.slice p1 m1 r1); exact Calls.quiet_of (HT1 _).out)
            | (go_at_call_of 13 (Value.slice p2 m2 r2); exact Calls.quiet_of (HT2 _).out))
          have HKq := hideI (HK2.out.trans (Kept.drewN wr nq) (fun _ f => f.elim))
          go_wp2
          go_roundw
          case rel => exact ⟨k + 1, hlt, by go_num, HKq⟩
          case measure => simp [intOf]; omega
        · obtain rfl : k = nN := by omega
          go_wp2
          go_ret
          exact ⟨rfl, HKA.out.trans HK2.out (fun _ f => f.elim)⟩
end Go.Proofs.YtiebmmpnmklpnaaDoor
