import Derived.Test.YtdklkpbadopkaaaDoorIyg
import Derived.BigQuiet
import Derived.BigRegion
namespace Go.Proofs.YtdklkpbadopkaaaDoor
open Go.ChangeShapes Go.WideShapes Go.ChangeAt Go.RowKit

theorem pg_ext {p q : Pg} (h1 : p.av = q.av) (h2 : p.cu = q.cu) (h3 : p.nr = q.nr) (h4 : p.al = q.al) (h5 : p.dr = q.dr) (h6 : p.co = q.co) : p = q := by
  cases p; cases q
  simp only at h1 h2 h3 h4 h5 h6
  rw [h1, h2, h3, h4, h5, h6]
theorem cells3T {W : World} {g : Nat} {x0 x1 x2 : Value} {t : TypeId} (z : W.heap[g]? = some (.cells #[x0, x1, x2] t (0, 0))) : W.cell? ⟨g, 0, none⟩ = some x0 ∧ W.cell? ⟨g, 1, none⟩ = some x1 ∧ W.cell? ⟨g, 2, none⟩ = some x2 := by
  refine ⟨?_, ?_, ?_⟩ <;> simp [World.cell?, z]
set_option maxRecDepth 20000 in
set_option maxHeartbeats 16000000 in
theorem same_loops (p q : Pg) (aA aC aN aD aO bA bC bN bD bO : Option Addr) (cA cC cN cD cO dA dC dN dD dO : Nat) (w : World) (hP : PgAt w p aA aC aN aD aO) (hQ : PgAt w q bA bC bN bD bO) (hOp : p.Ok) (hOq : q.Ok) (h1 : p.al = q.al) (h2 : p.co = q.co) (h3 : p.av = q.av) (h4 : p.dr = q.dr) (h5 : p.cu.length = q.cu.length) (h6 : p.nr.length = q.nr.length) :
    Calls Tryd.prog 12 #[.agg #[.slice aA p.av.length cA, .slice aC p.cu.length cC, .slice aN p.nr.length cN, .bool p.al, .slice aD p.dr.length cD, .slice aO p.co.length cO], .agg #[.slice bA q.av.length dA, .slice bC p.cu.length dC, .slice bN p.nr.length dN, .bool p.al, .slice bD q.dr.length dD, .slice bO q.co.length dO]] w fun e w' => smP w p q e w' := by
  have KA := (Kept.alloc w (.cells #[.slice aA p.av.length cA, .slice aC p.cu.length cC, .slice aN p.nr.length cN, .bool p.al, .slice aD p.dr.length cD, .slice aO p.co.length cO] 27)).trans (Kept.alloc (w.alloc (.cells #[.slice aA p.av.length cA, .slice aC p.cu.length cC, .slice aN p.nr.length cN, .bool p.al, .slice aD p.dr.length cD, .slice aO p.co.length cO] 27)) (.cells #[.slice bA q.av.length dA, .slice bC p.cu.length dC, .slice bN p.nr.length dN, .bool p.al, .slice bD q.dr.length dD, .slice bO q.co.length dO] 27)) (fun _ f => f.elim)
  obtain ⟨l1, l2, l3, l4, l5⟩ := hOp.len
  obtain ⟨m1, m2, m3, m4, m5⟩ := hOq.len
  have HPx := hideI (hP.kept KA)
  have HQx := hideI (hQ.kept KA)
  have hcv1 := conv_argT (c := cO) HPx.out.co
  have hcv2 := conv_argT (c := dO) HQx.out.co
  have HKA := hideI KA
  have HOp := hideI hOp
  have HOq := hideI hOq
  clear KA hP hQ hOp hOq
  have es : strOfNums q.co = strOfNums p.co := by rw [h2]
  rw [es] at hcv2
  clear es
  have H2 := hideI h2
  clear h2
  have HS1 := fun W (k : Kept (fun _ => False) ((w.alloc (.cells #[.slice aA p.av.length cA, .slice aC p.cu.length cC, .slice aN p.nr.length cN, .bool p.al, .slice aD p.dr.length cD, .slice aO p.co.length cO] 27)).alloc (.cells #[.slice bA q.av.length dA, .slice bC p.cu.length dC, .slice bN p.nr.length dN, .bool p.al, .slice bD q.dr.length dD, .slice bO q.co.length dO] 27)) W) => hideI (sameI_dec p.av q.av aA bA cA dA W (HPx.out.kept k).av (HQx.out.kept k).av l1 m1 true (by simp [h3]))
  have H3 := hideI h3
  clear h3
  have HS2 := fun W (k : Kept (fun _ => False) ((w.alloc (.cells #[.slice aA p.av.length cA, .slice aC p.cu.length cC, .slice aN p.nr.length cN, .bool p.al, .slice aD p.dr.length cD, .slice aO p.co.length cO] 27)).alloc (.cells #[.slice bA q.av.length dA, .slice bC p.cu.length dC, .slice bN p.nr.length dN, .bool p.al, .slice bD q.dr.length dD, .slice bO q.co.length dO] 27)) W) => hideI (sameI_dec p.dr q.dr aD bD cD dD W (HPx.out.kept k).dr (HQx.out.kept k).dr l2 m2 true (by simp [h4]))
  have H4 := hideI h4
  clear h4
  have HBP : Hid (((w.alloc (.cells #[.slice aA p.av.length cA, .slice aC p.cu.length cC, .slice aN p.nr.length cN, .bool p.al, .slice aD p.dr.length cD, .slice aO p.co.length cO] 27)).alloc (.cells #[.slice bA q.av.length dA, .slice bC p.cu.length dC, .slice bN p.nr.length dN, .bool p.al, .slice bD q.dr.length dD, .slice bO q.co.length dO] 27)).heap[w.heap.size]? = some (.cells #[.slice aA p.av.length cA, .slice aC p.cu.length cC, .slice aN p.nr.length cN, .bool p.al, .slice aD p.dr.length cD, .slice aO p.co.length cO] 27 (0, 0))) := hideI ((Kept.alloc _ _).heap (heap_alloc_new w _) (fun f => f))
  have HBQ : Hid (((w.alloc (.cells #[.slice aA p.av.length cA, .slice aC p.cu.length cC, .slice aN p.nr.length cN, .bool p.al, .slice aD p.dr.length cD, .slice aO p.co.length cO] 27)).alloc (.cells #[.slice bA q.av.length dA, .slice bC p.cu.length dC, .slice bN p.nr.length dN, .bool p.al, .slice bD q.dr.length dD, .slice bO q.co.length dO] 27)).heap[w.heap.size + 1]? = some (.cells #[.slice bA q.av.length dA, .slice bC p.cu.length dC, .slice bN p.nr.length dN, .bool p.al, .slice bD q.dr.length dD, .slice bO q.co.length dO] 27 (0, 0))) := hideI (by have e := heap_alloc_new (w.alloc (.cells #[.slice aA p.av.length cA, .slice aC p.cu.length cC, .slice aN p.nr.length cN, .bool p.al, .slice aD p.dr.length cD, .slice aO p.co.length cO] 27)) (.cells #[.slice bA q.av.length dA, .slice bC p.cu.length dC, .slice bN p.nr.length dN, .bool p.al, .slice bD q.dr.length dD, .slice bO q.co.length dO] 27); simpa using e)
  have H1 := hideI h1
  have H5 := hideI h5
  have H6 := hideI h6
  clear h1 h5 h6
  go_enter Tryd.func12, Tryd.ntmps12
  go_wp2_with (first
    | (go_at_call 34; refine (HS1 _ (Kept.refl _ _)).out.mono ?_; clear HS1; rintro e W1 ⟨rfl, K1⟩; have HK1 := hideI K1; obtain ⟨y0, y1, y2, y3, y4, y5⟩ := cells6 (K1.heap HBP.out (fun f => f)); obtain ⟨z0, z1, z2, z3, z4, z5⟩ := cells6 (K1.heap HBQ.out (fun f => f)); clear K1)
    | (go_at_call 34; refine (HS2 _ HK1.out).out.mono ?_; clear HS2; rintro e W2 ⟨rfl, K2⟩; have HK2 := hideI (HK1.out.trans K2 (fun _ f => f.elim)); obtain ⟨u0, u1, u2, u3, u4, u5⟩ := cells6 (HK2.out.heap HBP.out (fun f => f)); obtain ⟨v0, v1, v2, v3, v4, v5⟩ := cells6 (HK2.out.heap HBQ.out (fun f => f)); clear K2 y0 y1 y2 y3 y4 y5 z0 z1 z2 z3 z4 z5))
  have HP2 := hideI (HPx.out.kept HK2.out)
  have HQ2 := hideI (HQx.out.kept HK2.out)
  have HBP2 := hideI (HK2.out.heap HBP.out (fun f => f))
  have HBQ2 := hideI (HK2.out.heap HBQ.out (fun f => f))
  have HKW := hideI (HKA.out.trans HK2.out (fun _ f => f.elim))
  clear HPx HQx HBP HBQ HKA HK1 HK2 hcv1 hcv2 u0 u1 u2 u3 u4 u5 v0 v1 v2 v3 v4 v5
  obtain ⟨nC, hnC⟩ : ∃ nC, nC = p.cu.length := ⟨_, rfl⟩
  obtain ⟨nN, hnN⟩ : ∃ nN, nN = p.nr.length := ⟨_, rfl⟩
  have HNC := hideI hnC
  have HNN := hideI hnN
  rw [← hnC, ← hnN] at HBP2 HBQ2 ⊢
  rw [← hnC] at l3
  rw [← hnN] at l4
  clear hnC hnN
  go_loopw [58] (fun v58 wr => ∃ (j : Nat), j ≤ nC ∧ v58 = .int .i64 j ∧ Hid (p.cu.take j = q.cu.take j) ∧ Hid (Kept (fun _ => False) W2 wr)) (fun v58 _ => nC - (intOf v58).toNat)
  case atStart => exact ⟨0, by omega, rfl, hideI rfl, hideI (Kept.refl _ _)⟩
  case round =>
    obtain ⟨j, hj, rfl, HT, HK⟩ := hrel
    by_cases hlt : j < nC
    · have hjl : j < p.cu.length := by rw [← HNC.out]; exact hlt
      have hjm : j < q.cu.length := by rw [← H5.out, ← HNC.out]; exact hlt
      have hji : (j : Int) < (nC : Int) := by omega
      obtain ⟨fb, fo, ea, hc⟩ := HP2.out.cu (by intro e; rw [e] at hjl; simp at hjl)
      obtain ⟨gb, go, eb, hd⟩ := HQ2.out.cu (by intro e; rw [e] at hjm; simp at hjm)
      obtain ⟨-, y1, -, -, -, -⟩ := cells6 (HK.out.heap HBP2.out (fun f => f))
      obtain ⟨-, z1, -, -, -, -⟩ := cells6 (HK.out.heap HBQ2.out (fun f => f))
      have x0 := HK.out.cell (hc j hjl).1 (fun f => f)
      have x1 := HK.out.cell (hc j hjl).2 (fun f => f)
      have u0 := HK.out.cell (hd j hjm).1 (fun f => f)
      have u1 := HK.out.cell (hd j hjm).2 (fun f => f)
      have HS : Hid (p.cu[j] = q.cu[j] → p.cu.take (j + 1) = q.cu.take (j + 1)) := hideI (fun e => take_both hjl hjm HT.out e)
      have HD : Hid (p.cu[j] ≠ q.cu[j] → p ≠ q) := hideI (fun e f => e (by subst f; rfl))
      subst ea eb
      clear hc hd
      generalize p.cu[j] = c at *
      generalize q.cu[j] = d at *
      obtain ⟨f, t⟩ := c
      obtain ⟨g, s⟩ := d
      simp only at x0 x1 u0 u1
      clear hjl hjm HT
      by_cases hfg : f = g
      · by_cases hts : t = s
        · have HS1 := hideI (HS.out (by rw [hfg, hts]))
          clear HS HD
          subst hfg hts
          go_wp2_with fail
          go_quiet (fail)
          have HKq := hideI (HK.out.trans (Kept.drewN wr nq) (fun _ f => f.elim))
          go_wp2
          go_roundw
          case rel => exact ⟨j + 1, hlt, by go_num, HS1, HKq⟩
          case measure => simp [intOf]; omega
        · have HD1 := hideI (HD.out (by intro e; injection e with e1 e2; exact hts e2))
          have hq : (t.toList == s.toList) = false := by rw [beq_lT]; exact decide_eq_false hts
          clear HS HD hts
          subst hfg
          go_wp2_with fail
          go_quiet (fail)
          have HKq := hideI (HK.out.trans (Kept.drewN wr nq) (fun _ f => f.elim))
          go_wp2
          go_ret
          exact smP_no HD1.out (HKW.out.trans HKq.out (fun _ f => f.elim))
      · have HD1 := hideI (HD.out (by intro e; injection e with e1 e2; exact hfg e1))
        have hq : (f == g) = false := by simp [hfg]
        clear HS HD
        go_wp2_with fail
        go_quiet (fail)
        have HKq := hideI (HK.out.trans (Kept.drewN wr nq) (fun _ f => f.elim))
        go_wp2
        go_ret
        exact smP_no HD1.out (HKW.out.trans HKq.out (fun _ f => f.elim))
    · obtain rfl : j = nC := by omega
      have HCU : Hid (p.cu = q.cu) := hideI (by
        have := HT.out
        rw [List.take_of_length_le (by rw [HNC.out]; exact Nat.le_refl _), List.take_of_length_le (by rw [HNC.out, H5.out]; exact Nat.le_refl _)] at this
        exact this)
      have HP3 := hideI (HP2.out.kept HK.out)
      have HQ3 := hideI (HQ2.out.kept HK.out)
      have HBP3 := hideI (HK.out.heap HBP2.out (fun f => f))
      have HBQ3 := hideI (HK.out.heap HBQ2.out (fun f => f))
      have HKV := hideI (HKW.out.trans HK.out (fun _ f => f.elim))
      obtain ⟨-, -, y2, -, -, -⟩ := cells6 HBP3.out
      clear HP2 HQ2 HBP2 HBQ2 HKW HK HT
      go_wp2
      clear y2
      go_loopw [76] (fun v76 wq => ∃ (k : Nat), k ≤ nN ∧ v76 = .int .i64 k ∧ Hid (p.nr.take k = q.nr.take k) ∧ Hid (Kept (fun _ => False) wr wq)) (fun v76 _ => nN - (intOf v76).toNat)
      case atStart => exact ⟨0, by omega, rfl, hideI rfl, hideI (Kept.refl _ _)⟩
      case round =>
        obtain ⟨k, hk, rfl, HT, HK⟩ := hrel
        by_cases hlt : k < nN
        · have hjl : k < p.nr.length := by rw [← HNN.out]; exact hlt
          have hjm : k < q.nr.length := by rw [← H6.out, ← HNN.out]; exact hlt
          have hji : (k : Int) < (nN : Int) := by omega
          obtain ⟨fb, fo, ea, hc⟩ := HP3.out.nr (by intro e; rw [e] at hjl; simp at hjl)
          obtain ⟨gb, go, eb, hd⟩ := HQ3.out.nr (by intro e; rw [e] at hjm; simp at hjm)
          obtain ⟨-, -, y2, -, -, -⟩ := cells6 (HK.out.heap HBP3.out (fun f => f))
          obtain ⟨-, -, z2, -, -, -⟩ := cells6 (HK.out.heap HBQ3.out (fun f => f))
          obtain ⟨p1, r1, p2, r2, x0, x1, x2, i1, i2⟩ := hc k hjl
          obtain ⟨q1, s1, q2, s2, u0, u1, u2, j1, j2⟩ := hd k hjm
          have x0' := HK.out.cell x0 (fun f => f)
          have x1' := HK.out.cell x1 (fun f => f)
          have x2' := HK.out.cell x2 (fun f => f)
          have u0' := HK.out.cell u0 (fun f => f)
          have u1' := HK.out.cell u1 (fun f => f)
          have u2' := HK.out.cell u2 (fun f => f)
          have I1 := hideI (i1.keptI HK.out)
          have I2 := hideI (i2.keptI HK.out)
          have J1 := hideI (j1.keptI HK.out)
          have J2 := hideI (j2.keptI HK.out)
          obtain ⟨n1, n2⟩ := HOp.out.nlen (List.getElem_mem hjl)
          obtain ⟨n3, n4⟩ := HOq.out.nlen (List.getElem_mem hjm)
          have HS : Hid (p.nr[k] = q.nr[k] → p.nr.take (k + 1) = q.nr.take (k + 1)) := hideI (fun e => take_both hjl hjm HT.out e)
          have HD : Hid (p.nr[k] ≠ q.nr[k] → p ≠ q) := hideI (fun e f => e (by subst f; rfl))
          subst ea eb
          clear hc hd x0 x1 x2 u0 u1 u2 i1 i2 j1 j2
          generalize p.nr[k] = c at *
          generalize q.nr[k] = d at *
          obtain ⟨cs, os, sl⟩ := c
          obtain ⟨ds, ps, tl⟩ := d
          simp only at x0' x1' x2' u0' u1' u2' I1 I2 J1 J2 n1 n2 n3 n4
          clear hjl hjm HT
          have HIn : Hid _ := hideI (And.intro I1.out (And.intro I2.out (And.intro J1.out J2.out)))
          have y2A := (Kept.alloc wr (.cells #[.slice none 0 0, .slice none 0 0, .int .i64 0] 62)).cell y2 (fun f => f)
          have y2B := (Kept.alloc (wr.alloc (.cells #[.slice none 0 0, .slice none 0 0, .int .i64 0] 62)) (.cells #[.slice none 0 0, .slice none 0 0, .int .i64 0] 62)).cell y2A (fun f => f)
          have z2A := (Kept.alloc wr (.cells #[.slice none 0 0, .slice none 0 0, .int .i64 0] 62)).cell z2 (fun f => f)
          have z2B := (Kept.alloc (wr.alloc (.cells #[.slice none 0 0, .slice none 0 0, .int .i64 0] 62)) (.cells #[.slice none 0 0, .slice none 0 0, .int .i64 0] 62)).cell z2A (fun f => f)
          have x0A := (Kept.alloc wr (.cells #[.slice none 0 0, .slice none 0 0, .int .i64 0] 62)).cell x0' (fun f => f)
          have x0B := (Kept.alloc (wr.alloc (.cells #[.slice none 0 0, .slice none 0 0, .int .i64 0] 62)) (.cells #[.slice none 0 0, .slice none 0 0, .int .i64 0] 62)).cell x0A (fun f => f)
          have x1A := (Kept.alloc wr (.cells #[.slice none 0 0, .slice none 0 0, .int .i64 0] 62)).cell x1' (fun f => f)
          have x1B := (Kept.alloc (wr.alloc (.cells #[.slice none 0 0, .slice none 0 0, .int .i64 0] 62)) (.cells #[.slice none 0 0, .slice none 0 0, .int .i64 0] 62)).cell x1A (fun f => f)
          have x2A := (Kept.alloc wr (.cells #[.slice none 0 0, .slice none 0 0, .int .i64 0] 62)).cell x2' (fun f => f)
          have x2B := (Kept.alloc (wr.alloc (.cells #[.slice none 0 0, .slice none 0 0, .int .i64 0] 62)) (.cells #[.slice none 0 0, .slice none 0 0, .int .i64 0] 62)).cell x2A (fun f => f)
          have u0A := (Kept.alloc wr (.cells #[.slice none 0 0, .slice none 0 0, .int .i64 0] 62)).cell u0' (fun f => f)
          have u0B := (Kept.alloc (wr.alloc (.cells #[.slice none 0 0, .slice none 0 0, .int .i64 0] 62)) (.cells #[.slice none 0 0, .slice none 0 0, .int .i64 0] 62)).cell u0A (fun f => f)
          have u1A := (Kept.alloc wr (.cells #[.slice none 0 0, .slice none 0 0, .int .i64 0] 62)).cell u1' (fun f => f)
          have u1B := (Kept.alloc (wr.alloc (.cells #[.slice none 0 0, .slice none 0 0, .int .i64 0] 62)) (.cells #[.slice none 0 0, .slice none 0 0, .int .i64 0] 62)).cell u1A (fun f => f)
          have u2A := (Kept.alloc wr (.cells #[.slice none 0 0, .slice none 0 0, .int .i64 0] 62)).cell u2' (fun f => f)
          have u2B := (Kept.alloc (wr.alloc (.cells #[.slice none 0 0, .slice none 0 0, .int .i64 0] 62)) (.cells #[.slice none 0 0, .slice none 0 0, .int .i64 0] 62)).cell u2A (fun f => f)
          have ltp : w.heap.size < wr.heap.size := World.block_lt_of_cell? wr _ y2
          have nep : w.heap.size ≠ wr.heap.size := Nat.ne_of_lt ltp
          have nfp : w.heap.size ≠ wr.heap.size + 1 := by omega
          have ltq : w.heap.size + 1 < wr.heap.size := World.block_lt_of_cell? wr _ z2
          have neq : w.heap.size + 1 ≠ wr.heap.size := Nat.ne_of_lt ltq
          have nfq : w.heap.size + 1 ≠ wr.heap.size + 1 := by omega
          have ltf : fb < wr.heap.size := World.block_lt_of_cell? wr _ x0'
          have nef : fb ≠ wr.heap.size := Nat.ne_of_lt ltf
          have nff : fb ≠ wr.heap.size + 1 := by omega
          have ltg : gb < wr.heap.size := World.block_lt_of_cell? wr _ u0'
          have neg : gb ≠ wr.heap.size := Nat.ne_of_lt ltg
          have nfg : gb ≠ wr.heap.size + 1 := by omega
          go_wp2_with fail
          go_region
          · clear y2A y2B z2A z2B x0A x0B x1A x1B x2A x2B u0A u0B u1A u1B u2A u2B ltp ltq ltf ltg nep neq nef neg nfp nfq nff nfg y2 z2 x0' x1' x2' u0' u1' u2'
            have KX := ((Kept.alloc wr (.cells #[.slice p1 cs.length r1, .slice p2 os.length r2, .int .i64 sl] 62)).trans (Kept.alloc (wr.alloc (.cells #[.slice p1 cs.length r1, .slice p2 os.length r2, .int .i64 sl] 62)) (.cells #[.slice q1 ds.length s1, .slice q2 ps.length s2, .int .i64 tl] 62)) (fun _ f => f.elim)).trans (Kept.drew _) (fun _ f => f.elim)
            have BX : (((wr.alloc (.cells #[.slice p1 cs.length r1, .slice p2 os.length r2, .int .i64 sl] 62)).alloc (.cells #[.slice q1 ds.length s1, .slice q2 ps.length s2, .int .i64 tl] 62)).drew).heap[wr.heap.size]? = some (.cells #[.slice p1 cs.length r1, .slice p2 os.length r2, .int .i64 sl] 62 (0, 0)) := (Kept.drew _).heap ((Kept.alloc _ _).heap (heap_alloc_new wr _) (fun f => f)) (fun f => f)
            have BY : (((wr.alloc (.cells #[.slice p1 cs.length r1, .slice p2 os.length r2, .int .i64 sl] 62)).alloc (.cells #[.slice q1 ds.length s1, .slice q2 ps.length s2, .int .i64 tl] 62)).drew).heap[wr.heap.size + 1]? = some (.cells #[.slice q1 ds.length s1, .slice q2 ps.length s2, .int .i64 tl] 62 (0, 0)) := (Kept.drew _).heap (by have e := heap_alloc_new (wr.alloc (.cells #[.slice p1 cs.length r1, .slice p2 os.length r2, .int .i64 sl] 62)) (.cells #[.slice q1 ds.length s1, .slice q2 ps.length s2, .int .i64 tl] 62); simpa using e) (fun f => f)
            obtain ⟨V5, hV5⟩ : ∃ V5, V5 = ((wr.alloc (.cells #[.slice p1 cs.length r1, .slice p2 os.length r2, .int .i64 sl] 62)).alloc (.cells #[.slice q1 ds.length s1, .slice q2 ps.length s2, .int .i64 tl] 62)).drew := ⟨_, rfl⟩
            rw [← hV5] at KX BX BY ⊢
            clear hV5
            obtain ⟨k0, k1, k2⟩ := cells3T BX
            obtain ⟨l0', l1', l2'⟩ := cells3T BY
            clear BX BY
            have HKX := hideI KX
            clear KX
            by_cases hsl : sl = tl
            · by_cases hcs : cs = ds
              · have HC1 := fun W (k : Kept (fun _ => False) V5 W) => hideI (sameI_dec cs ds p1 q1 r1 s1 W (I1.out.keptI (HKX.out.trans k (fun _ f => f.elim))) (J1.out.keptI (HKX.out.trans k (fun _ f => f.elim))) (by omega) (by omega) true (by simp [hcs]))
                by_cases hos : os = ps
                · have HC2 := fun W (k : Kept (fun _ => False) V5 W) => hideI (sameI_dec os ps p2 q2 r2 s2 W (I2.out.keptI (HKX.out.trans k (fun _ f => f.elim))) (J2.out.keptI (HKX.out.trans k (fun _ f => f.elim))) (by omega) (by omega) true (by simp [hos]))
                  have HS1 := hideI (HS.out (by rw [hsl, hcs, hos]))
                  have hnn : (sl != tl) = false := by simp [hsl]
                  clear HS HD hcs hos
                  subst hsl
                  go_wp2_with (first
                    | (go_at_call 34; refine (HC1 _ (Kept.refl _ _)).out.mono ?_; clear HC1; rintro e W6 ⟨rfl, K6⟩; have HL6 := hideI K6; have e1 := K6.cell k1 (fun f => f); have f1 := K6.cell l1' (fun f => f); clear K6)
                    | (go_at_call 34; refine (HC2 _ HL6.out).out.mono ?_; clear HC2; rintro e W7 ⟨rfl, K7⟩; have HL7 := hideI (HL6.out.trans K7 (fun _ f => f.elim)); clear K7))
                  go_roundw
                  case rel => exact ⟨k + 1, hlt, by go_num, HS1, hideI ((HK.out.trans HKX.out (fun _ f => f.elim)).trans HL7.out (fun _ f => f.elim))⟩
                  case measure => simp [intOf]; omega
                · have HC2 := fun W (k : Kept (fun _ => False) V5 W) => hideI (sameI_dec os ps p2 q2 r2 s2 W (I2.out.keptI (HKX.out.trans k (fun _ f => f.elim))) (J2.out.keptI (HKX.out.trans k (fun _ f => f.elim))) (by omega) (by omega) false (by simp [hos]))
                  have HD1 := hideI (HD.out (by intro e; injection e with e1 e2 e3; exact hos e2))
                  clear HS HD hcs hos
                  subst hsl
                  go_wp2_with (first
                    | (go_at_call 34; refine (HC1 _ (Kept.refl _ _)).out.mono ?_; clear HC1; rintro e W6 ⟨rfl, K6⟩; have HL6 := hideI K6; have e1 := K6.cell k1 (fun f => f); have f1 := K6.cell l1' (fun f => f); clear K6)
                    | (go_at_call 34; refine (HC2 _ HL6.out).out.mono ?_; clear HC2; rintro e W7 ⟨rfl, K7⟩; have HL7 := hideI (HL6.out.trans K7 (fun _ f => f.elim)); clear K7))
                  go_ret
                  exact smP_no HD1.out (HKV.out.trans ((HK.out.trans HKX.out (fun _ f => f.elim)).trans HL7.out (fun _ f => f.elim)) (fun _ f => f.elim))
              · have HC1 := fun W (k : Kept (fun _ => False) V5 W) => hideI (sameI_dec cs ds p1 q1 r1 s1 W (I1.out.keptI (HKX.out.trans k (fun _ f => f.elim))) (J1.out.keptI (HKX.out.trans k (fun _ f => f.elim))) (by omega) (by omega) false (by simp [hcs]))
                have HD1 := hideI (HD.out (by intro e; injection e with e1 e2 e3; exact hcs e1))
                clear HS HD hcs
                subst hsl
                go_wp2_with (go_at_call 34; refine (HC1 _ (Kept.refl _ _)).out.mono ?_; clear HC1; rintro e W6 ⟨rfl, K6⟩; have HL6 := hideI K6; have e1 := K6.cell k1 (fun f => f); have f1 := K6.cell l1' (fun f => f); clear K6)
                go_ret
                exact smP_no HD1.out (HKV.out.trans ((HK.out.trans HKX.out (fun _ f => f.elim)).trans HL6.out (fun _ f => f.elim)) (fun _ f => f.elim))
            · have HD1 := hideI (HD.out (by intro e; injection e with e1 e2 e3; exact hsl e3))
              have hnn : (sl != tl) = true := by simp [hsl]
              clear HS HD hsl
              go_wp2
              go_ret
              exact smP_no HD1.out (HKV.out.trans (HK.out.trans HKX.out (fun _ f => f.elim)) (fun _ f => f.elim))
          · clear y2A y2B z2A z2B x0A x0B x1A x1B x2A x2B u0A u0B u1A u1B u2A u2B ltp ltq ltf ltg nep neq nef neg nfp nfq nff nfg y2 z2 x0' x1' x2' u0' u1' u2'
            have KX := ((Kept.alloc wr (.cells #[.slice q1 ds.length s1, .slice q2 ps.length s2, .int .i64 tl] 62)).trans (Kept.alloc (wr.alloc (.cells #[.slice q1 ds.length s1, .slice q2 ps.length s2, .int .i64 tl] 62)) (.cells #[.slice p1 cs.length r1, .slice p2 os.length r2, .int .i64 sl] 62)) (fun _ f => f.elim)).trans (Kept.drew _) (fun _ f => f.elim)
            have BX : (((wr.alloc (.cells #[.slice q1 ds.length s1, .slice q2 ps.length s2, .int .i64 tl] 62)).alloc (.cells #[.slice p1 cs.length r1, .slice p2 os.length r2, .int .i64 sl] 62)).drew).heap[wr.heap.size + 1]? = some (.cells #[.slice p1 cs.length r1, .slice p2 os.length r2, .int .i64 sl] 62 (0, 0)) := (Kept.drew _).heap (by have e := heap_alloc_new (wr.alloc (.cells #[.slice q1 ds.length s1, .slice q2 ps.length s2, .int .i64 tl] 62)) (.cells #[.slice p1 cs.length r1, .slice p2 os.length r2, .int .i64 sl] 62); simpa using e) (fun f => f)
            have BY : (((wr.alloc (.cells #[.slice q1 ds.length s1, .slice q2 ps.length s2, .int .i64 tl] 62)).alloc (.cells #[.slice p1 cs.length r1, .slice p2 os.length r2, .int .i64 sl] 62)).drew).heap[wr.heap.size]? = some (.cells #[.slice q1 ds.length s1, .slice q2 ps.length s2, .int .i64 tl] 62 (0, 0)) := (Kept.drew _).heap ((Kept.alloc _ _).heap (heap_alloc_new wr _) (fun f => f)) (fun f => f)
            obtain ⟨V5, hV5⟩ : ∃ V5, V5 = ((wr.alloc (.cells #[.slice q1 ds.length s1, .slice q2 ps.length s2, .int .i64 tl] 62)).alloc (.cells #[.slice p1 cs.length r1, .slice p2 os.length r2, .int .i64 sl] 62)).drew := ⟨_, rfl⟩
            rw [← hV5] at KX BX BY ⊢
            clear hV5
            obtain ⟨k0, k1, k2⟩ := cells3T BX
            obtain ⟨l0', l1', l2'⟩ := cells3T BY
            clear BX BY
            have HKX := hideI KX
            clear KX
            by_cases hsl : sl = tl
            · by_cases hcs : cs = ds
              · have HC1 := fun W (k : Kept (fun _ => False) V5 W) => hideI (sameI_dec cs ds p1 q1 r1 s1 W (I1.out.keptI (HKX.out.trans k (fun _ f => f.elim))) (J1.out.keptI (HKX.out.trans k (fun _ f => f.elim))) (by omega) (by omega) true (by simp [hcs]))
                by_cases hos : os = ps
                · have HC2 := fun W (k : Kept (fun _ => False) V5 W) => hideI (sameI_dec os ps p2 q2 r2 s2 W (I2.out.keptI (HKX.out.trans k (fun _ f => f.elim))) (J2.out.keptI (HKX.out.trans k (fun _ f => f.elim))) (by omega) (by omega) true (by simp [hos]))
                  have HS1 := hideI (HS.out (by rw [hsl, hcs, hos]))
                  have hnn : (sl != tl) = false := by simp [hsl]
                  clear HS HD hcs hos
                  subst hsl
                  go_wp2_with (first
                    | (go_at_call 34; refine (HC1 _ (Kept.refl _ _)).out.mono ?_; clear HC1; rintro e W6 ⟨rfl, K6⟩; have HL6 := hideI K6; have e1 := K6.cell k1 (fun f => f); have f1 := K6.cell l1' (fun f => f); clear K6)
                    | (go_at_call 34; refine (HC2 _ HL6.out).out.mono ?_; clear HC2; rintro e W7 ⟨rfl, K7⟩; have HL7 := hideI (HL6.out.trans K7 (fun _ f => f.elim)); clear K7))
                  go_roundw
                  case rel => exact ⟨k + 1, hlt, by go_num, HS1, hideI ((HK.out.trans HKX.out (fun _ f => f.elim)).trans HL7.out (fun _ f => f.elim))⟩
                  case measure => simp [intOf]; omega
                · have HC2 := fun W (k : Kept (fun _ => False) V5 W) => hideI (sameI_dec os ps p2 q2 r2 s2 W (I2.out.keptI (HKX.out.trans k (fun _ f => f.elim))) (J2.out.keptI (HKX.out.trans k (fun _ f => f.elim))) (by omega) (by omega) false (by simp [hos]))
                  have HD1 := hideI (HD.out (by intro e; injection e with e1 e2 e3; exact hos e2))
                  clear HS HD hcs hos
                  subst hsl
                  go_wp2_with (first
                    | (go_at_call 34; refine (HC1 _ (Kept.refl _ _)).out.mono ?_; clear HC1; rintro e W6 ⟨rfl, K6⟩; have HL6 := hideI K6; have e1 := K6.cell k1 (fun f => f); have f1 := K6.cell l1' (fun f => f); clear K6)
                    | (go_at_call 34; refine (HC2 _ HL6.out).out.mono ?_; clear HC2; rintro e W7 ⟨rfl, K7⟩; have HL7 := hideI (HL6.out.trans K7 (fun _ f => f.elim)); clear K7))
                  go_ret
                  exact smP_no HD1.out (HKV.out.trans ((HK.out.trans HKX.out (fun _ f => f.elim)).trans HL7.out (fun _ f => f.elim)) (fun _ f => f.elim))
              · have HC1 := fun W (k : Kept (fun _ => False) V5 W) => hideI (sameI_dec cs ds p1 q1 r1 s1 W (I1.out.keptI (HKX.out.trans k (fun _ f => f.elim))) (J1.out.keptI (HKX.out.trans k (fun _ f => f.elim))) (by omega) (by omega) false (by simp [hcs]))
                have HD1 := hideI (HD.out (by intro e; injection e with e1 e2 e3; exact hcs e1))
                clear HS HD hcs
                subst hsl
                go_wp2_with (go_at_call 34; refine (HC1 _ (Kept.refl _ _)).out.mono ?_; clear HC1; rintro e W6 ⟨rfl, K6⟩; have HL6 := hideI K6; have e1 := K6.cell k1 (fun f => f); have f1 := K6.cell l1' (fun f => f); clear K6)
                go_ret
                exact smP_no HD1.out (HKV.out.trans ((HK.out.trans HKX.out (fun _ f => f.elim)).trans HL6.out (fun _ f => f.elim)) (fun _ f => f.elim))
            · have HD1 := hideI (HD.out (by intro e; injection e with e1 e2 e3; exact hsl e3))
              have hnn : (sl != tl) = true := by simp [hsl]
              clear HS HD hsl
              go_wp2
              go_ret
              exact smP_no HD1.out (HKV.out.trans (HK.out.trans HKX.out (fun _ f => f.elim)) (fun _ f => f.elim))
        · obtain rfl : k = nN := by omega
          have HE : Hid (p = q) := hideI (by
            have h := HT.out
            rw [List.take_of_length_le (by rw [HNN.out]; exact Nat.le_refl _), List.take_of_length_le (by rw [HNN.out, H6.out]; exact Nat.le_refl _)] at h
            exact pg_ext H3.out HCU.out h H1.out H4.out H2.out)
          go_wp2
          go_ret
          exact ⟨true, rfl, ⟨fun _ => HE.out, fun _ => rfl⟩, HKV.out.trans HK.out (fun _ f => f.elim)⟩
end Go.Proofs.YtdklkpbadopkaaaDoor
