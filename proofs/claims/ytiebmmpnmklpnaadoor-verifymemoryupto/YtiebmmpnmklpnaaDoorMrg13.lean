import Derived.Test.YtiebmmpnmklpnaaDoorIye
import Derived.Test.YtiebmmpnmklpnaaDoorMrg1
import Derived.Test.YtiebmmpnmklpnaaDoorVrd
import Derived.Test.YtiebmmpnmklpnaaDoorMrg10
namespace Go.Proofs.YtiebmmpnmklpnaaDoor
open Go.ChangeShapes Go.WideShapes Go.ChangeAt Go.RowKit

set_option maxRecDepth 20000 in
set_option maxHeartbeats 4000000 in
/-- Two lists that are alike: true, and nothing but draws. -/
theorem sameI_still (l : List Int) (a b : Option Addr) (c d : Nat) (w : World) (hA : IntsAt w a l) (hB : IntsAt w b l) (hl : l.length ≤ 9223372036854775807) :
    Calls Tryd.prog 13 #[.slice a l.length c, .slice b l.length d] w fun e w' => e = .returned (.bool true) ∧ ∃ m, w' = w.drewN m := by
  have HA := hideI hA
  have HB := hideI hB
  clear hA hB
  obtain ⟨nl, hnl⟩ : ∃ nl, nl = l.length := ⟨_, rfl⟩
  rw [← hnl] at hl ⊢
  have HNL := hideI hnl
  clear hnl
  have hne : ((nl : Int) != (nl : Int)) = false := by simp
  go_enter Tryd.func13, Tryd.ntmps13
  go_wp2
  clear hne
  go_loopw [13] (fun v13 wr => ∃ (j m : Nat), j ≤ nl ∧ v13 = .int .i64 j ∧ Hid (wr = w.drewN m)) (fun v13 _ => nl - (intOf v13).toNat)
  case atStart => exact ⟨0, 0, by omega, rfl, hideI rfl⟩
  case round =>
    obtain ⟨j, m, hj, rfl, HM⟩ := hrel
    by_cases hlt : j < nl
    · have hjl : j < l.length := by rw [← HNL.out]; exact hlt
      have hji : (j : Int) < (nl : Int) := by omega
      have HK : Kept (fun _ => False) w wr := by rw [HM.out]; exact Kept.drewN w m
      obtain ⟨b1, o1, rfl, hc1⟩ := HA.out.get hjl
      obtain ⟨b2, o2, rfl, hc2⟩ := HB.out.get hjl
      rw [List.getElem?_eq_getElem hjl, Option.getD_some] at hc1
      rw [List.getElem?_eq_getElem hjl, Option.getD_some] at hc2
      have h0 := HK.cell hc1 (fun f => f)
      have g0 := HK.cell hc2 (fun f => f)
      generalize l[j] = x at *
      have hx0 : (x != x) = false := by simp
      clear hc1 hc2 hjl HK
      go_wp2_with fail
      go_quiet (fail)
      have HKq := hideI (show wr.drewN nq = w.drewN (m + nq) by rw [HM.out, World.drewN_drewN])
      go_wp2
      go_roundw
      case rel => exact ⟨j + 1, _, hlt, by go_num, HKq⟩
      case measure => simp [intOf]; omega
    · obtain rfl : j = nl := by omega
      go_wp2
      go_ret
      exact ⟨rfl, m, HM.out⟩
theorem bytes_cell {w : World} {a : Option Addr} {l : List Int} (h : BytesAt w a l) {j : Nat} (hj : j < l.length) : ∃ b off, a = some ⟨b, off, none⟩ ∧ w.cell? ⟨b, off + j, none⟩ = some (.int .u8 l[j]) := by
  obtain ⟨b, off, e, hc⟩ := h (by intro e; rw [e] at hj; simp at hj)
  have q := hc j hj
  rw [List.getElem?_eq_getElem hj, Option.getD_some] at q
  exact ⟨b, off, e, q⟩
set_option maxRecDepth 20000 in
set_option maxHeartbeats 4000000 in
theorem sameB_still (l : List Int) (a b : Option Addr) (c d : Nat) (w : World) (hA : BytesAt w a l) (hB : BytesAt w b l) (hl : l.length ≤ 9223372036854775807) :
    Calls Tryd.prog 28 #[.slice a l.length c, .slice b l.length d] w fun e w' => e = .returned (.bool true) ∧ ∃ m, w' = w.drewN m := by
  have HA := hideI hA
  have HB := hideI hB
  clear hA hB
  obtain ⟨nl, hnl⟩ : ∃ nl, nl = l.length := ⟨_, rfl⟩
  rw [← hnl] at hl ⊢
  have HNL := hideI hnl
  clear hnl
  have hne : ((nl : Int) != (nl : Int)) = false := by simp
  go_enter Tryd.func28, Tryd.ntmps28
  go_wp2
  clear hne
  go_loopw [13] (fun v13 wr => ∃ (j m : Nat), j ≤ nl ∧ v13 = .int .i64 j ∧ Hid (wr = w.drewN m)) (fun v13 _ => nl - (intOf v13).toNat)
  case atStart => exact ⟨0, 0, by omega, rfl, hideI rfl⟩
  case round =>
    obtain ⟨j, m, hj, rfl, HM⟩ := hrel
    by_cases hlt : j < nl
    · have hjl : j < l.length := by rw [← HNL.out]; exact hlt
      have hji : (j : Int) < (nl : Int) := by omega
      have HK : Kept (fun _ => False) w wr := by rw [HM.out]; exact Kept.drewN w m
      obtain ⟨b1, o1, rfl, hc1⟩ := bytes_cell HA.out hjl
      obtain ⟨b2, o2, rfl, hc2⟩ := bytes_cell HB.out hjl
      have h0 := HK.cell hc1 (fun f => f)
      have g0 := HK.cell hc2 (fun f => f)
      generalize l[j] = x at *
      have hx0 : (x != x) = false := by simp
      clear hc1 hc2 hjl HK
      go_wp2_with fail
      go_quiet (fail)
      have HKq := hideI (show wr.drewN nq = w.drewN (m + nq) by rw [HM.out, World.drewN_drewN])
      go_wp2
      go_roundw
      case rel => exact ⟨j + 1, _, hlt, by go_num, HKq⟩
      case measure => simp [intOf]; omega
    · obtain rfl : j = nl := by omega
      go_wp2
      go_ret
      exact ⟨rfl, m, HM.out⟩
set_option maxRecDepth 20000 in
set_option maxHeartbeats 8000000 in
theorem alike_any (p : Pg) (aA aC aN aD aO bA bC bN bD bO : Option Addr) (cA cC cN cD cO dA dC dN dD dO : Nat) (w : World) (hP : PgAt w p aA aC aN aD aO) (hQ : PgAt w p bA bC bN bD bO) (hO : p.Ok) :
    Calls Tryd.prog 14 #[.agg #[.slice aA p.av.length cA, .slice aC p.cu.length cC, .slice aN p.nr.length cN, .bool p.al, .slice aD p.dr.length cD, .slice aO p.co.length cO], .agg #[.slice bA p.av.length dA, .slice bC p.cu.length dC, .slice bN p.nr.length dN, .bool p.al, .slice bD p.dr.length dD, .slice bO p.co.length dO]] w fun e w' => e = .returned (.bool true) ∧ Kept (fun _ => False) w w' := by
  obtain ⟨l1, l2, l3, l4, l5⟩ := hO.len
  obtain ⟨V, hV⟩ : ∃ V, V = (w.alloc (.cells #[.slice aA p.av.length cA, .slice aC p.cu.length cC, .slice aN p.nr.length cN, .bool p.al, .slice aD p.dr.length cD, .slice aO p.co.length cO] 27)).alloc (.cells #[.slice bA p.av.length dA, .slice bC p.cu.length dC, .slice bN p.nr.length dN, .bool p.al, .slice bD p.dr.length dD, .slice bO p.co.length dO] 27) := ⟨_, rfl⟩
  have KA : Kept (fun _ => False) w V := by rw [hV]; exact (Kept.alloc w _).trans (Kept.alloc _ _) (fun _ f => f.elim)
  have HBP : Hid (V.heap[w.heap.size]? = some (.cells #[.slice aA p.av.length cA, .slice aC p.cu.length cC, .slice aN p.nr.length cN, .bool p.al, .slice aD p.dr.length cD, .slice aO p.co.length cO] 27 (0, 0))) := hideI (by rw [hV]; exact (Kept.alloc _ _).heap (heap_alloc_new w _) (fun f => f))
  have HBQ : Hid (V.heap[w.heap.size + 1]? = some (.cells #[.slice bA p.av.length dA, .slice bC p.cu.length dC, .slice bN p.nr.length dN, .bool p.al, .slice bD p.dr.length dD, .slice bO p.co.length dO] 27 (0, 0))) := hideI (by
    have q := heap_alloc_new (w.alloc (.cells #[.slice aA p.av.length cA, .slice aC p.cu.length cC, .slice aN p.nr.length cN, .bool p.al, .slice aD p.dr.length cD, .slice aO p.co.length cO] 27)) (.cells #[.slice bA p.av.length dA, .slice bC p.cu.length dC, .slice bN p.nr.length dN, .bool p.al, .slice bD p.dr.length dD, .slice bO p.co.length dO] 27)
    rw [show (w.alloc (.cells #[.slice aA p.av.length cA, .slice aC p.cu.length cC, .slice aN p.nr.length cN, .bool p.al, .slice aD p.dr.length cD, .slice aO p.co.length cO] 27)).heap.size = w.heap.size + 1 by simp] at q
    rw [hV]; exact q)
  have HP := hideI (hP.kept KA)
  have HQ := hideI (hQ.kept KA)
  have HO := hideI hO
  have HKA := hideI KA
  have HS1 := fun (W : World) (k : Kept (fun _ => False) V W) => hideI (sameI_still p.av aA bA cA dA W (HP.out.kept k).av (HQ.out.kept k).av (by omega))
  have HS2 := fun (W : World) (k : Kept (fun _ => False) V W) => hideI (sameI_still p.dr aD bD cD dD W (HP.out.kept k).dr (HQ.out.kept k).dr (by omega))
  have HS3 := fun (W : World) (k : Kept (fun _ => False) V W) => hideI (sameB_still p.co aO bO cO dO W (HP.out.kept k).co (HQ.out.kept k).co (by omega))
  obtain ⟨y0, y1, y2, y3, y4, y5⟩ := box6 HBP.out
  obtain ⟨z0, z1, z2, z3, z4, z5⟩ := box6 HBQ.out
  clear KA hP hQ hO
  have hbb : (p.al != p.al) = false := by simp
  have hcc : ((p.cu.length : Int) != (p.cu.length : Int)) = false := by simp
  have hnn : ((p.nr.length : Int) != (p.nr.length : Int)) = false := by simp
  go_enter Tryd.func14, Tryd.ntmps14
  go_wp2_with fail
  rw [← hV]
  clear hV
  have HBP1 := hideI HBP.out
  have HBQ1 := hideI HBQ.out
  clear HBP HBQ y0 y1 y2 y3 y4 y5 z0 z1 z2 z3 z4 z5
  obtain ⟨y0, y1, y2, y3, y4, y5⟩ := box6 HBP1.out
  obtain ⟨z0, z1, z2, z3, z4, z5⟩ := box6 HBQ1.out
  go_wp2_with (first
    | (go_at_call 13; refine (HS1 V (Kept.refl _ _)).out.mono ?_; clear HS1; rintro e W1 ⟨rfl, m1, hm1⟩; have HK1 : Hid (Kept (fun _ => False) V W1) := hideI (by rw [hm1]; exact Kept.drewN _ _); clear hm1; obtain ⟨y0, y1, y2, y3, y4, y5⟩ := box6 (HK1.out.heap HBP1.out (fun f => f)); obtain ⟨z0, z1, z2, z3, z4, z5⟩ := box6 (HK1.out.heap HBQ1.out (fun f => f)))
    | (go_at_call 13; refine (HS2 _ HK1.out).out.mono ?_; clear HS2 y0 y1 y2 y3 y4 y5 z0 z1 z2 z3 z4 z5; rintro e W2 ⟨rfl, m2, hm2⟩; have HK2 : Hid (Kept (fun _ => False) V W2) := hideI (by rw [hm2]; exact HK1.out.trans (Kept.drewN _ _) (fun _ f => f.elim)); clear hm2; obtain ⟨y0, y1, y2, y3, y4, y5⟩ := box6 (HK2.out.heap HBP1.out (fun f => f)); obtain ⟨z0, z1, z2, z3, z4, z5⟩ := box6 (HK2.out.heap HBQ1.out (fun f => f)))
    | (go_at_call 28; refine (HS3 _ HK2.out).out.mono ?_; clear HS3 y0 y1 y2 y3 y4 y5 z0 z1 z2 z3 z4 z5; rintro e W3 ⟨rfl, m3, hm3⟩; have HK3 : Hid (Kept (fun _ => False) V W3) := hideI (by rw [hm3]; exact HK2.out.trans (Kept.drewN _ _) (fun _ f => f.elim)); clear hm3; obtain ⟨y0, y1, y2, y3, y4, y5⟩ := box6 (HK3.out.heap HBP1.out (fun f => f)); obtain ⟨z0, z1, z2, z3, z4, z5⟩ := box6 (HK3.out.heap HBQ1.out (fun f => f))))
  clear hbb hcc hnn y0 y1 y2 y3 y4 y5 z0 z1 z2 z3 z4 z5
  obtain ⟨nC, hnC⟩ : ∃ nC, nC = p.cu.length := ⟨_, rfl⟩
  obtain ⟨nN, hnN⟩ : ∃ nN, nN = p.nr.length := ⟨_, rfl⟩
  have HNC := hideI hnC
  have HNN := hideI hnN
  rw [← hnC, ← hnN] at HBP1 HBQ1 ⊢
  rw [← hnC] at l3
  rw [← hnN] at l4
  clear hnC hnN
  go_loopw [57] (fun v57 wr => ∃ (j : Nat), j ≤ nC ∧ v57 = .int .i64 j ∧ Hid (Kept (fun _ => False) V wr)) (fun v57 _ => nC - (intOf v57).toNat)
  case atStart => exact ⟨0, by omega, rfl, HK3⟩
  case round =>
    obtain ⟨j, hj, rfl, HK⟩ := hrel
    by_cases hlt : j < nC
    · have hjl : j < p.cu.length := by rw [← HNC.out]; exact hlt
      have hji : (j : Int) < (nC : Int) := by omega
      obtain ⟨fb, fo, ea, hc⟩ := HP.out.cu (by intro e; rw [e] at hjl; simp at hjl)
      obtain ⟨gb, go, eb, hd⟩ := HQ.out.cu (by intro e; rw [e] at hjl; simp at hjl)
      obtain ⟨-, y1, -, -, -, -⟩ := box6 (HK.out.heap HBP1.out (fun f => f))
      obtain ⟨-, z1, -, -, -, -⟩ := box6 (HK.out.heap HBQ1.out (fun f => f))
      have x0 := HK.out.cell (hc j hjl).1 (fun f => f)
      have x1 := HK.out.cell (hc j hjl).2 (fun f => f)
      have u0 := HK.out.cell (hd j hjl).1 (fun f => f)
      have u1 := HK.out.cell (hd j hjl).2 (fun f => f)
      subst ea eb
      clear hc hd
      generalize p.cu[j] = c at *
      obtain ⟨f, t⟩ := c
      simp only at x0 x1 u0 u1
      clear hjl
      go_wp2_with fail
      go_quiet (fail)
      have HKq := hideI (HK.out.trans (Kept.drewN wr nq) (fun _ f => f.elim))
      go_wp2
      go_roundw
      case rel => exact ⟨j + 1, hlt, by go_num, HKq⟩
      case measure => simp [intOf]; omega
    · obtain rfl : j = nC := by omega
      obtain ⟨-, -, y2, -, -, -⟩ := box6 (HK.out.heap HBP1.out (fun f => f))
      go_wp2
      clear y2
      go_loopw [75] (fun v75 wr => ∃ (k : Nat), k ≤ nN ∧ v75 = .int .i64 k ∧ Hid (Kept (fun _ => False) V wr)) (fun v75 _ => nN - (intOf v75).toNat)
      case atStart => exact ⟨0, by omega, rfl, HK⟩
      case round =>
        obtain ⟨k, hk, rfl, HK2⟩ := hrel
        by_cases hlt : k < nN
        · have hjl : k < p.nr.length := by rw [← HNN.out]; exact hlt
          have hji : (k : Int) < (nN : Int) := by omega
          obtain ⟨fb, fo, ea, hc⟩ := HP.out.nr (by intro e; rw [e] at hjl; simp at hjl)
          obtain ⟨gb, go, eb, hd⟩ := HQ.out.nr (by intro e; rw [e] at hjl; simp at hjl)
          obtain ⟨-, -, y2, -, -, -⟩ := box6 (HK2.out.heap HBP1.out (fun f => f))
          obtain ⟨-, -, z2, -, -, -⟩ := box6 (HK2.out.heap HBQ1.out (fun f => f))
          obtain ⟨p1, r1, p2, r2, x0, x1, x2, i1, i2⟩ := hc k hjl
          obtain ⟨q1, s1, q2, s2, u0, u1, u2, j1, j2⟩ := hd k hjl
          have x0' := HK2.out.cell x0 (fun f => f)
          have x1' := HK2.out.cell x1 (fun f => f)
          have x2' := HK2.out.cell x2 (fun f => f)
          have u0' := HK2.out.cell u0 (fun f => f)
          have u1' := HK2.out.cell u1 (fun f => f)
          have u2' := HK2.out.cell u2 (fun f => f)
          obtain ⟨n1, n2⟩ := HO.out.nlen (List.getElem_mem hjl)
          subst ea eb
          clear hc hd x0 x1 x2 u0 u1 u2
          generalize p.nr[k] = c at *
          obtain ⟨cs, os, sl⟩ := c
          simp only at x0' x1' x2' u0' u1' u2' i1 i2 j1 j2 n1 n2
          have HT1 := fun (n : Nat) => hideI (sameI_still cs p1 q1 r1 s1 (wr.drewN n) ((i1.keptI HK2.out).keptI (Kept.drewN wr n)) ((j1.keptI HK2.out).keptI (Kept.drewN wr n)) (by omega))
          have HT2 := fun (n : Nat) => hideI (sameI_still os p2 q2 r2 s2 (wr.drewN n) ((i2.keptI HK2.out).keptI (Kept.drewN wr n)) ((j2.keptI HK2.out).keptI (Kept.drewN wr n)) (by omega))
          have hss : (sl != sl) = false := by simp
          clear hjl i1 i2 j1 j2
          obtain ⟨m1, hm1⟩ : ∃ m1, m1 = cs.length := ⟨_, rfl⟩
          obtain ⟨m2, hm2⟩ : ∃ m2, m2 = os.length := ⟨_, rfl⟩
          rw [← hm1] at HT1 x0' u0' n1
          rw [← hm2] at HT2 x1' u1' n2
          clear hm1 hm2
          go_wp2_with fail
          go_quiet (first
            | (go_at_call_of 13 (Value.slice p1 m1 r1); exact Calls.quiet_of (HT1 _).out)
            | (go_at_call_of 13 (Value.slice p2 m2 r2); exact Calls.quiet_of (HT2 _).out))
          have HKq := hideI (HK2.out.trans (Kept.drewN wr nq) (fun _ f => f.elim))
          go_wp2
          go_roundw
          case rel => exact ⟨k + 1, hlt, by go_num, HKq⟩
          case measure => simp [intOf]; omega
        · obtain rfl : k = nN := by omega
          go_wp2
          go_ret
          exact ⟨rfl, HKA.out.trans HK2.out (fun _ f => f.elim)⟩
end Go.Proofs.YtiebmmpnmklpnaaDoor
namespace Go.Proofs.YtiebmmpnmklpnaaDoor
open Go.ChangeShapes Go.WideShapes Go.ChangeAt Go.RowKit

def wyQ (w : World) (p : Pg) (L : List In) (e : Ending) (w' : World) : Prop :=
  (Gd p L → ∃ a c, e = .returned (.tuple #[.slice a L.length c, .bool true]) ∧ IntsAt w' a (hL L) ∧ ∀ ad, a = some ad → w.heap.size ≤ ad.block) ∧ (¬ Gd p L → e = .returned (.tuple #[.slice none 0 0, .bool false])) ∧ Kept (fun _ => False) w w'
theorem wyQ_bad {w : World} {p : Pg} {L : List In} {e : Ending} {w' : World} (h : ¬ Gd p L) (he : e = .returned (.tuple #[.slice none 0 0, .bool false])) (k : Kept (fun _ => False) w w') : wyQ w p L e w' := ⟨fun g => absurd g h, fun _ => he, k⟩
theorem wyQ_good {w : World} {p : Pg} {L : List In} {e : Ending} {w' : World} {a : Option Addr} {c n : Nat} (h : Gd p L) (hn : n = L.length) (he : e = .returned (.tuple #[.slice a n c, .bool true])) (hi : IntsAt w' a (hL L)) (hb : ∀ ad, a = some ad → w.heap.size ≤ ad.block) (k : Kept (fun _ => False) w w') : wyQ w p L e w' := by
  subst hn
  exact ⟨fun _ => ⟨a, c, he, hi, hb⟩, fun g => absurd h g, k⟩
set_option maxRecDepth 20000 in
set_option maxHeartbeats 32000000 in
theorem rwalk_own (p : Pg) (L : List In) (aA aC aN aD aO aL : Option Addr) (cA cC cN cD cO cL : Nat) (w : World) (hO : p.Ok) (hIn : InsAt w aL L) (hl : L.length ≤ 67108864) (hl0 : 1 ≤ L.length) (hLx : ∀ x ∈ L, 0 ≤ x.op ∧ x.op < 17) (hLo : ∀ x ∈ L, x.Ok) :
    Calls Tryd.prog 26 #[.agg #[.slice aA p.av.length cA, .slice aC p.cu.length cC, .slice aN p.nr.length cN, .bool p.al, .slice aD p.dr.length cD, .slice aO p.co.length cO], .slice aL L.length cL] w (wyQ w p L) := by
  have HO := hideI hO
  have HLX := hideI hLx
  have HLO := hideI hLo
  have HIN := hideI hIn
  obtain ⟨n, hn⟩ : ∃ n, n = L.length := ⟨_, rfl⟩
  have HN := hideI hn
  rw [← hn] at hl hl0 ⊢
  obtain ⟨bx, hbx⟩ : ∃ bx, bx = Obj.cells #[.slice aA p.av.length cA, .slice aC p.cu.length cC, .slice aN p.nr.length cN, .bool p.al, .slice aD p.dr.length cD, .slice aO p.co.length cO] 27 (0, 0) := ⟨_, rfl⟩
  obtain ⟨oI, hoI⟩ : ∃ oI, oI = Obj.cells (is (List.replicate n (0 : Int))).toArray 3 (0, 0) := ⟨_, rfl⟩
  have mk1 := mkI_run n (w.alloc bx) (by omega)
  have z1 : (w.alloc bx).heap.size = w.heap.size + 1 := by simp
  have K1 : Kept (fun _ => False) w (w.alloc bx) := Kept.alloc _ _
  have K2 : Kept (fun _ => False) (w.alloc bx) ((w.alloc bx).alloc oI) := Kept.alloc _ _
  have HROW : Hid (((w.alloc bx).alloc oI).heap[w.heap.size + 1]? = some (.cells (is (flV n 0)).toArray 3 (0, 0))) := hideI (by
    have q := heap_alloc_new (w.alloc bx) oI
    rw [z1, hoI] at q; rw [hoI, flV_zero]; exact q)
  have HBX : Hid (((w.alloc bx).alloc oI).heap[w.heap.size]? = some bx) := hideI (K2.heap (by rw [hbx]; exact heap_alloc_new w _) (fun f => f))
  rw [z1] at mk1
  rw [show (Obj.cells (is (List.replicate n (0 : Int))).toArray 3) = oI from hoI.symm] at mk1
  have HK1 := hideI (K1.trans K2 (fun _ f => f.elim))
  subst hbx
  clear hO hLx hLo hIn hn z1 K1 K2 hoI
  go_enter Tryd.func26, Tryd.ntmps26
  go_wp2
  clear mk1
  obtain ⟨gH, hgH⟩ : ∃ gH, gH = w.heap.size + 1 := ⟨_, rfl⟩
  rw [← hgH] at HROW ⊢
  obtain ⟨V, hV⟩ : ∃ V, V = (w.alloc (.cells #[.slice aA p.av.length cA, .slice aC p.cu.length cC, .slice aN p.nr.length cN, .bool p.al, .slice aD p.dr.length cD, .slice aO p.co.length cO] 27)).alloc oI := ⟨_, rfl⟩
  rw [← hV] at HROW HBX HK1 ⊢
  have HGW : Hid (w.heap.size ≤ gH ∧ w.heap.size ≠ gH) := hideI (by omega)
  clear hgH hV
  go_loopw [8] (fun v8 wr => ∃ (k : Nat), k ≤ n ∧ v8 = .int .i64 k ∧ Hid (wr.heap[gH]? = some (.cells (is (flV n k)).toArray 3 (0, 0))) ∧ Hid (Kept (fun i => i = gH) V wr)) (fun v8 _ => n - (intOf v8).toNat)
  case atStart => exact ⟨0, by omega, rfl, HROW, hideI (Kept.refl _ _)⟩
  case round =>
    obtain ⟨k, hk, rfl, HR, HK⟩ := hrel
    clear HROW
    by_cases hlt : k < n
    · have hki : (k : Int) < (n : Int) := by omega
      obtain ⟨q1, q2⟩ := row_hat HR.out (t := k) (by simp [flV]; exact hlt)
      have HR2 := hideI (row_put (t := k) (-1) HR.out)
      rw [flV_set] at HR2
      go_wp2
      go_roundw
      case rel => exact ⟨k + 1, hlt, by go_num, HR2, hideI (HK.out.trans (Kept.setCell _ ⟨gH, k, none⟩ _) (fun i e => .inl e))⟩
      case measure => simp [intOf]; omega
    · obtain rfl : k = n := by omega
      have hki : ¬ (k : Int) < (k : Int) := by omega
      have hn0 : (0 : Int) < (k : Int) := by omega
      have hr := HR.out
      rw [flV_all] at hr
      obtain ⟨q1, q2⟩ := row_hat hr (t := 0) (by simp; omega)
      have HR1 := hideI (row_put (t := 0) 0 hr)
      have HW1 : Hid (Rw p L ((List.replicate k (-1)).set 0 0) 0) := hideI (by rw [HN.out]; exact rw_start (by rw [← HN.out]; exact hl0))
      have HKs := hideI (HK.out.trans (Kept.setCell _ ⟨gH, 0, none⟩ (.int .i64 0)) (fun i e => .inl e))
      clear HR hr HK hlt
      go_wp2
      clear q1 q2
      go_loopw [9] (fun v9 wr => ∃ (i : Nat) (Hs : List Int), i < k ∧ v9 = .int .i64 i ∧ Hid (Rw p L Hs i) ∧ Hid (wr.heap[gH]? = some (.cells (is Hs).toArray 3 (0, 0))) ∧ Hid (Kept (fun i => i = gH) V wr)) (fun v9 _ => k - (intOf v9).toNat)
      case atStart => exact ⟨0, _, by omega, rfl, HW1, HR1, HKs⟩
      case round =>
        obtain ⟨i, Hs, hi, rfl, HW, HR, HK⟩ := hrel
        clear HW1 HR1 HKs
        have hii : (i : Int) < (k : Int) := by omega
        have hiL : i < L.length := by rw [← HN.out]; exact hi
        obtain ⟨fb, fo, ea, hc⟩ := HIN.out (by intro e; rw [e] at hiL; simp at hiL)
        obtain ⟨x0, x1, x2⟩ := hc i hiL
        subst ea
        have KF : ∀ W, Kept (fun i => i = gH) V W → Kept (fun _ => False) w W := fun W K => HK1.out.trans K (fun j e => .inr (by rw [e]; exact HGW.out.1))
        have x0 := (KF _ HK.out).cell x0 (fun f => f)
        have x1 := (KF _ HK.out).cell x1 (fun f => f)
        have x2 := (KF _ HK.out).cell x2 (fun f => f)
        obtain ⟨y1, y2⟩ := row_hat HR.out (t := i) (by rw [HW.out.hl]; exact hiL)
        rw [HW.out.at_ i (Nat.le_refl _)] at y1
        have hxo := HLX.out L[i] (List.getElem_mem hiL)
        have hxk := HLO.out L[i] (List.getElem_mem hiL)
        have hle := hA_le L i
        have HGE : Hid (Gd p L → (L[i].op = 0 ↔ i = k - 1) ∧ BhOk L[i] (hA L i) ∧ OnOk p L[i] ∧ ((L[i].op = 15 ∨ L[i].op = 16) → i + 1 + L[i].a < k ∧ hA L (i + 1 + L[i].a) = hA L (i + 1))) := hideI (fun g => by
          rw [HN.out]
          have q := g.pa i hiL
          refine ⟨g.en.2 i hiL, ⟨g.st i hiL, fun e => ?_⟩, ⟨q.1, q.2.1, q.2.2.1, q.2.2.2.1⟩, fun e => gd_skip g hiL e⟩
          have r := (g.en.2 i hiL).1 e
          have := g.one
          rw [← r] at this; exact this)
        have HRK : Hid (∀ (Hs2 : List Int), (L[i].op = 0 ↔ i = k - 1) → BhOk L[i] (hA L i) → OnOk p L[i] → ((L[i].op = 15 ∨ L[i].op = 16) → i + 1 + L[i].a < k ∧ hs Hs2 (i + 1 + L[i].a) = (hA L (i + 1) : Nat)) → Rk p L Hs2 i) := hideI (fun Hs2 a b c d => ⟨hiL, by rw [← HN.out]; exact a, b, c, by rw [← HN.out]; exact d⟩)
        have HNX : Hid (hA L i + 1 - tkN L[i] = hA L (i + 1)) := hideI (hA_next hiL).symm
        generalize L[i] = x at *
        obtain ⟨xp, xa, xb⟩ := x
        simp only at x0 x1 x2 hxo hxk HGE HRK
        have HXG : Hid (wr.heap.size ≠ gH) := hideI (by have := lt_of_block HR.out; omega)
        have KX := Kept.alloc wr (.cells #[.int .i64 xp, .int .u64 (xa : Int), .int .u64 (xb : Int)] 74)
        have HXB := hideI (heap_alloc_new wr (.cells #[.int .i64 xp, .int .u64 (xa : Int), .int .u64 (xb : Int)] 74 (0, 0)))
        have HRx := hideI (KX.heap HR.out (fun f => f))
        have HKx := hideI (HK.out.trans (KX.mono (fun _ f => f.elim)) (fun _ e => .inl e))
        have y1x := KX.cell y1 (fun f => f)
        have HBv := fun (W : World) (K : Kept (fun i => i = gH) V W) => hideI (box6 (K.heap HBX.out (fun e => HGW.out.2 e)))
        have hi0 : (0 : Int) ≤ (i : Int) := by omega
        obtain ⟨vok, hvok⟩ := asB (BhOk ⟨xp, xa, xb⟩ (hA L i))
        have HVO : Hid (IsB vok (BhOk ⟨xp, xa, xb⟩ (hA L i))) := hideI hvok
        have HBH := fun (W : World) => hideI (rbehind_any ⟨xp, xa, xb⟩ (hA L i) W hxk hxo (by omega) vok hvok)
        obtain ⟨von, hvon⟩ := asB (OnOk p ⟨xp, xa, xb⟩)
        have HNO : Hid (IsB von (OnOk p ⟨xp, xa, xb⟩)) := hideI hvon
        have HON := fun (W : World) => hideI (roperands_vany p ⟨xp, xa, xb⟩ (.slice aA p.av.length cA) (.slice aC p.cu.length cC) (.slice aN p.nr.length cN) (.bool p.al) (.slice aD p.dr.length cD) (.slice aO p.co.length cO) aA aC aN cA cC cN W rfl rfl rfl HO.out hxk von hvon)
        simp only at HBH HON
        obtain ⟨h, hh⟩ : ∃ h, h = hA L i := ⟨_, rfl⟩
        have HH := hideI hh
        rw [← hh] at y1 y1x HBH HVO HNX HGE HRK hle
        clear hvok hvon hc hh KX
        go_wp2_with fail
        refine wp_region_held (S := fun W => Kept (fun _ => False) (wr.alloc (.cells #[.int .i64 xp, .int .u64 (xa : Int), .int .u64 (xb : Int)] 74)) W) (by kernel_rfl) ?_
        change wpAnyH _ _ _ _ _ _ _ _ (World.drew _)
        have hS0 := Kept.drew (wr.alloc (.cells #[.int .i64 xp, .int .u64 (xa : Int), .int .u64 (xb : Int)] 74))
        refine takeR (i := 0) (d := 38) (v := .agg #[.int .i64 xp, .int .u64 (xa : Int), .int .u64 (xb : Int)]) rfl rfl (by kernel_rfl) (by kernel_rfl) (by kernel_rfl) (fun _ _ _ h => h) (Or.inl ⟨by rfl, fun W hW => ?_⟩) hS0 ?_
        · (have q := bin3 (hW.heap HXB.out (fun f => f)); obtain ⟨w0, w1, w2⟩ := q; go_simp)
        simp only [Act.put, List.setIfInBounds_toArray, List.set_cons_zero, List.set_cons_succ]
        refine takeR (i := 1) (d := 39) (v := .slice (some ⟨gH, 0, none⟩) k k) rfl rfl (by kernel_rfl) (by kernel_rfl) (by kernel_rfl) (fun _ _ _ h => h) (Or.inl ⟨by rfl, fun W hW => ?_⟩) hS0 ?_
        · (go_simp)
        simp only [Act.put, List.setIfInBounds_toArray, List.set_cons_zero, List.set_cons_succ]
        refine takeR (i := 2) (d := 40) (v := .int .i64 (i : Int)) rfl rfl (by kernel_rfl) (by kernel_rfl) (by kernel_rfl) (fun _ _ _ h => h) (Or.inl ⟨by rfl, fun W hW => ?_⟩) hS0 ?_
        · (go_simp)
        simp only [Act.put, List.setIfInBounds_toArray, List.set_cons_zero, List.set_cons_succ]
        refine takeR (i := 3) (d := 41) (v := .pointer (some ⟨gH, i, none⟩)) rfl rfl (by kernel_rfl) (by kernel_rfl) (by kernel_rfl) (fun _ _ _ h => h) (Or.inl ⟨by rfl, fun W hW => ?_⟩) hS0 ?_
        · (go_simp)
        simp only [Act.put, List.setIfInBounds_toArray, List.set_cons_zero, List.set_cons_succ]
        refine takeR (i := 4) (d := 42) (v := .int .i64 (h : Int)) rfl rfl (by kernel_rfl) (by kernel_rfl) (by kernel_rfl) (fun _ _ _ h => h) (Or.inl ⟨by rfl, fun W hW => ?_⟩) hS0 ?_
        · (have q := hW.cell y1x (fun f => f); go_simp)
        simp only [Act.put, List.setIfInBounds_toArray, List.set_cons_zero, List.set_cons_succ]
        refine wpAnyH_all (rs := [5]) (by kernel_rfl) (by simp) ?_
        intro j hj
        obtain rfl : j = 5 := by simpa using hj
        unfold wpOp
        go_simp
        first | refine (HBH _).out.mono ?_ | refine Or.inl ((HBH _).out.mono ?_)
        clear HBH
        rintro e W8 ⟨⟨z, rfl, hz⟩, K8⟩
        have HZ := hideI hz
        have K9 := hS0.trans K8 (fun _ f => f.elim)
        clear hz K8
        refine ⟨K9, ?_⟩
        refine takeR (i := 6) (d := 37) (v := .tuple #[.int .i64 z, .bool vok]) rfl rfl (by kernel_rfl) (by kernel_rfl) (by kernel_rfl) (fun _ _ _ h => h) (Or.inl ⟨by rfl, fun W hW => ?_⟩) K9 ?_
        · (go_simp)
        simp only [Act.put, List.setIfInBounds_toArray, List.set_cons_zero, List.set_cons_succ]
        refine takeR (i := 7) (d := 44) (v := .int .i64 z) rfl rfl (by kernel_rfl) (by kernel_rfl) (by kernel_rfl) (fun _ _ _ h => h) (Or.inl ⟨by rfl, fun W hW => ?_⟩) K9 ?_
        · (go_simp)
        simp only [Act.put, List.setIfInBounds_toArray, List.set_cons_zero, List.set_cons_succ]
        refine takeR (i := 8) (d := 45) (v := .bool vok) rfl rfl (by kernel_rfl) (by kernel_rfl) (by kernel_rfl) (fun _ _ _ h => h) (Or.inl ⟨by rfl, fun W hW => ?_⟩) K9 ?_
        · (go_simp)
        simp only [Act.put, List.setIfInBounds_toArray, List.set_cons_zero, List.set_cons_succ]
        refine takeR (i := 9) (d := 11) (v := .int .i64 z) rfl rfl (by kernel_rfl) (by kernel_rfl) (by kernel_rfl) (fun _ _ _ h => h) (Or.inl ⟨by rfl, fun W hW => ?_⟩) K9 ?_
        · (go_simp)
        simp only [Act.put, List.setIfInBounds_toArray, List.set_cons_zero, List.set_cons_succ]
        refine takeR (i := 10) (d := 12) (v := .bool vok) rfl rfl (by kernel_rfl) (by kernel_rfl) (by kernel_rfl) (fun _ _ _ h => h) (Or.inl ⟨by rfl, fun W hW => ?_⟩) K9 ?_
        · (go_simp)
        simp only [Act.put, List.setIfInBounds_toArray, List.set_cons_zero, List.set_cons_succ]
        refine wpAnyH_done (by kernel_rfl) ?_ _
        have HR8 := hideI (K9.heap HRx.out (fun f => f))
        have HX8 := hideI (K9.heap HXB.out (fun f => f))
        have HK8 := hideI (HKx.out.trans (K9.mono (fun _ f => f.elim)) (fun _ e => .inl e))
        have y18 := K9.cell y1x (fun f => f)
        obtain ⟨b0, b1, b2, b3, b4, b5⟩ := (HBv _ HK8.out).out
        obtain ⟨x8, x9, x10⟩ := bin3 HX8.out
        have hhn : ¬ (h : Int) < 0 := by omega
        clear K9 hS0 HR HK HRx HKx y1 y2 y1x x0 x1 x2 HXB
        cases vok with
        | false =>
          have HG : Hid (¬ Gd p L) := hideI (fun g => HVO.out.no (HGE.out g).2.1)
          clear HGE HRK HON
          go_wp2
          go_ret2
          exact wyQ_bad HG.out rfl (KF _ HK8.out)
        | true =>
          have hz := HZ.out rfl
          rw [HNX.out] at hz
          subst hz
          have HBO := hideI HVO.out.yes
          clear HZ HVO
          have hkk : (k : Int) - 1 = ((k - 1 : Nat) : Int) := by omega
          cases von with
          | false =>
            have HG : Hid (¬ Gd p L) := hideI (fun g => HNO.out.no (HGE.out g).2.2.1)
            clear HGE HRK
            go_wp2_with (go_at_call 46; refine (HON _).out.mono ?_; clear HON; rintro e W9 ⟨rfl, K9⟩; have HR9 := hideI (K9.heap HR8.out (fun f => f)); have HX9 := hideI (K9.heap HX8.out (fun f => f)); have HK9 := hideI (HK8.out.trans (K9.mono (fun _ f => f.elim)) (fun _ e => .inl e)); obtain ⟨x11, x12, x13⟩ := bin3 HX9.out; obtain ⟨d0, d1, d2, d3, d4, d5⟩ := (HBv _ HK9.out).out; clear K9)
            go_ret2
            exact wyQ_bad HG.out rfl (KF _ HK9.out)
          | true =>
            have HOO := hideI HNO.out.yes
            clear HNO
            by_cases h0 : xp = 0
            · by_cases hl1 : i = k - 1
              · have hb3 : ((i : Int) == (k : Int) - 1) = true := by rw [beq_iff_eq]; omega
                obtain ⟨g1, g2⟩ := rw_end HW.out (by rw [← HN.out]; exact hl1) (HRK.out Hs ⟨fun _ => hl1, fun _ => h0⟩ HBO.out HOO.out (fun e => by rw [h0] at e; rcases e with e | e <;> cases e))
                have HG1 := hideI g1
                have HG2 := hideI g2
                subst h0
                clear HGE HRK hl1 g1 g2 hkk
                go_wp2_with (go_at_call 46; refine (HON _).out.mono ?_; clear HON; rintro e W9 ⟨rfl, K9⟩; have HR9 := hideI (K9.heap HR8.out (fun f => f)); have HX9 := hideI (K9.heap HX8.out (fun f => f)); have HK9 := hideI (HK8.out.trans (K9.mono (fun _ f => f.elim)) (fun _ e => .inl e)); obtain ⟨x11, x12, x13⟩ := bin3 HX9.out; obtain ⟨d0, d1, d2, d3, d4, d5⟩ := (HBv _ HK9.out).out; clear K9)
                go_ret2
                exact wyQ_good HG1.out HN.out rfl (by have := row_ints HR9.out; rw [HG2.out] at this; exact this) (fun ad e => by have q := Option.some.inj e; rw [← q]; exact HGW.out.1) (KF _ HK9.out)
              · have HG : Hid (¬ Gd p L) := hideI (fun g => hl1 ((HGE.out g).1.1 h0))
                have hb3 : ((i : Int) == (k : Int) - 1) = false := by rw [beq_eq_false_iff_ne]; omega
                subst h0
                clear HGE HRK hl1 hkk
                go_wp2_with (go_at_call 46; refine (HON _).out.mono ?_; clear HON; rintro e W9 ⟨rfl, K9⟩; have HR9 := hideI (K9.heap HR8.out (fun f => f)); have HX9 := hideI (K9.heap HX8.out (fun f => f)); have HK9 := hideI (HK8.out.trans (K9.mono (fun _ f => f.elim)) (fun _ e => .inl e)); obtain ⟨x11, x12, x13⟩ := bin3 HX9.out; obtain ⟨d0, d1, d2, d3, d4, d5⟩ := (HBv _ HK9.out).out; clear K9)
                go_ret2
                exact wyQ_bad HG.out rfl (KF _ HK9.out)
            · have hb4 : (xp == 0) = false := by rw [beq_eq_false_iff_ne]; exact h0
              by_cases hl1 : i = k - 1
              · have HG : Hid (¬ Gd p L) := hideI (fun g => h0 ((HGE.out g).1.2 hl1))
                have hb3 : ((i : Int) == (k : Int) - 1) = true := by rw [beq_iff_eq]; omega
                clear HGE HRK hl1 hkk
                go_wp2_with (go_at_call 46; refine (HON _).out.mono ?_; clear HON; rintro e W9 ⟨rfl, K9⟩; have HR9 := hideI (K9.heap HR8.out (fun f => f)); have HX9 := hideI (K9.heap HX8.out (fun f => f)); have HK9 := hideI (HK8.out.trans (K9.mono (fun _ f => f.elim)) (fun _ e => .inl e)); obtain ⟨x11, x12, x13⟩ := bin3 HX9.out; obtain ⟨d0, d1, d2, d3, d4, d5⟩ := (HBv _ HK9.out).out; clear K9)
                go_ret2
                exact wyQ_bad HG.out rfl (KF _ HK9.out)
              · have hb3 : ((i : Int) == (k : Int) - 1) = false := by rw [beq_eq_false_iff_ne]; omega
                have hi1 : i + 1 < k := by omega
                have hi1L : i + 1 < L.length := by rw [← HN.out]; exact hi1
                have hi1i : (i : Int) + 1 < (k : Int) := by omega
                obtain ⟨h1, hh1⟩ : ∃ h1, h1 = hA L (i + 1) := ⟨_, rfl⟩
                have HH1 := hideI hh1
                rw [← hh1] at HNX HGE HRK ⊢
                obtain ⟨u1, u2⟩ := row_hat HR8.out (t := i + 1) (by rw [HW.out.hl]; exact hi1L)
                obtain ⟨u, hu⟩ : ∃ u, u = hs Hs (i + 1) := ⟨_, rfl⟩
                rw [← hu] at u1
                have HU := hideI hu
                clear hu hh1 hkk
                by_cases hcf : 0 ≤ u ∧ u ≠ (h1 : Int)
                · have HG : Hid (¬ Gd p L) := hideI (fun g => hcf.2 (by have q := HW.out.gd g (i + 1) hi1L (by rw [← HU.out]; exact hcf.1); rw [← HU.out, ← HH1.out] at q; exact q))
                  obtain ⟨c1, c2⟩ := hcf
                  have c2b : (u != (h1 : Int)) = true := by rw [bne_iff_ne]; exact c2
                  clear HGE HRK
                  go_wp2_with (go_at_call 46; refine (HON _).out.mono ?_; clear HON; rintro e W9 ⟨rfl, K9⟩; have HR9 := hideI (K9.heap HR8.out (fun f => f)); have HX9 := hideI (K9.heap HX8.out (fun f => f)); have HK9 := hideI (HK8.out.trans (K9.mono (fun _ f => f.elim)) (fun _ e => .inl e)); obtain ⟨x11, x12, x13⟩ := bin3 HX9.out; have u19 := K9.cell u1 (fun f => f); clear K9)
                  go_ret2
                  exact wyQ_bad HG.out rfl (KF _ HK9.out)
                · have HWa := hideI (rw_set HW.out hi1L (by omega) (by rw [← HU.out]; exact hcf) (fun _ => HH1.out.symm))
                  have hcs : u < 0 ∨ (0 ≤ u ∧ u = (h1 : Int)) := by
                    by_cases q : 0 ≤ u
                    · exact .inr ⟨q, Classical.byContradiction (fun e => hcf ⟨q, e⟩)⟩
                    · exact .inl (by omega)
                  clear hcf
                  rcases hcs with c1 | ⟨c1, c2⟩
                  · have c1n : ¬ (0 ≤ u) := by omega
                    clear c1
                    have hln : (Hs.set (i + 1) (h1 : Int)).length = L.length := by rw [List.length_set]; exact HW.out.hl
                    have hs1 : hs (Hs.set (i + 1) (h1 : Int)) (i + 1) = (h1 : Nat) := hs_same _ (by rw [HW.out.hl]; exact hi1L)
                    by_cases hsk : xp = 15 ∨ xp = 16
                    · have hop : (xp == 15) = true ∧ xp = 15 ∨ (xp == 15) = false ∧ (xp == 16) = true ∧ xp = 16 := by
                        rcases hsk with e | e
                        · exact .inl ⟨by rw [e]; rfl, e⟩
                        · exact .inr ⟨by rw [e]; rfl, by rw [e]; rfl, e⟩
                      have g1 : IntKind.u64.wrap ((k : Int) - (i : Int) - 1) = (k : Int) - (i : Int) - 1 := by rw [IntKind.wrap_u64]; omega
                      by_cases hin2 : i + 1 + xa < k
                      · have g2 : ¬ (xa : Int) ≥ (k : Int) - (i : Int) - 1 := by omega
                        have g3 : IntKind.i64.wrap (xa : Int) = (xa : Int) := by rw [IntKind.wrap_i64]; omega
                        have g4 : (i : Int) + 1 + (xa : Int) < (k : Int) := by omega
                        have g5 : ¬ (i : Int) + 1 + (xa : Int) < 0 := by omega
                        have g6 : ((i : Int) + 1 + (xa : Int)).toNat = i + 1 + xa := by omega
                        have hin2L : i + 1 + xa < L.length := by rw [← HN.out]; exact hin2
                        have HLL : Hid (i + 1 + xa < (Hs.set (i + 1) (h1 : Int)).length) := hideI (by rw [hln]; exact hin2L)
                        obtain ⟨v, hv⟩ : ∃ v, v = hs (Hs.set (i + 1) (h1 : Int)) (i + 1 + xa) := ⟨_, rfl⟩
                        have HVD := hideI hv
                        by_cases hcf : 0 ≤ v ∧ v ≠ (h1 : Int)
                        · have HG : Hid (¬ Gd p L) := hideI (fun g => hcf.2 (by
                            have q := HWa.out.gd g (i + 1 + xa) hin2L (by rw [← hv]; exact hcf.1)
                            rw [← hv] at q
                            rw [q, ((HGE.out g).2.2.2 hsk).2]))
                          obtain ⟨d1, d2⟩ := hcf
                          have d2b : (v != (h1 : Int)) = true := by rw [bne_iff_ne]; exact d2
                          clear HGE HRK hsk hv hin2 hin2L hln hs1
                          rcases hop with ⟨o1, rfl⟩ | ⟨o1, o2, rfl⟩
                          all_goals
                            go_wp2_with (go_at_call 46; refine (HON _).out.mono ?_; clear HON; rintro e W9 ⟨rfl, K9⟩; have HR9 := hideI (K9.heap HR8.out (fun f => f)); have HX9 := hideI (K9.heap HX8.out (fun f => f)); have HK9 := hideI (HK8.out.trans (K9.mono (fun _ f => f.elim)) (fun _ e => .inl e)); obtain ⟨x11, x12, x13⟩ := bin3 HX9.out; obtain ⟨f1, f2⟩ := row_hat HR9.out (t := i + 1) (by rw [HW.out.hl]; exact hi1L); rw [← HU.out] at f1; have HRa := hideI (row_put (t := i + 1) (h1 : Int) HR9.out); have HKa := hideI (HK9.out.trans (Kept.setCell _ ⟨gH, i + 1, none⟩ (.int .i64 (h1 : Int))) (fun i e => .inl e)); obtain ⟨x14, x15, x16⟩ := bin3 ((Kept.setCell W9 ⟨gH, i + 1, none⟩ (.int .i64 (h1 : Int))).heap HX9.out (fun e => HXG.out e)); obtain ⟨e1, e2⟩ := row_hat HRa.out (t := i + 1 + xa) HLL.out; rw [← HVD.out] at e1; clear K9)
                            go_ret2
                            exact wyQ_bad HG.out rfl (KF _ HKa.out)
                        · have hWb := rw_set HWa.out hin2L (by omega) (by rw [← hv]; exact hcf) (fun g => ((HGE.out g).2.2.2 hsk).2)
                          have hs2 : hs ((Hs.set (i + 1) (h1 : Int)).set (i + 1 + xa) (h1 : Int)) (i + 1) = (h1 : Nat) := by
                            by_cases e : i + 1 + xa = i + 1
                            · rw [e, hs_same _ (by rw [hln]; exact hi1L)]
                            · rw [hs_other _ e]; exact hs1
                          have HWc := hideI (rw_next hWb hi1L (by rw [← HH1.out]; exact hs2) (HRK.out _ ⟨fun e => absurd e h0, fun e => absurd e hl1⟩ HBO.out HOO.out (fun _ => ⟨hin2, hs_same _ HLL.out⟩)))
                          have hcs : v < 0 ∨ (0 ≤ v ∧ v = (h1 : Int)) := by
                            by_cases q : 0 ≤ v
                            · exact .inr ⟨q, Classical.byContradiction (fun e => hcf ⟨q, e⟩)⟩
                            · exact .inl (by omega)
                          clear HGE HRK hsk hv hin2 hin2L hln hs1 hs2 hWb hcf
                          rcases hcs with d1 | ⟨d1, d2⟩
                          · have d1n : ¬ (0 ≤ v) := by omega
                            clear d1
                            rcases hop with ⟨o1, rfl⟩ | ⟨o1, o2, rfl⟩
                            all_goals
                              go_wp2_with (go_at_call 46; refine (HON _).out.mono ?_; clear HON; rintro e W9 ⟨rfl, K9⟩; have HR9 := hideI (K9.heap HR8.out (fun f => f)); have HX9 := hideI (K9.heap HX8.out (fun f => f)); have HK9 := hideI (HK8.out.trans (K9.mono (fun _ f => f.elim)) (fun _ e => .inl e)); obtain ⟨x11, x12, x13⟩ := bin3 HX9.out; obtain ⟨f1, f2⟩ := row_hat HR9.out (t := i + 1) (by rw [HW.out.hl]; exact hi1L); rw [← HU.out] at f1; have HRa := hideI (row_put (t := i + 1) (h1 : Int) HR9.out); have HKa := hideI (HK9.out.trans (Kept.setCell _ ⟨gH, i + 1, none⟩ (.int .i64 (h1 : Int))) (fun i e => .inl e)); obtain ⟨x14, x15, x16⟩ := bin3 ((Kept.setCell W9 ⟨gH, i + 1, none⟩ (.int .i64 (h1 : Int))).heap HX9.out (fun e => HXG.out e)); obtain ⟨e1, e2⟩ := row_hat HRa.out (t := i + 1 + xa) HLL.out; rw [← HVD.out] at e1; clear K9)
                              have HRb := hideI (row_put (t := i + 1 + xa) (h1 : Int) HRa.out)
                              have HKb := hideI (HKa.out.trans (Kept.setCell _ ⟨gH, i + 1 + xa, none⟩ (.int .i64 (h1 : Int))) (fun i e => .inl e))
                              go_wp2
                              go_roundw
                              case rel => exact ⟨i + 1, _, hi1, by go_num, HWc, HRb, HKb⟩
                              case measure => simp [intOf]; omega
                          · have d2b : (v != (h1 : Int)) = false := by rw [bne_eq_false_iff_eq]; exact d2
                            clear d2
                            rcases hop with ⟨o1, rfl⟩ | ⟨o1, o2, rfl⟩
                            all_goals
                              go_wp2_with (go_at_call 46; refine (HON _).out.mono ?_; clear HON; rintro e W9 ⟨rfl, K9⟩; have HR9 := hideI (K9.heap HR8.out (fun f => f)); have HX9 := hideI (K9.heap HX8.out (fun f => f)); have HK9 := hideI (HK8.out.trans (K9.mono (fun _ f => f.elim)) (fun _ e => .inl e)); obtain ⟨x11, x12, x13⟩ := bin3 HX9.out; obtain ⟨f1, f2⟩ := row_hat HR9.out (t := i + 1) (by rw [HW.out.hl]; exact hi1L); rw [← HU.out] at f1; have HRa := hideI (row_put (t := i + 1) (h1 : Int) HR9.out); have HKa := hideI (HK9.out.trans (Kept.setCell _ ⟨gH, i + 1, none⟩ (.int .i64 (h1 : Int))) (fun i e => .inl e)); obtain ⟨x14, x15, x16⟩ := bin3 ((Kept.setCell W9 ⟨gH, i + 1, none⟩ (.int .i64 (h1 : Int))).heap HX9.out (fun e => HXG.out e)); obtain ⟨e1, e2⟩ := row_hat HRa.out (t := i + 1 + xa) HLL.out; rw [← HVD.out] at e1; clear K9)
                              have HRb := hideI (row_put (t := i + 1 + xa) (h1 : Int) HRa.out)
                              have HKb := hideI (HKa.out.trans (Kept.setCell _ ⟨gH, i + 1 + xa, none⟩ (.int .i64 (h1 : Int))) (fun i e => .inl e))
                              go_wp2
                              go_roundw
                              case rel => exact ⟨i + 1, _, hi1, by go_num, HWc, HRb, HKb⟩
                              case measure => simp [intOf]; omega
                      · have HG : Hid (¬ Gd p L) := hideI (fun g => hin2 ((HGE.out g).2.2.2 hsk).1)
                        have g2 : (xa : Int) ≥ (k : Int) - (i : Int) - 1 := by omega
                        clear HGE HRK hsk hin2 hln hs1
                        rcases hop with ⟨o1, rfl⟩ | ⟨o1, o2, rfl⟩
                        all_goals
                          go_wp2_with (go_at_call 46; refine (HON _).out.mono ?_; clear HON; rintro e W9 ⟨rfl, K9⟩; have HR9 := hideI (K9.heap HR8.out (fun f => f)); have HX9 := hideI (K9.heap HX8.out (fun f => f)); have HK9 := hideI (HK8.out.trans (K9.mono (fun _ f => f.elim)) (fun _ e => .inl e)); obtain ⟨x11, x12, x13⟩ := bin3 HX9.out; obtain ⟨f1, f2⟩ := row_hat HR9.out (t := i + 1) (by rw [HW.out.hl]; exact hi1L); rw [← HU.out] at f1; have HRa := hideI (row_put (t := i + 1) (h1 : Int) HR9.out); have HKa := hideI (HK9.out.trans (Kept.setCell _ ⟨gH, i + 1, none⟩ (.int .i64 (h1 : Int))) (fun i e => .inl e)); obtain ⟨x14, x15, x16⟩ := bin3 ((Kept.setCell W9 ⟨gH, i + 1, none⟩ (.int .i64 (h1 : Int))).heap HX9.out (fun e => HXG.out e)); clear K9)
                          go_ret2
                          exact wyQ_bad HG.out rfl (KF _ HKa.out)
                    · have o1 : (xp == 15) = false := by rw [beq_eq_false_iff_ne]; exact fun e => hsk (.inl e)
                      have o2 : (xp == 16) = false := by rw [beq_eq_false_iff_ne]; exact fun e => hsk (.inr e)
                      have HWc := hideI (rw_next HWa.out hi1L (by rw [← HH1.out]; exact hs1) (HRK.out _ ⟨fun e => absurd e h0, fun e => absurd e hl1⟩ HBO.out HOO.out (fun e => absurd e hsk)))
                      clear HGE HRK hsk hln hs1
                      go_wp2_with (go_at_call 46; refine (HON _).out.mono ?_; clear HON; rintro e W9 ⟨rfl, K9⟩; have HR9 := hideI (K9.heap HR8.out (fun f => f)); have HX9 := hideI (K9.heap HX8.out (fun f => f)); have HK9 := hideI (HK8.out.trans (K9.mono (fun _ f => f.elim)) (fun _ e => .inl e)); obtain ⟨x11, x12, x13⟩ := bin3 HX9.out; obtain ⟨f1, f2⟩ := row_hat HR9.out (t := i + 1) (by rw [HW.out.hl]; exact hi1L); rw [← HU.out] at f1; have HRa := hideI (row_put (t := i + 1) (h1 : Int) HR9.out); have HKa := hideI (HK9.out.trans (Kept.setCell _ ⟨gH, i + 1, none⟩ (.int .i64 (h1 : Int))) (fun i e => .inl e)); obtain ⟨x14, x15, x16⟩ := bin3 ((Kept.setCell W9 ⟨gH, i + 1, none⟩ (.int .i64 (h1 : Int))).heap HX9.out (fun e => HXG.out e)); clear K9)
                      go_roundw
                      case rel => exact ⟨i + 1, _, hi1, by go_num, HWc, HRa, HKa⟩
                      case measure => simp [intOf]; omega
                  · have c2b : (u != (h1 : Int)) = false := by rw [bne_eq_false_iff_eq]; exact c2
                    clear c2
                    have hln : (Hs.set (i + 1) (h1 : Int)).length = L.length := by rw [List.length_set]; exact HW.out.hl
                    have hs1 : hs (Hs.set (i + 1) (h1 : Int)) (i + 1) = (h1 : Nat) := hs_same _ (by rw [HW.out.hl]; exact hi1L)
                    by_cases hsk : xp = 15 ∨ xp = 16
                    · have hop : (xp == 15) = true ∧ xp = 15 ∨ (xp == 15) = false ∧ (xp == 16) = true ∧ xp = 16 := by
                        rcases hsk with e | e
                        · exact .inl ⟨by rw [e]; rfl, e⟩
                        · exact .inr ⟨by rw [e]; rfl, by rw [e]; rfl, e⟩
                      have g1 : IntKind.u64.wrap ((k : Int) - (i : Int) - 1) = (k : Int) - (i : Int) - 1 := by rw [IntKind.wrap_u64]; omega
                      by_cases hin2 : i + 1 + xa < k
                      · have g2 : ¬ (xa : Int) ≥ (k : Int) - (i : Int) - 1 := by omega
                        have g3 : IntKind.i64.wrap (xa : Int) = (xa : Int) := by rw [IntKind.wrap_i64]; omega
                        have g4 : (i : Int) + 1 + (xa : Int) < (k : Int) := by omega
                        have g5 : ¬ (i : Int) + 1 + (xa : Int) < 0 := by omega
                        have g6 : ((i : Int) + 1 + (xa : Int)).toNat = i + 1 + xa := by omega
                        have hin2L : i + 1 + xa < L.length := by rw [← HN.out]; exact hin2
                        have HLL : Hid (i + 1 + xa < (Hs.set (i + 1) (h1 : Int)).length) := hideI (by rw [hln]; exact hin2L)
                        obtain ⟨v, hv⟩ : ∃ v, v = hs (Hs.set (i + 1) (h1 : Int)) (i + 1 + xa) := ⟨_, rfl⟩
                        have HVD := hideI hv
                        by_cases hcf : 0 ≤ v ∧ v ≠ (h1 : Int)
                        · have HG : Hid (¬ Gd p L) := hideI (fun g => hcf.2 (by
                            have q := HWa.out.gd g (i + 1 + xa) hin2L (by rw [← hv]; exact hcf.1)
                            rw [← hv] at q
                            rw [q, ((HGE.out g).2.2.2 hsk).2]))
                          obtain ⟨d1, d2⟩ := hcf
                          have d2b : (v != (h1 : Int)) = true := by rw [bne_iff_ne]; exact d2
                          clear HGE HRK hsk hv hin2 hin2L hln hs1
                          rcases hop with ⟨o1, rfl⟩ | ⟨o1, o2, rfl⟩
                          all_goals
                            go_wp2_with (go_at_call 46; refine (HON _).out.mono ?_; clear HON; rintro e W9 ⟨rfl, K9⟩; have HR9 := hideI (K9.heap HR8.out (fun f => f)); have HX9 := hideI (K9.heap HX8.out (fun f => f)); have HK9 := hideI (HK8.out.trans (K9.mono (fun _ f => f.elim)) (fun _ e => .inl e)); obtain ⟨x11, x12, x13⟩ := bin3 HX9.out; obtain ⟨f1, f2⟩ := row_hat HR9.out (t := i + 1) (by rw [HW.out.hl]; exact hi1L); rw [← HU.out] at f1; have HRa := hideI (row_put (t := i + 1) (h1 : Int) HR9.out); have HKa := hideI (HK9.out.trans (Kept.setCell _ ⟨gH, i + 1, none⟩ (.int .i64 (h1 : Int))) (fun i e => .inl e)); obtain ⟨x14, x15, x16⟩ := bin3 ((Kept.setCell W9 ⟨gH, i + 1, none⟩ (.int .i64 (h1 : Int))).heap HX9.out (fun e => HXG.out e)); obtain ⟨e1, e2⟩ := row_hat HRa.out (t := i + 1 + xa) HLL.out; rw [← HVD.out] at e1; clear K9)
                            go_ret2
                            exact wyQ_bad HG.out rfl (KF _ HKa.out)
                        · have hWb := rw_set HWa.out hin2L (by omega) (by rw [← hv]; exact hcf) (fun g => ((HGE.out g).2.2.2 hsk).2)
                          have hs2 : hs ((Hs.set (i + 1) (h1 : Int)).set (i + 1 + xa) (h1 : Int)) (i + 1) = (h1 : Nat) := by
                            by_cases e : i + 1 + xa = i + 1
                            · rw [e, hs_same _ (by rw [hln]; exact hi1L)]
                            · rw [hs_other _ e]; exact hs1
                          have HWc := hideI (rw_next hWb hi1L (by rw [← HH1.out]; exact hs2) (HRK.out _ ⟨fun e => absurd e h0, fun e => absurd e hl1⟩ HBO.out HOO.out (fun _ => ⟨hin2, hs_same _ HLL.out⟩)))
                          have hcs : v < 0 ∨ (0 ≤ v ∧ v = (h1 : Int)) := by
                            by_cases q : 0 ≤ v
                            · exact .inr ⟨q, Classical.byContradiction (fun e => hcf ⟨q, e⟩)⟩
                            · exact .inl (by omega)
                          clear HGE HRK hsk hv hin2 hin2L hln hs1 hs2 hWb hcf
                          rcases hcs with d1 | ⟨d1, d2⟩
                          · have d1n : ¬ (0 ≤ v) := by omega
                            clear d1
                            rcases hop with ⟨o1, rfl⟩ | ⟨o1, o2, rfl⟩
                            all_goals
                              go_wp2_with (go_at_call 46; refine (HON _).out.mono ?_; clear HON; rintro e W9 ⟨rfl, K9⟩; have HR9 := hideI (K9.heap HR8.out (fun f => f)); have HX9 := hideI (K9.heap HX8.out (fun f => f)); have HK9 := hideI (HK8.out.trans (K9.mono (fun _ f => f.elim)) (fun _ e => .inl e)); obtain ⟨x11, x12, x13⟩ := bin3 HX9.out; obtain ⟨f1, f2⟩ := row_hat HR9.out (t := i + 1) (by rw [HW.out.hl]; exact hi1L); rw [← HU.out] at f1; have HRa := hideI (row_put (t := i + 1) (h1 : Int) HR9.out); have HKa := hideI (HK9.out.trans (Kept.setCell _ ⟨gH, i + 1, none⟩ (.int .i64 (h1 : Int))) (fun i e => .inl e)); obtain ⟨x14, x15, x16⟩ := bin3 ((Kept.setCell W9 ⟨gH, i + 1, none⟩ (.int .i64 (h1 : Int))).heap HX9.out (fun e => HXG.out e)); obtain ⟨e1, e2⟩ := row_hat HRa.out (t := i + 1 + xa) HLL.out; rw [← HVD.out] at e1; clear K9)
                              have HRb := hideI (row_put (t := i + 1 + xa) (h1 : Int) HRa.out)
                              have HKb := hideI (HKa.out.trans (Kept.setCell _ ⟨gH, i + 1 + xa, none⟩ (.int .i64 (h1 : Int))) (fun i e => .inl e))
                              go_wp2
                              go_roundw
                              case rel => exact ⟨i + 1, _, hi1, by go_num, HWc, HRb, HKb⟩
                              case measure => simp [intOf]; omega
                          · have d2b : (v != (h1 : Int)) = false := by rw [bne_eq_false_iff_eq]; exact d2
                            clear d2
                            rcases hop with ⟨o1, rfl⟩ | ⟨o1, o2, rfl⟩
                            all_goals
                              go_wp2_with (go_at_call 46; refine (HON _).out.mono ?_; clear HON; rintro e W9 ⟨rfl, K9⟩; have HR9 := hideI (K9.heap HR8.out (fun f => f)); have HX9 := hideI (K9.heap HX8.out (fun f => f)); have HK9 := hideI (HK8.out.trans (K9.mono (fun _ f => f.elim)) (fun _ e => .inl e)); obtain ⟨x11, x12, x13⟩ := bin3 HX9.out; obtain ⟨f1, f2⟩ := row_hat HR9.out (t := i + 1) (by rw [HW.out.hl]; exact hi1L); rw [← HU.out] at f1; have HRa := hideI (row_put (t := i + 1) (h1 : Int) HR9.out); have HKa := hideI (HK9.out.trans (Kept.setCell _ ⟨gH, i + 1, none⟩ (.int .i64 (h1 : Int))) (fun i e => .inl e)); obtain ⟨x14, x15, x16⟩ := bin3 ((Kept.setCell W9 ⟨gH, i + 1, none⟩ (.int .i64 (h1 : Int))).heap HX9.out (fun e => HXG.out e)); obtain ⟨e1, e2⟩ := row_hat HRa.out (t := i + 1 + xa) HLL.out; rw [← HVD.out] at e1; clear K9)
                              have HRb := hideI (row_put (t := i + 1 + xa) (h1 : Int) HRa.out)
                              have HKb := hideI (HKa.out.trans (Kept.setCell _ ⟨gH, i + 1 + xa, none⟩ (.int .i64 (h1 : Int))) (fun i e => .inl e))
                              go_wp2
                              go_roundw
                              case rel => exact ⟨i + 1, _, hi1, by go_num, HWc, HRb, HKb⟩
                              case measure => simp [intOf]; omega
                      · have HG : Hid (¬ Gd p L) := hideI (fun g => hin2 ((HGE.out g).2.2.2 hsk).1)
                        have g2 : (xa : Int) ≥ (k : Int) - (i : Int) - 1 := by omega
                        clear HGE HRK hsk hin2 hln hs1
                        rcases hop with ⟨o1, rfl⟩ | ⟨o1, o2, rfl⟩
                        all_goals
                          go_wp2_with (go_at_call 46; refine (HON _).out.mono ?_; clear HON; rintro e W9 ⟨rfl, K9⟩; have HR9 := hideI (K9.heap HR8.out (fun f => f)); have HX9 := hideI (K9.heap HX8.out (fun f => f)); have HK9 := hideI (HK8.out.trans (K9.mono (fun _ f => f.elim)) (fun _ e => .inl e)); obtain ⟨x11, x12, x13⟩ := bin3 HX9.out; obtain ⟨f1, f2⟩ := row_hat HR9.out (t := i + 1) (by rw [HW.out.hl]; exact hi1L); rw [← HU.out] at f1; have HRa := hideI (row_put (t := i + 1) (h1 : Int) HR9.out); have HKa := hideI (HK9.out.trans (Kept.setCell _ ⟨gH, i + 1, none⟩ (.int .i64 (h1 : Int))) (fun i e => .inl e)); obtain ⟨x14, x15, x16⟩ := bin3 ((Kept.setCell W9 ⟨gH, i + 1, none⟩ (.int .i64 (h1 : Int))).heap HX9.out (fun e => HXG.out e)); clear K9)
                          go_ret2
                          exact wyQ_bad HG.out rfl (KF _ HKa.out)
                    · have o1 : (xp == 15) = false := by rw [beq_eq_false_iff_ne]; exact fun e => hsk (.inl e)
                      have o2 : (xp == 16) = false := by rw [beq_eq_false_iff_ne]; exact fun e => hsk (.inr e)
                      have HWc := hideI (rw_next HWa.out hi1L (by rw [← HH1.out]; exact hs1) (HRK.out _ ⟨fun e => absurd e h0, fun e => absurd e hl1⟩ HBO.out HOO.out (fun e => absurd e hsk)))
                      clear HGE HRK hsk hln hs1
                      go_wp2_with (go_at_call 46; refine (HON _).out.mono ?_; clear HON; rintro e W9 ⟨rfl, K9⟩; have HR9 := hideI (K9.heap HR8.out (fun f => f)); have HX9 := hideI (K9.heap HX8.out (fun f => f)); have HK9 := hideI (HK8.out.trans (K9.mono (fun _ f => f.elim)) (fun _ e => .inl e)); obtain ⟨x11, x12, x13⟩ := bin3 HX9.out; obtain ⟨f1, f2⟩ := row_hat HR9.out (t := i + 1) (by rw [HW.out.hl]; exact hi1L); rw [← HU.out] at f1; have HRa := hideI (row_put (t := i + 1) (h1 : Int) HR9.out); have HKa := hideI (HK9.out.trans (Kept.setCell _ ⟨gH, i + 1, none⟩ (.int .i64 (h1 : Int))) (fun i e => .inl e)); obtain ⟨x14, x15, x16⟩ := bin3 ((Kept.setCell W9 ⟨gH, i + 1, none⟩ (.int .i64 (h1 : Int))).heap HX9.out (fun e => HXG.out e)); clear K9)
                      go_roundw
                      case rel => exact ⟨i + 1, _, hi1, by go_num, HWc, HRa, HKa⟩
                      case measure => simp [intOf]; omega
end Go.Proofs.YtiebmmpnmklpnaaDoor
namespace Go.Proofs.YtiebmmpnmklpnaaDoor
open Go.ChangeShapes Go.WideShapes Go.ChangeAt Go.RowKit

def rhQ (w : World) (p : Pg) (e : Ending) (w' : World) : Prop :=
  (∀ L, Vok p L → ∃ a c, e = .returned (.tuple #[.slice a L.length c, .int .i64 0]) ∧ IntsAt w' a (hL L) ∧ ∀ ad, a = some ad → w.heap.size ≤ ad.block) ∧ ((¬ ∃ L, Vok p L) → e = .returned (.tuple #[.slice none 0 0, .int .i64 21])) ∧ Kept (fun _ => False) w w'
theorem rhQ_bad {w : World} {p : Pg} {e : Ending} {w' : World} (h : ¬ ∃ L, Vok p L) (he : e = .returned (.tuple #[.slice none 0 0, .int .i64 21])) (k : Kept (fun _ => False) w w') : rhQ w p e w' :=
  ⟨fun L hv => absurd ⟨L, hv⟩ h, fun _ => he, k⟩
theorem rhQ_good {w : World} {p : Pg} {e : Ending} {w' : World} {L : List In} {a : Option Addr} {c n : Nat} (h : Vok p L) (hn : n = L.length) (he : e = .returned (.tuple #[.slice a n c, .int .i64 0])) (hi : IntsAt w' a (hL L)) (hb : ∀ ad, a = some ad → w.heap.size ≤ ad.block) (k : Kept (fun _ => False) w w') : rhQ w p e w' := by
  subst hn
  exact ⟨fun M hv => by obtain rfl := h.uniq hv; exact ⟨a, c, he, hi, hb⟩, fun f => absurd ⟨L, h⟩ f, k⟩
set_option maxRecDepth 20000 in
set_option maxHeartbeats 8000000 in
theorem rheights_own (p : Pg) (aA aC aN aD aO : Option Addr) (cA cC cN cD cO : Nat) (w : World) (hP : PgAt w p aA aC aN aD aO) (hO : p.Ok) :
    Calls Tryd.prog 11 #[.agg #[.slice aA p.av.length cA, .slice aC p.cu.length cC, .slice aN p.nr.length cN, .bool p.al, .slice aD p.dr.length cD, .slice aO p.co.length cO]] w (rhQ w p) := by
  have KA := Kept.alloc w (.cells #[.slice aA p.av.length cA, .slice aC p.cu.length cC, .slice aN p.nr.length cN, .bool p.al, .slice aD p.dr.length cD, .slice aO p.co.length cO] 27)
  have HBX : Hid ((w.alloc (.cells #[.slice aA p.av.length cA, .slice aC p.cu.length cC, .slice aN p.nr.length cN, .bool p.al, .slice aD p.dr.length cD, .slice aO p.co.length cO] 27)).heap[w.heap.size]? = some (.cells #[.slice aA p.av.length cA, .slice aC p.cu.length cC, .slice aN p.nr.length cN, .bool p.al, .slice aD p.dr.length cD, .slice aO p.co.length cO] 27 (0, 0))) := hideI (heap_alloc_new w _)
  obtain ⟨V, hV⟩ : ∃ V, V = w.alloc (.cells #[.slice aA p.av.length cA, .slice aC p.cu.length cC, .slice aN p.nr.length cN, .bool p.al, .slice aD p.dr.length cD, .slice aO p.co.length cO] 27) := ⟨_, rfl⟩
  rw [← hV] at KA HBX
  have HP := hideI (hP.kept KA)
  have HKA := hideI KA
  have HO := hideI hO
  have HB6 := fun (W : World) (K : Kept (fun _ => False) V W) => hideI (box6 (K.heap HBX.out (fun f => f)))
  obtain ⟨b1, hb1⟩ := asB (TbOk p)
  have HB1 : Hid (IsB b1 (TbOk p)) := hideI hb1
  have H1 := fun (W : World) (K : Kept (fun _ => False) V W) => hideI (rtables_any p aA aC aN aD aO cA cC cN cD cO W (HP.out.kept K) hO b1 hb1)
  have H2 := hideI (rdecode_any p.co aO cO V HP.out.co hO.co (by have := hO.len; omega))
  obtain ⟨z0, z1, z2, z3, z4, z5⟩ := (HB6 V (Kept.refl _ _)).out
  clear hP KA hO hb1
  cases hd : dcI p.co with
  | none =>
    rw [hd] at H2
    have HV : Hid (¬ ∃ L, Vok p L) := hideI (fun hx => by obtain ⟨L, q⟩ := hx; have e := q.dc; rw [hd] at e; cases e)
    subst hV
    clear HB1 HBX hd H1 HB6
    go_enter Tryd.func11, Tryd.ntmps11
    go_wp2_with (go_at_call 24; refine H2.out.mono ?_; clear H2; rintro e W2 ⟨h1, -, K2⟩; have he := h1 rfl; subst he; have HK2 := hideI K2; clear K2 h1)
    go_ret2
    exact rhQ_bad HV.out rfl (HKA.out.trans HK2.out (fun _ f => f.elim))
  | some L =>
    obtain ⟨f1, f2, f3⟩ := dcI_form p.co.length p.co L (Nat.le_refl _) HO.out.co hd
    have HLO := hideI f2
    have HLX : Hid (∀ x ∈ L, 0 ≤ x.op ∧ x.op < 17) := hideI (fun x hx => isO_iff.1 (okI_isO (f3 x hx)))
    have hl26 : L.length ≤ 67108864 := by
      have q1 := ibL_ge L
      rw [f1] at q1
      have q2 := HO.out.len
      omega
    have HL26 := hideI hl26
    have HDD := hideI hd
    have HVN : Hid (¬ (TbOk p ∧ Gd p L) → ¬ ∃ M, Vok p M) := hideI (fun h hx => h (by obtain ⟨M, q⟩ := hx; have e := q.dc; rw [HDD.out] at e; obtain rfl := Option.some.inj e; exact ⟨q.tb, q.gd⟩))
    have HVY : Hid (TbOk p → Gd p L → Vok p L) := hideI (fun t h => ⟨t, HDD.out, h⟩)
    rw [hd] at H2
    obtain ⟨n, hn⟩ : ∃ n, n = L.length := ⟨_, rfl⟩
    have HN := hideI hn
    have hl27 : n ≤ 67108864 := by omega
    clear f1 f2 f3 hl26 hd hn
    by_cases hn0 : n = 0
    · have HV := hideI (HVN.out (fun h => by have := h.2.en.1; rw [← HN.out] at this; omega))
      subst hV
      subst hn0
      clear HVN HVY HB1 HBX H1 HB6
      go_enter Tryd.func11, Tryd.ntmps11
      go_wp2_with (go_at_call 24; refine H2.out.mono ?_; clear H2; rintro e W2 ⟨-, h2, K2⟩; obtain ⟨aL, cL, he, -⟩ := h2 L rfl; rw [← HN.out] at he; subst he; have HK2 := hideI K2; clear K2 h2)
      go_ret2
      exact rhQ_bad HV.out rfl (HKA.out.trans HK2.out (fun _ f => f.elim))
    · have hn1 : (n : Int) ≠ 0 := by omega
      have hn2 : ((n : Int) == 0) = false := by rw [beq_eq_false_iff_ne]; exact hn1
      have HN1 : Hid (1 ≤ n) := hideI (by omega)
      cases b1 with
      | false =>
        have HV := hideI (HVN.out (fun h => HB1.out.no h.1))
        subst hV
        clear HVN HVY HB1 HBX hn0
        go_enter Tryd.func11, Tryd.ntmps11
        go_wp2_with (first
          | (go_at_call 24; refine H2.out.mono ?_; clear H2; rintro e W2 ⟨-, h2, K2⟩; obtain ⟨aL, cL, he, -⟩ := h2 L rfl; rw [← HN.out] at he; subst he; have HK2 := hideI K2; have HT := H1 W2 K2; obtain ⟨y0, y1, y2, y3, y4, y5⟩ := (HB6 W2 K2).out; clear K2 h2 H1 HB6)
          | (go_at_call 25; refine HT.out.mono ?_; clear HT; rintro e W3 ⟨rfl, K3⟩; have HK3 := hideI (HK2.out.trans K3 (fun _ f => f.elim)); clear K3))
        go_ret2
        exact rhQ_bad HV.out rfl (HKA.out.trans HK3.out (fun _ f => f.elim))
      | true =>
        have HTB := hideI HB1.out.yes
        have H3 := fun (aL : Option Addr) (cL : Nat) (W : World) (h : InsAt W aL L) => hideI (rwalk_own p L aA aC aN aD aO aL cA cC cN cD cO cL W HO.out h HL26.out (by rw [← HN.out]; exact HN1.out) HLX.out HLO.out)
        rw [← HN.out] at H3
        clear HB1 hn0
        by_cases hg : Gd p L
        · have HG := hideI hg
          have HV := hideI (HVY.out HTB.out hg)
          subst hV
          clear HVN HVY HBX hg
          go_enter Tryd.func11, Tryd.ntmps11
          go_wp2_with (first
            | (go_at_call 24; refine H2.out.mono ?_; clear H2; rintro e W2 ⟨-, h2, K2⟩; obtain ⟨aL, cL, he, ho⟩ := h2 L rfl; rw [← HN.out] at he; subst he; have HK2 := hideI K2; have HI2 := hideI (ins_of_own ho); have HT := H1 W2 K2; obtain ⟨y0, y1, y2, y3, y4, y5⟩ := (HB6 W2 K2).out; clear K2 h2 H1 ho)
            | (go_at_call 25; refine HT.out.mono ?_; clear HT; rintro e W3 ⟨rfl, K3⟩; have HK3 := hideI (HK2.out.trans K3 (fun _ f => f.elim)); have HW := H3 aL cL W3 (HI2.out.kept K3 (fun _ _ f => f)); obtain ⟨v0, v1, v2, v3, v4, v5⟩ := (HB6 W3 HK3.out).out; clear K3 HB6 H3)
            | (go_at_call 26; refine HW.out.mono ?_; clear HW; rintro e W4 ⟨h4, -, K4⟩; obtain ⟨aH, cH, he, hi, hbk⟩ := h4 HG.out; have HBK := hideI hbk; rw [← HN.out] at he; subst he; have HIH := hideI hi; have HK4 := hideI (HK3.out.trans K4 (fun _ f => f.elim)); clear K4 h4 hi hbk))
          go_ret2
          exact rhQ_good HV.out HN.out rfl HIH.out (fun ad e => Nat.le_trans (HKA.out.trans HK3.out (fun _ f => f.elim)).size (HBK.out ad e)) (HKA.out.trans HK4.out (fun _ f => f.elim))
        · have HG := hideI hg
          have HV := hideI (HVN.out (fun h => hg h.2))
          subst hV
          clear HVN HVY HBX hg
          go_enter Tryd.func11, Tryd.ntmps11
          go_wp2_with (first
            | (go_at_call 24; refine H2.out.mono ?_; clear H2; rintro e W2 ⟨-, h2, K2⟩; obtain ⟨aL, cL, he, ho⟩ := h2 L rfl; rw [← HN.out] at he; subst he; have HK2 := hideI K2; have HI2 := hideI (ins_of_own ho); have HT := H1 W2 K2; obtain ⟨y0, y1, y2, y3, y4, y5⟩ := (HB6 W2 K2).out; clear K2 h2 H1 ho)
            | (go_at_call 25; refine HT.out.mono ?_; clear HT; rintro e W3 ⟨rfl, K3⟩; have HK3 := hideI (HK2.out.trans K3 (fun _ f => f.elim)); have HW := H3 aL cL W3 (HI2.out.kept K3 (fun _ _ f => f)); obtain ⟨v0, v1, v2, v3, v4, v5⟩ := (HB6 W3 HK3.out).out; clear K3 HB6 H3)
            | (go_at_call 26; refine HW.out.mono ?_; clear HW; rintro e W4 ⟨-, h4, K4⟩; have he := h4 HG.out; subst he; have HK4 := hideI (HK3.out.trans K4 (fun _ f => f.elim)); clear K4 h4))
          go_ret2
          exact rhQ_bad HV.out rfl (HKA.out.trans HK4.out (fun _ f => f.elim))
end Go.Proofs.YtiebmmpnmklpnaaDoor
