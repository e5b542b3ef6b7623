import Derived.Test.YtmfdoohnladohaaRfg
import Derived.Test.YtmfdoohnladohaaRfh
import Derived.Test.YtmfdoohnladohaaRmj
namespace Go.Proofs.Ytmfdoohnladohaa
open Go.ChangeShapes Go.WideShapes Go.ChangeAt Go.RowKit

theorem rfirst_any (l : List UInt8) (w : World) (hl : l.length ≤ 140737488353000) :
    Calls Try.prog 15 #[.string (bq l)] w fun e w' => e = .returned (.string (bq (st1c (st1b (rep tb1 0 l))))) ∧ Kept (fun _ => False) w w' := by
  cases hg : lg tb1 l with
  | none => exact rfirst_none l w hl hg
  | some p => exact rfirst_some l w hl p hg
/-- The document's Stem behind the possessive: p is the text, V its string in the walk. -/
theorem posx_yes (l : List UInt8) (h : 2 < l.length) (hs : sfx l [39, 115] = true) : posx l = l.take (l.length - 2) := by
  unfold posx
  rw [if_pos h, trim_yes hs]; rfl
theorem posx_no (l : List UInt8) (h : ¬ (2 < l.length ∧ sfx l [39, 115] = true)) : posx l = l := by
  unfold posx
  by_cases h2 : 2 < l.length
  · rw [if_pos h2, trim_no (by cases hs : sfx l [39, 115] with | false => rfl | true => exact absurd ⟨h2, hs⟩ h)]
  · rw [if_neg h2]
set_option maxRecDepth 20000 in
set_option maxHeartbeats 8000000 in
theorem rstem_any (l : List UInt8) (w : World) (hl : l.length ≤ 140737488353000) :
    Calls Try.prog 7 #[.string (bq l)] w fun e w' => e = .returned (.string (bq (stem l))) ∧ Kept (fun _ => False) w w' := by
  have EA := fun w => hideV (rends_any l [39, 115] w (by omega) (by decide))
  obtain ⟨p, hp⟩ : ∃ p, p = posx l := ⟨_, rfl⟩
  have hpl : p.length ≤ 140737488353000 := by rw [hp]; exact Nat.le_trans (posx_le l) hl
  obtain ⟨q1, e1⟩ : ∃ x, x = st1c (st1b (rep tb1 0 p)) := ⟨_, rfl⟩
  have m1 : q1.length ≤ 140737488353000 := by rw [e1]; exact Nat.le_trans (st1c_le _) (Nat.le_trans (st1b_le _) (Nat.le_trans (rep1_le _ _) hpl))
  obtain ⟨q2, e2⟩ : ∃ x, x = st4 (rep tb3 1 (rep tb2 1 q1)) := ⟨_, rfl⟩
  have m2 : q2.length ≤ 140737488353000 := by rw [e2]; exact Nat.le_trans (st4_le _) (Nat.le_trans (rep3_le _ _) (Nat.le_trans (rep2_le _ _) m1))
  have hsh : short p = st5b (st5a q2) := by rw [e2, e1]; rfl
  have C1 := fun w => hideV (rfirst_any p w hpl)
  have C2 := fun w => hideV (rmiddle_any q1 w m1)
  have C3 := fun w => hideV (rlast_any q2 w (by omega))
  rw [← e1] at C1
  rw [← e2] at C2
  rw [← hsh] at C3
  have HZ : Hid (bq (stem l) = if 3 ≤ p.length ∧ p.all isSm = true then bq (short p) else bq p) := hideV (by unfold stem; rw [← hp]; split <;> rfl)
  clear hsh e1 e2 m1 m2
  generalize bq (short p) = Y at *
  generalize bq q1 = t1 at *
  generalize bq q2 = t2 at *
  obtain ⟨Z, hZ⟩ : ∃ Z, Z = bq (stem l) := ⟨_, rfl⟩
  rw [← hZ] at HZ ⊢
  clear hZ
  obtain ⟨V, hV⟩ : ∃ V, V = bq p := ⟨_, rfl⟩
  have vz : V.size = p.length := by rw [hV]; exact bq_size p
  have vz' : (V.size : Int) = (p.length : Int) := by rw [vz]
  have HX : Hid (∀ k (h : k < p.length) (h2 : k < V.size), V[k].toNat = p[k].toNat) := hideV (fun k h h2 => by subst hV; rfl)
  rw [← hV] at C1 HZ
  -- the walk from the test of the length on, as often as it is come to
  by_cases hA : 2 < l.length ∧ sfx l [39, 115] = true
  · have hpe := posx_yes l hA.1 hA.2
    rw [← hp] at hpe
    have sz : ((bq l).size : Int) = (l.length : Int) := by rw [bq_size]
    have sz0 : (bq l).size = l.length := bq_size l
    have x1 : (bq l).extract 0 (l.length - 2) = V := by rw [ext_take, hV, hpe]
    obtain ⟨r, hr⟩ : ∃ r, r = l.length - 2 := ⟨_, rfl⟩
    rw [← hr] at x1
    have r1 : (l.length : Int) - 2 = (r : Int) := by omega
    have r2 : r ≤ l.length := by omega
    have r3 : IntKind.i64.wrap (r : Int) = (r : Int) := by rw [IntKind.wrap_i64]; omega
    have g2 : (2 : Int) < (l.length : Int) := by omega
    rw [hA.2] at EA
    clear hA hpe hr hp hV
    generalize bq l = s at *
    by_cases h3 : 3 ≤ p.length
    · have g3 : ¬ (p.length : Int) < 3 := by omega
      go_enter Try.func7, Try.ntmps7
      go_wp2_with (go_at_call 14; refine (EA _).out.mono ?_; clear EA; rintro e W0 ⟨rfl, e0⟩; subst e0)
      go_loopw [3] (fun i wr => ∃ (k : Nat), k ≤ p.length ∧ i = .int .i64 k ∧ Hid ((p.take k).all isSm = true) ∧ wr = W0) (fun i _ => p.length - (intOf i).toNat)
      case atStart => exact ⟨0, by omega, rfl, rfl, rfl⟩
      case round =>
        obtain ⟨k, hk, rfl, HA, rfl⟩ := hrel
        by_cases hlt : k < p.length
        · have hlt2 : k < V.size := by omega
          have hc3 := HX.out k hlt hlt2
          have HN := hideV (allS_at p k hlt)
          have HB : Hid (isSm p[k] = false → p.all isSm = false) := hideV (fun h => List.all_eq_false.2 ⟨p[k], List.getElem_mem _, by rw [h]; decide⟩)
          have hki : (k : Int) < (p.length : Int) := by omega
          generalize p[k] = c at HN hc3 HB
          clear HX C1 C2 C3
          by_cases h1 : c.toNat < 97
          · have g1 : (c.toNat : Int) < 97 := by omega
            have HG : Hid (V = Z) := hideV (by rw [HZ.out, if_neg (fun h => by rw [HB.out (by unfold isSm; rw [decide_eq_false (by omega)]; rfl)] at h; exact absurd h.2 (by decide))])
            go_wp2
            go_ret
            exact ⟨rets HG.out, Kept.refl _ _⟩
          · have g1 : ¬ (c.toNat : Int) < 97 := by omega
            by_cases h2 : 122 < c.toNat
            · have g4 : (122 : Int) < (c.toNat : Int) := by omega
              have HG : Hid (V = Z) := hideV (by rw [HZ.out, if_neg (fun h => by rw [HB.out (by unfold isSm; rw [decide_eq_false (by omega : ¬ c.toNat ≤ 122), Bool.and_false])] at h; exact absurd h.2 (by decide))])
              go_wp2
              go_ret
              exact ⟨rets HG.out, Kept.refl _ _⟩
            · have g4 : ¬ (122 : Int) < (c.toNat : Int) := by omega
              have HQ : Hid ((p.take (k + 1)).all isSm = true) := hideV (by
                rw [HN.out, HA.out]
                unfold isSm
                rw [decide_eq_true (by omega), decide_eq_true (by omega)]; rfl)
              clear HN HA HB
              go_wp2
              go_roundw
              case rel => exact ⟨k + 1, by omega, by go_num, HQ, trivial⟩
              case measure => simp [intOf]; omega
        · obtain rfl : k = p.length := by omega
          have hall : p.all isSm = true := by have := HA.out; rwa [List.take_of_length_le (Nat.le_refl _)] at this
          have HG : Hid (Y = Z) := hideV (by rw [HZ.out, if_pos ⟨h3, hall⟩])
          clear HA HX HZ hlt hk hall
          go_wp2_with (first
            | (go_at_call 15; refine (C1 _).out.mono ?_; rintro e W1 ⟨rfl, K1⟩)
            | (go_at_call 16; refine (C2 _).out.mono ?_; rintro e W2 ⟨rfl, K2⟩)
            | (go_at_call 17; refine (C3 _).out.mono ?_; rintro e W3 ⟨rfl, K3⟩))
          go_ret
          exact ⟨rets HG.out, (K1.trans K2 (fun _ f => f.elim)).trans K3 (fun _ f => f.elim)⟩
    · have g3 : (p.length : Int) < 3 := by omega
      have HG : Hid (V = Z) := hideV (by rw [HZ.out, if_neg (fun h => h3 h.1)])
      clear C1 C2 C3 HZ HX h3
      go_enter Try.func7, Try.ntmps7
      go_wp2_with (go_at_call 14; refine (EA _).out.mono ?_; clear EA; rintro e W0 ⟨rfl, e0⟩; subst e0)
      go_ret
      exact ⟨rets HG.out, Kept.refl _ _⟩
  · have hpe : p = l := by rw [hp]; exact posx_no l hA
    subst hpe
    rw [← hV] at EA ⊢
    by_cases h2 : 2 < p.length
    · have hs : sfx p [39, 115] = false := by cases h : sfx p [39, 115] with | false => rfl | true => exact absurd ⟨h2, h⟩ hA
      rw [hs] at EA
      have g2 : (2 : Int) < (p.length : Int) := by omega
      clear hA hp hV hs
      by_cases h3 : 3 ≤ p.length
      · have g3 : ¬ (p.length : Int) < 3 := by omega
        go_enter Try.func7, Try.ntmps7
        go_wp2_with (go_at_call 14; refine (EA _).out.mono ?_; clear EA; rintro e W0 ⟨rfl, e0⟩; subst e0)
        go_loopw [3] (fun i wr => ∃ (k : Nat), k ≤ p.length ∧ i = .int .i64 k ∧ Hid ((p.take k).all isSm = true) ∧ wr = W0) (fun i _ => p.length - (intOf i).toNat)
        case atStart => exact ⟨0, by omega, rfl, rfl, rfl⟩
        case round =>
          obtain ⟨k, hk, rfl, HA, rfl⟩ := hrel
          by_cases hlt : k < p.length
          · have hlt2 : k < V.size := by omega
            have hc3 := HX.out k hlt hlt2
            have HN := hideV (allS_at p k hlt)
            have HB : Hid (isSm p[k] = false → p.all isSm = false) := hideV (fun h => List.all_eq_false.2 ⟨p[k], List.getElem_mem _, by rw [h]; decide⟩)
            have hki : (k : Int) < (p.length : Int) := by omega
            generalize p[k] = c at HN hc3 HB
            clear HX C1 C2 C3
            by_cases h1 : c.toNat < 97
            · have g1 : (c.toNat : Int) < 97 := by omega
              have HG : Hid (V = Z) := hideV (by rw [HZ.out, if_neg (fun h => by rw [HB.out (by unfold isSm; rw [decide_eq_false (by omega)]; rfl)] at h; exact absurd h.2 (by decide))])
              go_wp2
              go_ret
              exact ⟨rets HG.out, Kept.refl _ _⟩
            · have g1 : ¬ (c.toNat : Int) < 97 := by omega
              by_cases h2 : 122 < c.toNat
              · have g4 : (122 : Int) < (c.toNat : Int) := by omega
                have HG : Hid (V = Z) := hideV (by rw [HZ.out, if_neg (fun h => by rw [HB.out (by unfold isSm; rw [decide_eq_false (by omega : ¬ c.toNat ≤ 122), Bool.and_false])] at h; exact absurd h.2 (by decide))])
                go_wp2
                go_ret
                exact ⟨rets HG.out, Kept.refl _ _⟩
              · have g4 : ¬ (122 : Int) < (c.toNat : Int) := by omega
                have HQ : Hid ((p.take (k + 1)).all isSm = true) := hideV (by
                  rw [HN.out, HA.out]
                  unfold isSm
                  rw [decide_eq_true (by omega), decide_eq_true (by omega)]; rfl)
                clear HN HA HB
                go_wp2
                go_roundw
                case rel => exact ⟨k + 1, by omega, by go_num, HQ, trivial⟩
                case measure => simp [intOf]; omega
          · obtain rfl : k = p.length := by omega
            have hall : p.all isSm = true := by have := HA.out; rwa [List.take_of_length_le (Nat.le_refl _)] at this
            have HG : Hid (Y = Z) := hideV (by rw [HZ.out, if_pos ⟨h3, hall⟩])
            clear HA HX HZ hlt hk hall
            go_wp2_with (first
              | (go_at_call 15; refine (C1 _).out.mono ?_; rintro e W1 ⟨rfl, K1⟩)
              | (go_at_call 16; refine (C2 _).out.mono ?_; rintro e W2 ⟨rfl, K2⟩)
              | (go_at_call 17; refine (C3 _).out.mono ?_; rintro e W3 ⟨rfl, K3⟩))
            go_ret
            exact ⟨rets HG.out, (K1.trans K2 (fun _ f => f.elim)).trans K3 (fun _ f => f.elim)⟩
      · have g3 : (p.length : Int) < 3 := by omega
        have HG : Hid (V = Z) := hideV (by rw [HZ.out, if_neg (fun h => h3 h.1)])
        clear C1 C2 C3 HZ HX h3
        go_enter Try.func7, Try.ntmps7
        go_wp2_with (go_at_call 14; refine (EA _).out.mono ?_; clear EA; rintro e W0 ⟨rfl, e0⟩; subst e0)
        go_ret
        exact ⟨rets HG.out, Kept.refl _ _⟩
    · have g2 : ¬ (2 : Int) < (p.length : Int) := by omega
      have g3 : (p.length : Int) < 3 := by omega
      have HG : Hid (V = Z) := hideV (by rw [HZ.out, if_neg (fun h => by omega)])
      clear hA hp hV EA C1 C2 C3 HZ HX
      go_enter Try.func7, Try.ntmps7
      go_wp2
      go_ret
      exact ⟨rets HG.out, Kept.refl _ _⟩
set_option maxRecDepth 20000 in
set_option maxHeartbeats 2000000 in
theorem stems_walk (l : List UInt8) (w : World) (hl : l.length ≤ 140737488351232) :
    Calls Try.prog 3 #[.string (bq l)] w fun e w' => e = .returned (.bool true) ∧ Kept (fun _ => False) w w' := by
  have CL := fun w => hideV (livesT_any w)
  have C1 := fun w => hideV (stem_any l w (by omega))
  have C2 := fun w => hideV (rstem_any l w (by omega))
  have hself : ((bq (stem l)).toList == (bq (stem l)).toList) = true := by simp
  generalize bq (stem l) = Z at *
  generalize bq l = s at *
  go_enter Try.func3, Try.ntmps3
  go_wp2_with (first
    | (go_at_call 5; refine (CL _).out.mono ?_; rintro e W1 ⟨rfl, K1⟩)
    | (go_at_call 6; refine (C1 _).out.mono ?_; rintro e W2 ⟨rfl, K2⟩)
    | (go_at_call 7; refine (C2 _).out.mono ?_; rintro e W3 ⟨rfl, K3⟩))
  go_ret
  exact ⟨rfl, (K1.trans K2 (fun _ f => f.elim)).trans K3 (fun _ f => f.elim)⟩
end Go.Proofs.Ytmfdoohnladohaa
