import Derived.Test.YtnkmjhcddegkhaaDoorSsh
import Derived.Test.YtnkmjhcddegkhaaDoorSed
import Derived.Lib.Strings
namespace Go.Proofs.YtnkmjhcddegkhaaDoor
open Go.ChangeShapes Go.WideShapes Go.ChangeAt Go.RowKit

theorem ext_take (l : List UInt8) (r : Nat) : (bq l).extract 0 r = bq (l.take r) := by rw [bq_extract, List.drop_zero, Nat.sub_zero]
theorem ext_drop (l : List UInt8) (r n : Nat) (h : n = l.length) : (bq l).extract r n = bq (l.drop r) := by
  rw [bq_extract, List.take_of_length_le (by rw [List.length_drop]; omega)]
theorem repK_hit (T : Tbl) (m : Nat) (l t : List UInt8) (j r : Nat) (h : j + 1 ≤ l.length) (hr : r = l.length - (j + 1)) (ht : lk T (l.drop r) = some t) : repK T m l (j + 1) = if meas (l.take r) < m then l else l.take r ++ t := by
  subst hr
  show (if j + 1 ≤ l.length then _ else _) = _
  rw [if_pos h, ht]
theorem repK_miss (T : Tbl) (m : Nat) (l : List UInt8) (j r : Nat) (h : j + 1 ≤ l.length) (hr : r = l.length - (j + 1)) (ht : lk T (l.drop r) = none) : repK T m l (j + 1) = repK T m l j := by
  subst hr
  show (if j + 1 ≤ l.length then _ else _) = _
  rw [if_pos h, ht]
theorem repK_short (T : Tbl) (m : Nat) (l : List UInt8) (j : Nat) (h : l.length ≤ j) : repK T m l j = repK T m l l.length := by
  induction j with
  | zero => rw [show l.length = 0 by omega]
  | succ j ih =>
    by_cases e : l.length = j + 1
    · rw [e]
    · show (if j + 1 ≤ l.length then _ else _) = _
      rw [if_neg (by omega)]
      exact ih (by omega)
theorem rep_start (T : Tbl) (m : Nat) (l : List UInt8) : rep T m l = repK T m l (min 7 l.length) := by
  unfold rep
  by_cases h : 7 ≤ l.length
  · rw [Nat.min_eq_left h]
  · rw [Nat.min_eq_right (by omega)]
    exact repK_short T m l 7 (by omega)
theorem lk_small (T : Tbl) (hT : ∀ p ∈ T, p.2.length ≤ 7) (e t : List UInt8) (h : lk T e = some t) : t.length ≤ 7 := by
  unfold lk at h
  obtain ⟨p, hp, rfl⟩ := Option.map_eq_some_iff.1 h
  exact hT p (List.mem_of_find?_eq_some hp)
theorem tb1_small : ∀ p ∈ tb1, p.2.length ≤ 7 := by decide +kernel
theorem tb2_small : ∀ p ∈ tb2, p.2.length ≤ 7 := by decide +kernel
theorem tb3_small : ∀ p ∈ tb3, p.2.length ≤ 7 := by decide +kernel
theorem tb4_small : ∀ p ∈ tb4, p.2.length ≤ 7 := by decide +kernel
set_option maxRecDepth 20000 in
set_option maxHeartbeats 4000000 in
theorem replaced1_any (l : List UInt8) (w : World) (hl : l.length ≤ 281474976710000) :
    Calls Tryd.prog 32 #[.string (bq l), .func (.func 33) #[] #[], .int .i64 0] w fun e w' => e = .returned (.string (bq (rep tb1 0 l))) ∧ Kept (fun _ => False) w w' := by
  have HE := hideV (fun e w => end1_any e w)
  have HM := hideV (fun (r : Nat) w => measure_any (l.take r) w (by rw [List.length_take]; omega))
  have HR := hideV (rep_start tb1 0 l)
  have HI : Hid (∀ (r : Nat), meas (l.take r) ≤ 281474976710000) := hideV (fun r => Nat.le_trans (meas_le _) (by rw [List.length_take]; omega))
  obtain ⟨s, hs⟩ : ∃ s, s = bq l := ⟨_, rfl⟩
  have hz : s.size = l.length := by rw [hs]; exact bq_size l
  have hz' : (s.size : Int) = (l.length : Int) := by rw [hz]
  have HX : Hid (∀ r, s.extract 0 r = bq (l.take r) ∧ s.extract r l.length = bq (l.drop r)) := hideV (fun r => by subst hs; exact ⟨ext_take l r, ext_drop l r _ rfl⟩)
  have HB := hideV hs
  rw [← hs]
  clear hs
  generalize hres : bq (rep tb1 0 l) = RES
  have HRES := hideV hres
  clear hres
  obtain ⟨q0, hq0⟩ : ∃ q0, q0 = min 7 l.length := ⟨_, rfl⟩
  have hqi : (if (7 : Int) ≤ (l.length : Int) then (7 : Int) else (l.length : Int)) = (q0 : Int) := by split <;> omega
  have hq7 : q0 ≤ 7 := by omega
  have hqn : q0 ≤ l.length := by omega
  have hmi : min (7 : Int) (l.length : Int) = (q0 : Int) := by omega
  rw [← hq0] at HR
  clear hq0
  go_enter Tryd.func32, Tryd.ntmps32
  go_wp2
  go_loopw [7] (fun i wr => ∃ (k : Nat), k ≤ q0 ∧ i = .int .i64 k ∧ Hid (rep tb1 0 l = repK tb1 0 l k) ∧ Hid (Kept (fun _ => False) w wr)) (fun i _ => (intOf i).toNat)
  case atStart => exact ⟨q0, Nat.le_refl _, rfl, HR, Kept.refl _ _⟩
  case round =>
    obtain ⟨k, hk, rfl, HK, KK⟩ := hrel
    clear HR
    by_cases h0 : 0 < k
    · obtain ⟨j, rfl⟩ : ∃ j, k = j + 1 := ⟨k - 1, by omega⟩
      obtain ⟨r, hr⟩ : ∃ r, r = l.length - (j + 1) := ⟨_, rfl⟩
      have r1 : (l.length : Int) - ((j : Int) + 1) = (r : Int) := by omega
      have r2 : (r : Int) ≤ (l.length : Int) := by omega
      have r4 : r ≤ l.length := by omega
      have r3 : IntKind.i64.wrap (r : Int) = (r : Int) := by rw [IntKind.wrap_i64]; omega
      have j0 : (0 : Int) < (j : Int) + 1 := by omega
      have j1 : (j : Int) + 1 - 1 = (j : Int) := by omega
      have j2 : IntKind.i64.wrap (j : Int) = (j : Int) := by rw [IntKind.wrap_i64]; omega
      obtain ⟨x1, x2⟩ := HX.out r
      have CE := hideV (HE.out (l.drop r))
      have CM := hideV (HM.out r)
      have MI := HI.out r
      have HH := hideV (fun t => repK_hit tb1 0 l t j r (by omega) hr)
      have HN := hideV (fun h => HK.out.trans (repK_miss tb1 0 l j r (by omega) hr h))
      clear HX HE HM HI hr
      have z9 : IntKind.i64.wrap ((l.length : Int) - ((j : Int) + 1)) = (r : Int) := by rw [r1]; exact r3
      cases ht : lk tb1 (l.drop r) with
      | none =>
        have HQ := hideV (HN.out ht)
        have e1 : lkT tb1 (l.drop r) = [] := by unfold lkT; rw [ht]; rfl
        have e2 : lkB tb1 (l.drop r) = false := by unfold lkB; rw [ht]; rfl
        rw [e1, e2] at CE
        clear e1 e2 ht HN HH CM HK
        generalize bq (l.drop r) = E at x2 CE
        generalize bq (l.take r) = R at x1
        go_wp2
        go_region
        go_wp2_with (go_at_call 33; refine (CE.out _).mono ?_; clear CE; rintro e W ⟨rfl, rfl⟩)
        go_roundw
        case rel => exact ⟨j, by omega, rfl, HQ, KK.out.trans (Kept.drew _) (fun _ f => f.elim)⟩
        case measure => simp [intOf]
      | some t =>
        have HQ := hideV (HK.out.trans (HH.out t ht))
        have e1 : lkT tb1 (l.drop r) = t := by unfold lkT; rw [ht]; rfl
        have e2 : lkB tb1 (l.drop r) = true := by unfold lkB; rw [ht]; rfl
        rw [e1, e2] at CE
        have HA : Hid (bq (l.take r) ++ bq t = bq (l.take r ++ t)) := hideV (bq_append _ _)
        have s1 : (bq (l.take r)).size ≤ 281474976710000 := by rw [bq_size, List.length_take]; omega
        have s2 : (bq t).size ≤ 7 := by
          rw [bq_size]
          exact lk_small tb1 tb1_small (l.drop r) t ht
        clear e1 e2 ht HN HH HK
        generalize bq (l.drop r) = E at x2 CE
        by_cases hm : meas (l.take r) < 0
        · have HF : Hid (s = RES) := hideV (by rw [← HRES.out, HQ.out, if_pos hm]; exact HB.out)
          have hm2 : ((meas (l.take r) : Nat) : Int) < 0 := by omega
          generalize meas (l.take r) = mm at CM hm2 MI
          generalize bq (l.take r) = R at x1 CM
          clear HQ hm HRES HB
          go_wp2
          go_region
          go_wp2_with (first
            | (go_at_call 33; refine (CE.out _).mono ?_; clear CE; rintro e W ⟨rfl, rfl⟩)
            | (go_at_call 45; refine (CM.out _).mono ?_; clear CM; rintro e W3 ⟨rfl, K3⟩))
          go_ret
          exact ⟨congrArg (fun x => Ending.returned (.string x)) HF.out, (KK.out.trans (Kept.drew _) (fun _ f => f.elim)).trans K3 (fun _ f => f.elim)⟩
        · have HF : Hid (bq (l.take r) ++ bq t = RES) := hideV (by rw [← HRES.out, HQ.out, if_neg hm]; exact HA.out)
          have hm2 : ¬ ((meas (l.take r) : Nat) : Int) < 0 := by omega
          generalize meas (l.take r) = mm at CM hm2 MI
          generalize bq (l.take r) = R at x1 CM HF s1
          generalize bq t = T at CE HF s2
          clear HQ hm HRES HB HA
          go_wp2
          go_region
          go_wp2_with (first
            | (go_at_call 33; refine (CE.out _).mono ?_; clear CE; rintro e W ⟨rfl, rfl⟩)
            | (go_at_call 45; refine (CM.out _).mono ?_; clear CM; rintro e W3 ⟨rfl, K3⟩))
          go_ret
          exact ⟨congrArg (fun x => Ending.returned (.string x)) HF.out, (KK.out.trans (Kept.drew _) (fun _ f => f.elim)).trans K3 (fun _ f => f.elim)⟩
    · obtain rfl : k = 0 := by omega
      have HF : Hid (s = RES) := hideV (by rw [← HRES.out, HK.out]; exact HB.out)
      clear HK HRES HB HX HE HM HI
      go_wp2
      go_ret
      exact ⟨congrArg (fun x => Ending.returned (.string x)) HF.out, KK.out⟩
set_option maxRecDepth 20000 in
set_option maxHeartbeats 4000000 in
theorem replaced2_any (l : List UInt8) (w : World) (hl : l.length ≤ 281474976710000) :
    Calls Tryd.prog 32 #[.string (bq l), .func (.func 36) #[] #[], .int .i64 1] w fun e w' => e = .returned (.string (bq (rep tb2 1 l))) ∧ Kept (fun _ => False) w w' := by
  have HE := hideV (fun e w => end2_any e w)
  have HM := hideV (fun (r : Nat) w => measure_any (l.take r) w (by rw [List.length_take]; omega))
  have HR := hideV (rep_start tb2 1 l)
  have HI : Hid (∀ (r : Nat), meas (l.take r) ≤ 281474976710000) := hideV (fun r => Nat.le_trans (meas_le _) (by rw [List.length_take]; omega))
  obtain ⟨s, hs⟩ : ∃ s, s = bq l := ⟨_, rfl⟩
  have hz : s.size = l.length := by rw [hs]; exact bq_size l
  have hz' : (s.size : Int) = (l.length : Int) := by rw [hz]
  have HX : Hid (∀ r, s.extract 0 r = bq (l.take r) ∧ s.extract r l.length = bq (l.drop r)) := hideV (fun r => by subst hs; exact ⟨ext_take l r, ext_drop l r _ rfl⟩)
  have HB := hideV hs
  rw [← hs]
  clear hs
  generalize hres : bq (rep tb2 1 l) = RES
  have HRES := hideV hres
  clear hres
  obtain ⟨q0, hq0⟩ : ∃ q0, q0 = min 7 l.length := ⟨_, rfl⟩
  have hqi : (if (7 : Int) ≤ (l.length : Int) then (7 : Int) else (l.length : Int)) = (q0 : Int) := by split <;> omega
  have hq7 : q0 ≤ 7 := by omega
  have hqn : q0 ≤ l.length := by omega
  have hmi : min (7 : Int) (l.length : Int) = (q0 : Int) := by omega
  rw [← hq0] at HR
  clear hq0
  go_enter Tryd.func32, Tryd.ntmps32
  go_wp2
  go_loopw [7] (fun i wr => ∃ (k : Nat), k ≤ q0 ∧ i = .int .i64 k ∧ Hid (rep tb2 1 l = repK tb2 1 l k) ∧ Hid (Kept (fun _ => False) w wr)) (fun i _ => (intOf i).toNat)
  case atStart => exact ⟨q0, Nat.le_refl _, rfl, HR, Kept.refl _ _⟩
  case round =>
    obtain ⟨k, hk, rfl, HK, KK⟩ := hrel
    clear HR
    by_cases h0 : 0 < k
    · obtain ⟨j, rfl⟩ : ∃ j, k = j + 1 := ⟨k - 1, by omega⟩
      obtain ⟨r, hr⟩ : ∃ r, r = l.length - (j + 1) := ⟨_, rfl⟩
      have r1 : (l.length : Int) - ((j : Int) + 1) = (r : Int) := by omega
      have r2 : (r : Int) ≤ (l.length : Int) := by omega
      have r4 : r ≤ l.length := by omega
      have r3 : IntKind.i64.wrap (r : Int) = (r : Int) := by rw [IntKind.wrap_i64]; omega
      have j0 : (0 : Int) < (j : Int) + 1 := by omega
      have j1 : (j : Int) + 1 - 1 = (j : Int) := by omega
      have j2 : IntKind.i64.wrap (j : Int) = (j : Int) := by rw [IntKind.wrap_i64]; omega
      obtain ⟨x1, x2⟩ := HX.out r
      have CE := hideV (HE.out (l.drop r))
      have CM := hideV (HM.out r)
      have MI := HI.out r
      have HH := hideV (fun t => repK_hit tb2 1 l t j r (by omega) hr)
      have HN := hideV (fun h => HK.out.trans (repK_miss tb2 1 l j r (by omega) hr h))
      clear HX HE HM HI hr
      have z9 : IntKind.i64.wrap ((l.length : Int) - ((j : Int) + 1)) = (r : Int) := by rw [r1]; exact r3
      cases ht : lk tb2 (l.drop r) with
      | none =>
        have HQ := hideV (HN.out ht)
        have e1 : lkT tb2 (l.drop r) = [] := by unfold lkT; rw [ht]; rfl
        have e2 : lkB tb2 (l.drop r) = false := by unfold lkB; rw [ht]; rfl
        rw [e1, e2] at CE
        clear e1 e2 ht HN HH CM HK
        generalize bq (l.drop r) = E at x2 CE
        generalize bq (l.take r) = R at x1
        go_wp2
        go_region
        go_wp2_with (go_at_call 36; refine (CE.out _).mono ?_; clear CE; rintro e W ⟨rfl, rfl⟩)
        go_roundw
        case rel => exact ⟨j, by omega, rfl, HQ, KK.out.trans (Kept.drew _) (fun _ f => f.elim)⟩
        case measure => simp [intOf]
      | some t =>
        have HQ := hideV (HK.out.trans (HH.out t ht))
        have e1 : lkT tb2 (l.drop r) = t := by unfold lkT; rw [ht]; rfl
        have e2 : lkB tb2 (l.drop r) = true := by unfold lkB; rw [ht]; rfl
        rw [e1, e2] at CE
        have HA : Hid (bq (l.take r) ++ bq t = bq (l.take r ++ t)) := hideV (bq_append _ _)
        have s1 : (bq (l.take r)).size ≤ 281474976710000 := by rw [bq_size, List.length_take]; omega
        have s2 : (bq t).size ≤ 7 := by
          rw [bq_size]
          exact lk_small tb2 tb2_small (l.drop r) t ht
        clear e1 e2 ht HN HH HK
        generalize bq (l.drop r) = E at x2 CE
        by_cases hm : meas (l.take r) < 1
        · have HF : Hid (s = RES) := hideV (by rw [← HRES.out, HQ.out, if_pos hm]; exact HB.out)
          have hm2 : ((meas (l.take r) : Nat) : Int) < 1 := by omega
          generalize meas (l.take r) = mm at CM hm2 MI
          generalize bq (l.take r) = R at x1 CM
          clear HQ hm HRES HB
          go_wp2
          go_region
          go_wp2_with (first
            | (go_at_call 36; refine (CE.out _).mono ?_; clear CE; rintro e W ⟨rfl, rfl⟩)
            | (go_at_call 45; refine (CM.out _).mono ?_; clear CM; rintro e W3 ⟨rfl, K3⟩))
          go_ret
          exact ⟨congrArg (fun x => Ending.returned (.string x)) HF.out, (KK.out.trans (Kept.drew _) (fun _ f => f.elim)).trans K3 (fun _ f => f.elim)⟩
        · have HF : Hid (bq (l.take r) ++ bq t = RES) := hideV (by rw [← HRES.out, HQ.out, if_neg hm]; exact HA.out)
          have hm2 : ¬ ((meas (l.take r) : Nat) : Int) < 1 := by omega
          generalize meas (l.take r) = mm at CM hm2 MI
          generalize bq (l.take r) = R at x1 CM HF s1
          generalize bq t = T at CE HF s2
          clear HQ hm HRES HB HA
          go_wp2
          go_region
          go_wp2_with (first
            | (go_at_call 36; refine (CE.out _).mono ?_; clear CE; rintro e W ⟨rfl, rfl⟩)
            | (go_at_call 45; refine (CM.out _).mono ?_; clear CM; rintro e W3 ⟨rfl, K3⟩))
          go_ret
          exact ⟨congrArg (fun x => Ending.returned (.string x)) HF.out, (KK.out.trans (Kept.drew _) (fun _ f => f.elim)).trans K3 (fun _ f => f.elim)⟩
    · obtain rfl : k = 0 := by omega
      have HF : Hid (s = RES) := hideV (by rw [← HRES.out, HK.out]; exact HB.out)
      clear HK HRES HB HX HE HM HI
      go_wp2
      go_ret
      exact ⟨congrArg (fun x => Ending.returned (.string x)) HF.out, KK.out⟩
set_option maxRecDepth 20000 in
set_option maxHeartbeats 4000000 in
theorem replaced3_any (l : List UInt8) (w : World) (hl : l.length ≤ 281474976710000) :
    Calls Tryd.prog 32 #[.string (bq l), .func (.func 37) #[] #[], .int .i64 1] w fun e w' => e = .returned (.string (bq (rep tb3 1 l))) ∧ Kept (fun _ => False) w w' := by
  have HE := hideV (fun e w => end3_any e w)
  have HM := hideV (fun (r : Nat) w => measure_any (l.take r) w (by rw [List.length_take]; omega))
  have HR := hideV (rep_start tb3 1 l)
  have HI : Hid (∀ (r : Nat), meas (l.take r) ≤ 281474976710000) := hideV (fun r => Nat.le_trans (meas_le _) (by rw [List.length_take]; omega))
  obtain ⟨s, hs⟩ : ∃ s, s = bq l := ⟨_, rfl⟩
  have hz : s.size = l.length := by rw [hs]; exact bq_size l
  have hz' : (s.size : Int) = (l.length : Int) := by rw [hz]
  have HX : Hid (∀ r, s.extract 0 r = bq (l.take r) ∧ s.extract r l.length = bq (l.drop r)) := hideV (fun r => by subst hs; exact ⟨ext_take l r, ext_drop l r _ rfl⟩)
  have HB := hideV hs
  rw [← hs]
  clear hs
  generalize hres : bq (rep tb3 1 l) = RES
  have HRES := hideV hres
  clear hres
  obtain ⟨q0, hq0⟩ : ∃ q0, q0 = min 7 l.length := ⟨_, rfl⟩
  have hqi : (if (7 : Int) ≤ (l.length : Int) then (7 : Int) else (l.length : Int)) = (q0 : Int) := by split <;> omega
  have hq7 : q0 ≤ 7 := by omega
  have hqn : q0 ≤ l.length := by omega
  have hmi : min (7 : Int) (l.length : Int) = (q0 : Int) := by omega
  rw [← hq0] at HR
  clear hq0
  go_enter Tryd.func32, Tryd.ntmps32
  go_wp2
  go_loopw [7] (fun i wr => ∃ (k : Nat), k ≤ q0 ∧ i = .int .i64 k ∧ Hid (rep tb3 1 l = repK tb3 1 l k) ∧ Hid (Kept (fun _ => False) w wr)) (fun i _ => (intOf i).toNat)
  case atStart => exact ⟨q0, Nat.le_refl _, rfl, HR, Kept.refl _ _⟩
  case round =>
    obtain ⟨k, hk, rfl, HK, KK⟩ := hrel
    clear HR
    by_cases h0 : 0 < k
    · obtain ⟨j, rfl⟩ : ∃ j, k = j + 1 := ⟨k - 1, by omega⟩
      obtain ⟨r, hr⟩ : ∃ r, r = l.length - (j + 1) := ⟨_, rfl⟩
      have r1 : (l.length : Int) - ((j : Int) + 1) = (r : Int) := by omega
      have r2 : (r : Int) ≤ (l.length : Int) := by omega
      have r4 : r ≤ l.length := by omega
      have r3 : IntKind.i64.wrap (r : Int) = (r : Int) := by rw [IntKind.wrap_i64]; omega
      have j0 : (0 : Int) < (j : Int) + 1 := by omega
      have j1 : (j : Int) + 1 - 1 = (j : Int) := by omega
      have j2 : IntKind.i64.wrap (j : Int) = (j : Int) := by rw [IntKind.wrap_i64]; omega
      obtain ⟨x1, x2⟩ := HX.out r
      have CE := hideV (HE.out (l.drop r))
      have CM := hideV (HM.out r)
      have MI := HI.out r
      have HH := hideV (fun t => repK_hit tb3 1 l t j r (by omega) hr)
      have HN := hideV (fun h => HK.out.trans (repK_miss tb3 1 l j r (by omega) hr h))
      clear HX HE HM HI hr
      have z9 : IntKind.i64.wrap ((l.length : Int) - ((j : Int) + 1)) = (r : Int) := by rw [r1]; exact r3
      cases ht : lk tb3 (l.drop r) with
      | none =>
        have HQ := hideV (HN.out ht)
        have e1 : lkT tb3 (l.drop r) = [] := by unfold lkT; rw [ht]; rfl
        have e2 : lkB tb3 (l.drop r) = false := by unfold lkB; rw [ht]; rfl
        rw [e1, e2] at CE
        clear e1 e2 ht HN HH CM HK
        generalize bq (l.drop r) = E at x2 CE
        generalize bq (l.take r) = R at x1
        go_wp2
        go_region
        go_wp2_with (go_at_call 37; refine (CE.out _).mono ?_; clear CE; rintro e W ⟨rfl, rfl⟩)
        go_roundw
        case rel => exact ⟨j, by omega, rfl, HQ, KK.out.trans (Kept.drew _) (fun _ f => f.elim)⟩
        case measure => simp [intOf]
      | some t =>
        have HQ := hideV (HK.out.trans (HH.out t ht))
        have e1 : lkT tb3 (l.drop r) = t := by unfold lkT; rw [ht]; rfl
        have e2 : lkB tb3 (l.drop r) = true := by unfold lkB; rw [ht]; rfl
        rw [e1, e2] at CE
        have HA : Hid (bq (l.take r) ++ bq t = bq (l.take r ++ t)) := hideV (bq_append _ _)
        have s1 : (bq (l.take r)).size ≤ 281474976710000 := by rw [bq_size, List.length_take]; omega
        have s2 : (bq t).size ≤ 7 := by
          rw [bq_size]
          exact lk_small tb3 tb3_small (l.drop r) t ht
        clear e1 e2 ht HN HH HK
        generalize bq (l.drop r) = E at x2 CE
        by_cases hm : meas (l.take r) < 1
        · have HF : Hid (s = RES) := hideV (by rw [← HRES.out, HQ.out, if_pos hm]; exact HB.out)
          have hm2 : ((meas (l.take r) : Nat) : Int) < 1 := by omega
          generalize meas (l.take r) = mm at CM hm2 MI
          generalize bq (l.take r) = R at x1 CM
          clear HQ hm HRES HB
          go_wp2
          go_region
          go_wp2_with (first
            | (go_at_call 37; refine (CE.out _).mono ?_; clear CE; rintro e W ⟨rfl, rfl⟩)
            | (go_at_call 45; refine (CM.out _).mono ?_; clear CM; rintro e W3 ⟨rfl, K3⟩))
          go_ret
          exact ⟨congrArg (fun x => Ending.returned (.string x)) HF.out, (KK.out.trans (Kept.drew _) (fun _ f => f.elim)).trans K3 (fun _ f => f.elim)⟩
        · have HF : Hid (bq (l.take r) ++ bq t = RES) := hideV (by rw [← HRES.out, HQ.out, if_neg hm]; exact HA.out)
          have hm2 : ¬ ((meas (l.take r) : Nat) : Int) < 1 := by omega
          generalize meas (l.take r) = mm at CM hm2 MI
          generalize bq (l.take r) = R at x1 CM HF s1
          generalize bq t = T at CE HF s2
          clear HQ hm HRES HB HA
          go_wp2
          go_region
          go_wp2_with (first
            | (go_at_call 37; refine (CE.out _).mono ?_; clear CE; rintro e W ⟨rfl, rfl⟩)
            | (go_at_call 45; refine (CM.out _).mono ?_; clear CM; rintro e W3 ⟨rfl, K3⟩))
          go_ret
          exact ⟨congrArg (fun x => Ending.returned (.string x)) HF.out, (KK.out.trans (Kept.drew _) (fun _ f => f.elim)).trans K3 (fun _ f => f.elim)⟩
    · obtain rfl : k = 0 := by omega
      have HF : Hid (s = RES) := hideV (by rw [← HRES.out, HK.out]; exact HB.out)
      clear HK HRES HB HX HE HM HI
      go_wp2
      go_ret
      exact ⟨congrArg (fun x => Ending.returned (.string x)) HF.out, KK.out⟩
set_option maxRecDepth 20000 in
set_option maxHeartbeats 4000000 in
theorem replaced4_any (l : List UInt8) (w : World) (hl : l.length ≤ 281474976710000) :
    Calls Tryd.prog 32 #[.string (bq l), .func (.func 51) #[] #[], .int .i64 2] w fun e w' => e = .returned (.string (bq (rep tb4 2 l))) ∧ Kept (fun _ => False) w w' := by
  have HE := hideV (fun e w => end4_any e w)
  have HM := hideV (fun (r : Nat) w => measure_any (l.take r) w (by rw [List.length_take]; omega))
  have HR := hideV (rep_start tb4 2 l)
  have HI : Hid (∀ (r : Nat), meas (l.take r) ≤ 281474976710000) := hideV (fun r => Nat.le_trans (meas_le _) (by rw [List.length_take]; omega))
  obtain ⟨s, hs⟩ : ∃ s, s = bq l := ⟨_, rfl⟩
  have hz : s.size = l.length := by rw [hs]; exact bq_size l
  have hz' : (s.size : Int) = (l.length : Int) := by rw [hz]
  have HX : Hid (∀ r, s.extract 0 r = bq (l.take r) ∧ s.extract r l.length = bq (l.drop r)) := hideV (fun r => by subst hs; exact ⟨ext_take l r, ext_drop l r _ rfl⟩)
  have HB := hideV hs
  rw [← hs]
  clear hs
  generalize hres : bq (rep tb4 2 l) = RES
  have HRES := hideV hres
  clear hres
  obtain ⟨q0, hq0⟩ : ∃ q0, q0 = min 7 l.length := ⟨_, rfl⟩
  have hqi : (if (7 : Int) ≤ (l.length : Int) then (7 : Int) else (l.length : Int)) = (q0 : Int) := by split <;> omega
  have hq7 : q0 ≤ 7 := by omega
  have hqn : q0 ≤ l.length := by omega
  have hmi : min (7 : Int) (l.length : Int) = (q0 : Int) := by omega
  rw [← hq0] at HR
  clear hq0
  go_enter Tryd.func32, Tryd.ntmps32
  go_wp2
  go_loopw [7] (fun i wr => ∃ (k : Nat), k ≤ q0 ∧ i = .int .i64 k ∧ Hid (rep tb4 2 l = repK tb4 2 l k) ∧ Hid (Kept (fun _ => False) w wr)) (fun i _ => (intOf i).toNat)
  case atStart => exact ⟨q0, Nat.le_refl _, rfl, HR, Kept.refl _ _⟩
  case round =>
    obtain ⟨k, hk, rfl, HK, KK⟩ := hrel
    clear HR
    by_cases h0 : 0 < k
    · obtain ⟨j, rfl⟩ : ∃ j, k = j + 1 := ⟨k - 1, by omega⟩
      obtain ⟨r, hr⟩ : ∃ r, r = l.length - (j + 1) := ⟨_, rfl⟩
      have r1 : (l.length : Int) - ((j : Int) + 1) = (r : Int) := by omega
      have r2 : (r : Int) ≤ (l.length : Int) := by omega
      have r4 : r ≤ l.length := by omega
      have r3 : IntKind.i64.wrap (r : Int) = (r : Int) := by rw [IntKind.wrap_i64]; omega
      have j0 : (0 : Int) < (j : Int) + 1 := by omega
      have j1 : (j : Int) + 1 - 1 = (j : Int) := by omega
      have j2 : IntKind.i64.wrap (j : Int) = (j : Int) := by rw [IntKind.wrap_i64]; omega
      obtain ⟨x1, x2⟩ := HX.out r
      have CE := hideV (HE.out (l.drop r))
      have CM := hideV (HM.out r)
      have MI := HI.out r
      have HH := hideV (fun t => repK_hit tb4 2 l t j r (by omega) hr)
      have HN := hideV (fun h => HK.out.trans (repK_miss tb4 2 l j r (by omega) hr h))
      clear HX HE HM HI hr
      have z9 : IntKind.i64.wrap ((l.length : Int) - ((j : Int) + 1)) = (r : Int) := by rw [r1]; exact r3
      cases ht : lk tb4 (l.drop r) with
      | none =>
        have HQ := hideV (HN.out ht)
        have e1 : lkT tb4 (l.drop r) = [] := by unfold lkT; rw [ht]; rfl
        have e2 : lkB tb4 (l.drop r) = false := by unfold lkB; rw [ht]; rfl
        rw [e1, e2] at CE
        clear e1 e2 ht HN HH CM HK
        generalize bq (l.drop r) = E at x2 CE
        generalize bq (l.take r) = R at x1
        go_wp2
        go_region
        go_wp2_with (go_at_call 51; refine (CE.out _).mono ?_; clear CE; rintro e W ⟨rfl, rfl⟩)
        go_roundw
        case rel => exact ⟨j, by omega, rfl, HQ, KK.out.trans (Kept.drew _) (fun _ f => f.elim)⟩
        case measure => simp [intOf]
      | some t =>
        have HQ := hideV (HK.out.trans (HH.out t ht))
        have e1 : lkT tb4 (l.drop r) = t := by unfold lkT; rw [ht]; rfl
        have e2 : lkB tb4 (l.drop r) = true := by unfold lkB; rw [ht]; rfl
        rw [e1, e2] at CE
        have HA : Hid (bq (l.take r) ++ bq t = bq (l.take r ++ t)) := hideV (bq_append _ _)
        have s1 : (bq (l.take r)).size ≤ 281474976710000 := by rw [bq_size, List.length_take]; omega
        have s2 : (bq t).size ≤ 7 := by
          rw [bq_size]
          exact lk_small tb4 tb4_small (l.drop r) t ht
        clear e1 e2 ht HN HH HK
        generalize bq (l.drop r) = E at x2 CE
        by_cases hm : meas (l.take r) < 2
        · have HF : Hid (s = RES) := hideV (by rw [← HRES.out, HQ.out, if_pos hm]; exact HB.out)
          have hm2 : ((meas (l.take r) : Nat) : Int) < 2 := by omega
          generalize meas (l.take r) = mm at CM hm2 MI
          generalize bq (l.take r) = R at x1 CM
          clear HQ hm HRES HB
          go_wp2
          go_region
          go_wp2_with (first
            | (go_at_call 51; refine (CE.out _).mono ?_; clear CE; rintro e W ⟨rfl, rfl⟩)
            | (go_at_call 45; refine (CM.out _).mono ?_; clear CM; rintro e W3 ⟨rfl, K3⟩))
          go_ret
          exact ⟨congrArg (fun x => Ending.returned (.string x)) HF.out, (KK.out.trans (Kept.drew _) (fun _ f => f.elim)).trans K3 (fun _ f => f.elim)⟩
        · have HF : Hid (bq (l.take r) ++ bq t = RES) := hideV (by rw [← HRES.out, HQ.out, if_neg hm]; exact HA.out)
          have hm2 : ¬ ((meas (l.take r) : Nat) : Int) < 2 := by omega
          generalize meas (l.take r) = mm at CM hm2 MI
          generalize bq (l.take r) = R at x1 CM HF s1
          generalize bq t = T at CE HF s2
          clear HQ hm HRES HB HA
          go_wp2
          go_region
          go_wp2_with (first
            | (go_at_call 51; refine (CE.out _).mono ?_; clear CE; rintro e W ⟨rfl, rfl⟩)
            | (go_at_call 45; refine (CM.out _).mono ?_; clear CM; rintro e W3 ⟨rfl, K3⟩))
          go_ret
          exact ⟨congrArg (fun x => Ending.returned (.string x)) HF.out, (KK.out.trans (Kept.drew _) (fun _ f => f.elim)).trans K3 (fun _ f => f.elim)⟩
    · obtain rfl : k = 0 := by omega
      have HF : Hid (s = RES) := hideV (by rw [← HRES.out, HK.out]; exact HB.out)
      clear HK HRES HB HX HE HM HI
      go_wp2
      go_ret
      exact ⟨congrArg (fun x => Ending.returned (.string x)) HF.out, KK.out⟩
end Go.Proofs.YtnkmjhcddegkhaaDoor
