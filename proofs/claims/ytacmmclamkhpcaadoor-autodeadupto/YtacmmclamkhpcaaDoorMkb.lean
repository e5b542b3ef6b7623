import Derived.Test.YtacmmclamkhpcaaDoorMka
import Derived.Test.YtacmmclamkhpcaaDoorTso
namespace Go.Proofs.YtacmmclamkhpcaaDoor
open Go.ChangeShapes Go.WideShapes Go.ChangeAt Go.RowKit

theorem alvK_false {nx : List Int → Nat → List Int} {S0 : List Int} {s : List UInt8} (h : alvK nx S0 s = false) : runK nx S0 s = [] := by
  unfold alvK at h
  have := of_decide_eq_false h
  exact List.length_eq_zero_iff.1 (by omega)
theorem acc_alv {nx : List Int → Nat → List Int} {ac : List Int → Bool} {S0 : List Int} {s : List UInt8} (h : accK nx ac S0 s = true) : alvK nx S0 s = true := by
  unfold accK at h
  unfold alvK
  have h1 := (Bool.and_eq_true_iff.1 h).1
  have h2 := of_decide_eq_true h1
  exact decide_eq_true (List.length_pos_iff.2 h2)
theorem dead_on {nx : List Int → Nat → List Int} {ac : List Int → Bool} {S0 : List Int} {s : List UInt8} (t : List UInt8) (h : alvK nx S0 s = false) : accK nx ac S0 (s ++ t) = false ∧ alvK nx S0 (s ++ t) = false := by
  have h1 := runK_dead (alvK_false h) t
  constructor
  · unfold accK; rw [h1]; rfl
  · unfold alvK; rw [h1]; rfl
set_option maxRecDepth 20000 in
set_option maxHeartbeats 4000000 in
theorem dead_walk (k : Int) (l : List UInt8) (n : Int) (a1 a2 : Bool) (t1 : ByteArray) (b1 b2 : Bool) (t2 : ByteArray) (p : List UInt8) (K : List (List UInt8)) (ka : Option Addr) (kc : Nat) (ad : Nat → Addr) (w : World) (hE : Errs14 w ad) (hl : l.length ≤ 137438953000) (h1 : t1.size ≤ 1099511627776) (h2 : t2.size ≤ 1099511627776) (hp : p.length ≤ 1099511627776) (hks : KsT w ka K) (hkl : K.length ≤ 1099511627776) :
    Calls Tryd.prog 4 #[.agg #[.int .i64 k, .string (bq l), .int .i64 n, .bool a1, .bool a2, .string t1, .bool b1, .bool b2, .string t2], .string (bq p), .slice ka K.length kc] w fun e w' => e = .returned (.bool true) ∧ Kept (fun _ => False) w w' := by
  have KB := Kept.alloc w (.cells #[.int .i64 k, .string (bq l), .int .i64 n, .bool a1, .bool a2, .string t1, .bool b1, .bool b2, .string t2] 25)
  have hbx := heap_alloc_new w (.cells #[.int .i64 k, .string (bq l), .int .i64 n, .bool a1, .bool a2, .string t1, .bool b1, .bool b2, .string t2] 25)
  have HKB := hideG KB
  have HE := hideG (hE.kept KB)
  have HX := hideG hbx
  have CL := hideG (lives_any (ad 13) _ (hE.kept KB).s13.var)
  have CM : Hid (∀ W, Errs14 W ad → Calls Tryd.prog 8 #[.agg #[.int .i64 k, .string (bq l), .int .i64 n, .bool a1, .bool a2, .string t1, .bool b1, .bool b2, .string t2]] W fun e w' => mdK k l n (bad k l n) w' e ∧ Kept (fun _ => False) W w') := hideG (fun W h => madeK_any k l n a1 a2 t1 b1 b2 t2 ad W h hl h1 h2)
  have HKs := hideG hks
  obtain ⟨N, hN⟩ : ∃ N, N = K.length := ⟨_, rfl⟩
  rw [← hN]
  have HN := hideG hN
  have hNb : N ≤ 1099511627776 := by omega
  have zl : (bq l).size = l.length := bq_size l
  have zp : (bq p).size = p.length := bq_size p
  obtain ⟨sL, hsL⟩ : ∃ s, s = bq l := ⟨_, rfl⟩
  obtain ⟨sP, hsP⟩ : ∃ s, s = bq p := ⟨_, rfl⟩
  rw [← hsL] at HKB HE HX CL CM zl ⊢
  rw [← hsP] at zp ⊢
  have HsP := hideG hsP
  clear KB hbx hE hks hN hsL hsP
  have CELLS : Hid (∀ W : World, W.heap[w.heap.size]? = some (.cells #[.int .i64 k, .string sL, .int .i64 n, .bool a1, .bool a2, .string t1, .bool b1, .bool b2, .string t2] 25 (0, 0)) → W.cell? ⟨w.heap.size, 0, none⟩ = some (.int .i64 k) ∧ W.cell? ⟨w.heap.size, 1, none⟩ = some (.string sL) ∧ W.cell? ⟨w.heap.size, 2, none⟩ = some (.int .i64 n) ∧ W.cell? ⟨w.heap.size, 3, none⟩ = some (.bool a1) ∧ W.cell? ⟨w.heap.size, 4, none⟩ = some (.bool a2) ∧ W.cell? ⟨w.heap.size, 5, none⟩ = some (.string t1) ∧ W.cell? ⟨w.heap.size, 6, none⟩ = some (.bool b1) ∧ W.cell? ⟨w.heap.size, 7, none⟩ = some (.bool b2) ∧ W.cell? ⟨w.heap.size, 8, none⟩ = some (.string t2)) := hideG (fun W h => by refine ⟨?_, ?_, ?_, ?_, ?_, ?_, ?_, ?_, ?_⟩ <;> simp [World.cell?, h])
  by_cases hbig : 2000 < sL.size ∨ 2000 < sP.size
  · by_cases hb1 : 2000 < sL.size
    · have i1 : (2000 : Int) < (sL.size : Int) := by omega
      clear hbig hb1 CM zl zp
      go_enter Tryd.func4, Tryd.ntmps4
      go_wp2_with (go_at_call 7; refine CL.out.mono ?_; clear CL; rintro e W1 ⟨rfl, K1⟩; have HK1 := hideG (HKB.out.trans K1 (fun _ f => f.elim)); obtain ⟨x0, x1, x2, x3, x4, x5, x6, x7, x8⟩ := CELLS.out W1 (K1.heap HX.out (fun f => f)); clear K1)
      go_ret
      exact ⟨rfl, HK1.out⟩
    · have i1 : ¬ (2000 : Int) < (sL.size : Int) := by omega
      have i2 : (2000 : Int) < (sP.size : Int) := by omega
      clear hbig hb1 CM zl zp
      go_enter Tryd.func4, Tryd.ntmps4
      go_wp2_with (go_at_call 7; refine CL.out.mono ?_; clear CL; rintro e W1 ⟨rfl, K1⟩; have HK1 := hideG (HKB.out.trans K1 (fun _ f => f.elim)); obtain ⟨x0, x1, x2, x3, x4, x5, x6, x7, x8⟩ := CELLS.out W1 (K1.heap HX.out (fun f => f)); clear K1)
      go_ret
      exact ⟨rfl, HK1.out⟩
  · have i1 : ¬ (2000 : Int) < (sL.size : Int) := by omega
    have i2 : ¬ (2000 : Int) < (sP.size : Int) := by omega
    have hpl : p.length ≤ 2000 := by omega
    clear hbig zl
    go_enter Tryd.func4, Tryd.ntmps4
    go_wp2_with (first
      | (go_at_call 7; refine CL.out.mono ?_; clear CL; rintro e W1 ⟨rfl, K1⟩; have HE1 := hideG (HE.out.kept K1); have HK1 := hideG (HKB.out.trans K1 (fun _ f => f.elim)); obtain ⟨x0, x1, x2, x3, x4, x5, x6, x7, x8⟩ := CELLS.out W1 (K1.heap HX.out (fun f => f)); clear K1)
      | (go_at_call 8; refine Stp2.go ?_))
    refine ⟨?_⟩
    refine (CM.out W1 HE1.out).mono ?_
    rintro e V ⟨hmd, K2⟩
    have HKv := hideG (HK1.out.trans K2 (fun _ f => f.elim))
    clear x0 x1 x2 x3 x4 x5 x6 x7 x8 CM HX HE HE1 K2 CELLS HK1 HKB
    rcases hmd with ⟨hz, b, nx, ac, S0, rfl, hM, -⟩ | ⟨hz, rfl⟩
    · clear hz
      have HM := hideG hM
      clear hM
      have CV : Hid (∀ W, Kept (fun _ => False) V W → Calls Tryd.prog 13 #[.pointer (some ⟨b, 0, none⟩), .string sP] W fun e w' => e = .returned (.bool (alvK nx S0 p)) ∧ Kept (fun _ => False) W w') := hideG (fun W kW => by rw [HsP.out]; exact HM.out.alv W p kW (by omega))
      have CA : Hid (∀ W, Kept (fun _ => False) V W → Calls Tryd.prog 11 #[.pointer (some ⟨b, 0, none⟩), .string sP] W fun e w' => e = .returned (.bool (accK nx ac S0 p)) ∧ Kept (fun _ => False) W w') := hideG (fun W kW => by rw [HsP.out]; exact HM.out.acc W p kW (by omega))
      by_cases hal : alvK nx S0 p = true
      · rw [hal] at CV
        clear hal HM
        generalize accK nx ac S0 p = ra at *
        cases ra
        · go_wp2_with (first
            | (go_at_call 13; refine (CV.out V (Kept.refl _ _)).mono ?_; clear CV; rintro e W3 ⟨rfl, K3⟩)
            | (go_at_call 11; refine (CA.out W3 K3).mono ?_; clear CA; rintro e W4 ⟨rfl, K4⟩; have HK4 := hideG (K3.trans K4 (fun _ f => f.elim)); clear K3 K4))
          go_loopw [51] (fun v wr => ∃ j : Nat, j ≤ N ∧ v = .int .i64 j ∧ Hid (Kept (fun _ => False) V wr)) (fun v _ => N - (intOf v).toNat)
          case atStart => exact ⟨0, Nat.zero_le _, rfl, HK4⟩
          case round =>
            obtain ⟨j, hj, rfl, HKj⟩ := hrel
            clear HK4
            by_cases hjn : j < N
            · obtain ⟨kb, ko, rfl, hkc⟩ := (HKs.out.kept (HKv.out.trans HKj.out (fun _ f => f.elim))) (by intro e; have := HN.out; rw [e] at this; simp at this; omega)
              have hjK : j < K.length := by rw [← HN.out]; exact hjn
              have y0 := hkc j hjK
              generalize bq K[j] = sT at *
              have j1 : (j : Int) < (N : Int) := by omega
              clear hkc
              go_wp2
              go_roundw
              case rel => exact ⟨j + 1, by omega, by go_num, HKj⟩
              case measure => simp [intOf]; omega
            · have j1 : ¬ ((j : Int) < (N : Int)) := by omega
              go_wp2
              go_ret
              exact ⟨rfl, HKv.out.trans HKj.out (fun _ f => f.elim)⟩
        · go_wp2_with (first
            | (go_at_call 13; refine (CV.out V (Kept.refl _ _)).mono ?_; clear CV; rintro e W3 ⟨rfl, K3⟩)
            | (go_at_call 11; refine (CA.out W3 K3).mono ?_; clear CA; rintro e W4 ⟨rfl, K4⟩; have HK4 := hideG (K3.trans K4 (fun _ f => f.elim)); clear K3 K4))
          go_loopw [51] (fun v wr => ∃ j : Nat, j ≤ N ∧ v = .int .i64 j ∧ Hid (Kept (fun _ => False) V wr)) (fun v _ => N - (intOf v).toNat)
          case atStart => exact ⟨0, Nat.zero_le _, rfl, HK4⟩
          case round =>
            obtain ⟨j, hj, rfl, HKj⟩ := hrel
            clear HK4
            by_cases hjn : j < N
            · obtain ⟨kb, ko, rfl, hkc⟩ := (HKs.out.kept (HKv.out.trans HKj.out (fun _ f => f.elim))) (by intro e; have := HN.out; rw [e] at this; simp at this; omega)
              have hjK : j < K.length := by rw [← HN.out]; exact hjn
              have y0 := hkc j hjK
              generalize bq K[j] = sT at *
              have j1 : (j : Int) < (N : Int) := by omega
              clear hkc
              go_wp2
              go_roundw
              case rel => exact ⟨j + 1, by omega, by go_num, HKj⟩
              case measure => simp [intOf]; omega
            · have j1 : ¬ ((j : Int) < (N : Int)) := by omega
              go_wp2
              go_ret
              exact ⟨rfl, HKv.out.trans HKj.out (fun _ f => f.elim)⟩
      · have hal2 : alvK nx S0 p = false := by simpa using hal
        have hac : accK nx ac S0 p = false := by
          cases hx : accK nx ac S0 p
          · rfl
          · exact absurd (acc_alv hx) hal
        rw [hal2] at CV
        rw [hac] at CA
        have CV2 : Hid (∀ W t, Kept (fun _ => False) V W → t.length ≤ 2000 → Calls Tryd.prog 13 #[.pointer (some ⟨b, 0, none⟩), .string (sP ++ bq t)] W fun e w' => e = .returned (.bool false) ∧ Kept (fun _ => False) W w') := hideG (fun W t kW ht => by
          have h := HM.out.alv W (p ++ t) kW (by rw [List.length_append]; omega)
          rw [(dead_on (ac := ac) t hal2).2] at h
          rw [HsP.out, bq_append]
          exact h)
        have CA2 : Hid (∀ W t, Kept (fun _ => False) V W → t.length ≤ 2000 → Calls Tryd.prog 11 #[.pointer (some ⟨b, 0, none⟩), .string (sP ++ bq t)] W fun e w' => e = .returned (.bool false) ∧ Kept (fun _ => False) W w') := hideG (fun W t kW ht => by
          have h := HM.out.acc W (p ++ t) kW (by rw [List.length_append]; omega)
          rw [(dead_on (ac := ac) t hal2).1] at h
          rw [HsP.out, bq_append]
          exact h)
        clear hal hal2 hac HM
        have szp : sP.size ≤ 2000 := by omega
        go_wp2_with (first
          | (go_at_call 13; refine (CV.out V (Kept.refl _ _)).mono ?_; clear CV; rintro e W3 ⟨rfl, K3⟩)
          | (go_at_call 11; refine (CA.out W3 K3).mono ?_; clear CA; rintro e W4 ⟨rfl, K4⟩; have HK4 := hideG (K3.trans K4 (fun _ f => f.elim)); clear K3 K4))
        go_loopw [51] (fun v wr => ∃ j : Nat, j ≤ N ∧ v = .int .i64 j ∧ Hid (Kept (fun _ => False) V wr)) (fun v _ => N - (intOf v).toNat)
        case atStart => exact ⟨0, Nat.zero_le _, rfl, HK4⟩
        case round =>
          obtain ⟨j, hj, rfl, HKj⟩ := hrel
          clear HK4
          by_cases hjn : j < N
          · obtain ⟨kb, ko, rfl, hkc⟩ := (HKs.out.kept (HKv.out.trans HKj.out (fun _ f => f.elim))) (by intro e; have := HN.out; rw [e] at this; simp at this; omega)
            have hjK : j < K.length := by rw [← HN.out]; exact hjn
            have y0 := hkc j hjK
            have zt : (bq K[j]).size = (K[j]).length := bq_size _
            have D1 := hideG (fun W kW (hq : (K[j]'hjK).length ≤ 2000) => CA2.out W (K[j]'hjK) kW hq)
            have D2 := hideG (fun W kW (hq : (K[j]'hjK).length ≤ 2000) => CV2.out W (K[j]'hjK) kW hq)
            rw [← zt] at D1 D2
            generalize bq K[j] = sT at *
            have j1 : (j : Int) < (N : Int) := by omega
            clear hkc zt CA2 CV2
            by_cases hsm : sT.size ≤ 2000
            · have i3 : (sT.size : Int) ≤ 2000 := by omega
              have E1 := hideG (fun W kW => D1.out W kW hsm)
              have E2 := hideG (fun W kW => D2.out W kW hsm)
              clear D1 D2
              obtain ⟨sQ, hsQ⟩ : ∃ s, sP ++ sT = s := ⟨_, rfl⟩
              rw [hsQ] at E1 E2
              go_wp2_with (first
                | (go_at_call 11; refine (E1.out _ HKj.out).mono ?_; clear E1; rintro e W5 ⟨rfl, K5⟩; have HK5 := hideG (HKj.out.trans K5 (fun _ f => f.elim)); clear K5)
                | (go_at_call 13; refine (E2.out _ HK5.out).mono ?_; clear E2; rintro e W6 ⟨rfl, K6⟩; have HK6 := hideG (HK5.out.trans K6 (fun _ f => f.elim)); clear K6))
              go_roundw
              case rel => exact ⟨j + 1, by omega, by go_num, HK6⟩
              case measure => simp [intOf]; omega
            · have i3 : ¬ (sT.size : Int) ≤ 2000 := by omega
              clear D1 D2
              go_wp2
              go_roundw
              case rel => exact ⟨j + 1, by omega, by go_num, HKj⟩
              case measure => simp [intOf]; omega
          · have j1 : ¬ ((j : Int) < (N : Int)) := by omega
            go_wp2
            go_ret
            exact ⟨rfl, HKv.out.trans HKj.out (fun _ f => f.elim)⟩
    · clear hz
      go_wp2
      go_ret
      exact ⟨rfl, HKv.out⟩
end Go.Proofs.YtacmmclamkhpcaaDoor
