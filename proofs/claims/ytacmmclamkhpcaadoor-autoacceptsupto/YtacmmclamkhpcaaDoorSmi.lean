import Derived.Test.YtacmmclamkhpcaaDoorMrg2
import Derived.Test.YtacmmclamkhpcaaDoorMrg4
namespace Go.Proofs.YtacmmclamkhpcaaDoor
open Go.ChangeShapes Go.WideShapes Go.ChangeAt Go.RowKit

def SmP (x y z : Nat) (w w' : World) (e : Ending) : Prop := (∃ b, e = .returned (.bool b) ∧ (b = true → x ≤ 1048576 ∧ y ≤ 1048576 ∧ z ≤ 1048576)) ∧ Kept (fun _ => False) w w'
set_option maxRecDepth 20000 in
set_option maxHeartbeats 4000000 in
theorem small_any (k : Int) (sL : ByteArray) (n : Int) (a1 a2 : Bool) (t1 : ByteArray) (b1 b2 : Bool) (t2 A : ByteArray) (w : World) (h0 : sL.size ≤ 1099511627776) (h1 : t1.size ≤ 1099511627776) (h2 : t2.size ≤ 1099511627776) (hA : A.size ≤ 1099511627776) : Calls Tryd.prog 10 #[.agg #[.int .i64 k, .string sL, .int .i64 n, .bool a1, .bool a2, .string t1, .bool b1, .bool b2, .string t2], .string A] w fun e w' => SmP sL.size t1.size A.size w w' e := by
  obtain ⟨q, hq⟩ : ∃ q : Int, (1048576 : Int).tdiv ((A.size : Int) + 1) = q := ⟨_, rfl⟩
  have hq2 : (1048576 : Int) / ((A.size : Int) + 1) = q := by rw [← hq, Int.tdiv_eq_ediv_of_nonneg (by omega)]
  have hq3 : 0 ≤ q ∧ q ≤ 1048576 ∧ (0 < q → (A.size : Int) + 1 ≤ 1048576) := by
    rw [← hq2]
    refine ⟨Int.ediv_nonneg (by omega) (by omega), Int.ediv_le_self _ (by omega), fun h => ?_⟩
    apply Classical.byContradiction
    intro hn
    rw [Int.ediv_eq_zero_of_lt (by omega) (by omega)] at h
    omega
  obtain ⟨q0, q1, q2⟩ := hq3
  have HK := hideG (Kept.alloc w (.cells #[.int .i64 k, .string sL, .int .i64 n, .bool a1, .bool a2, .string t1, .bool b1, .bool b2, .string t2] 25))
  have z1 : ¬ ((A.size : Int) + 1 = 0) := by omega
  have HB : Hid (∀ b : Bool, b = decide ((sL.size : Int) + (t1.size : Int) + (t2.size : Int) + 1 < q) → b = true → sL.size ≤ 1048576 ∧ t1.size ≤ 1048576 ∧ A.size ≤ 1048576) := hideG (fun b hb ht => by
    rw [hb] at ht
    have := of_decide_eq_true ht
    have := q2 (by omega)
    omega)
  clear hq2 q2
  by_cases hlt : (sL.size : Int) + (t1.size : Int) + (t2.size : Int) + 1 < q
  · have HB2 := hideG (HB.out true (decide_eq_true hlt).symm rfl)
    clear HB
    go_enter Tryd.func10, Tryd.ntmps10
    go_wp2_with (go_quiet (fail))
    go_ret
    exact ⟨⟨_, rfl, fun _ => HB2.out⟩, HK.out.trans (Kept.drewA _ _) (fun _ f => f.elim)⟩
  · clear HB
    go_enter Tryd.func10, Tryd.ntmps10
    go_wp2_with (go_quiet (fail))
    go_ret
    exact ⟨⟨_, rfl, fun h => by cases h⟩, HK.out.trans (Kept.drewA _ _) (fun _ f => f.elim)⟩
theorem tld_shape (k : Int) (s : ByteArray) (n : Int) (a1 a2 : Bool) (t1 : ByteArray) (b1 b2 : Bool) (t2 : ByteArray) : ∃ k' n' c1 c2 u1 d1 d2 u2, tld k s n a1 a2 t1 b1 b2 t2 = .agg #[.int .i64 k', .string s, .int .i64 n', .bool c1, .bool c2, .string u1, .bool d1, .bool d2, .string u2] := by
  unfold tld
  split
  · exact ⟨_, _, _, _, _, _, _, _, rfl⟩
  · exact ⟨_, _, _, _, _, _, _, _, rfl⟩
set_option maxRecDepth 20000 in
set_option maxHeartbeats 4000000 in
theorem accepts_walk (k : Int) (l : List UInt8) (n : Int) (a1 a2 : Bool) (t1 : ByteArray) (b1 b2 : Bool) (t2 : ByteArray) (K : List (List UInt8)) (ka : Option Addr) (kc : Nat) (ad : Nat → Addr) (w : World) (hE : Errs14 w ad) (hl : l.length ≤ 137438953000) (h1 : t1.size ≤ 1099511627776) (h2 : t2.size ≤ 1099511627776) (hks : KsT w ka K) (hkl : K.length ≤ 1099511627776) (hkb : ∀ s ∈ K, s.length ≤ 1099511627776) :
    Calls Tryd.prog 3 #[.agg #[.int .i64 k, .string (bq l), .int .i64 n, .bool a1, .bool a2, .string t1, .bool b1, .bool b2, .string t2], .slice ka K.length kc] w fun e w' => e = .returned (.bool true) ∧ Kept (fun _ => False) w w' := by
  have KB := Kept.alloc w (.cells #[.int .i64 k, .string (bq l), .int .i64 n, .bool a1, .bool a2, .string t1, .bool b1, .bool b2, .string t2] 25)
  have hbx := heap_alloc_new w (.cells #[.int .i64 k, .string (bq l), .int .i64 n, .bool a1, .bool a2, .string t1, .bool b1, .bool b2, .string t2] 25)
  have HKB := hideG KB
  have HE := hideG (hE.kept KB)
  have HX := hideG hbx
  have CL := hideG (lives_any (ad 13) _ (hE.kept KB).s13.var)
  have CM : Hid (∀ W, Errs14 W ad → Calls Tryd.prog 8 #[.agg #[.int .i64 k, .string (bq l), .int .i64 n, .bool a1, .bool a2, .string t1, .bool b1, .bool b2, .string t2]] W fun e w' => mdE (KSp k a1 a2 t1.data.toList b1 b2 t2.data.toList) k l n (bad k l n) w' e ∧ Kept (fun _ => False) W w') := hideG (fun W h => madeE k l n a1 a2 t1 b1 b2 t2 ad W h hl h1 h2)
  have CT := hideG (fun W => told_any k (bq l) n a1 a2 t1 b1 b2 t2 W)
  have HR : Hid (∀ nx ac S0, bad k l n = 0 → KSo k l n nx ac S0 → KSp k a1 a2 t1.data.toList b1 b2 t2.data.toList nx ac S0 → l.length ≤ 1048576 → t1.size ≤ 1048576 → RefA (tld k (bq l) n a1 a2 t1 b1 b2 t2) (accK nx ac S0) (alvK nx S0)) := hideG (fun nx ac S0 h0 hS hP hl2 h12 => ref_of h0 hS hP hl2 h12)
  obtain ⟨k', n', c1, c2, u1, d1, d2, u2, et⟩ := tld_shape k (bq l) n a1 a2 t1 b1 b2 t2
  rw [et] at CT HR
  clear et
  have HKs := hideG hks
  have HKl := hideG hkb
  obtain ⟨N, hN⟩ : ∃ N, N = K.length := ⟨_, rfl⟩
  rw [← hN]
  have HN := hideG hN
  have hNb : N ≤ 1099511627776 := by omega
  have zl : (bq l).size = l.length := bq_size l
  have CS : Hid (∀ W s, s.length ≤ 1099511627776 → Calls Tryd.prog 10 #[.agg #[.int .i64 k, .string (bq l), .int .i64 n, .bool a1, .bool a2, .string t1, .bool b1, .bool b2, .string t2], .string (bq s)] W fun e w' => (∃ b, e = .returned (.bool b) ∧ (b = true → l.length ≤ 1048576 ∧ t1.size ≤ 1048576 ∧ s.length ≤ 1048576)) ∧ Kept (fun _ => False) W w') := hideG (fun W s hs => by
    have h := small_any k (bq l) n a1 a2 t1 b1 b2 t2 (bq s) W (by rw [bq_size]; omega) h1 h2 (by rw [bq_size]; omega)
    rw [bq_size, bq_size] at h
    exact h)
  obtain ⟨sL, hsL⟩ : ∃ s, s = bq l := ⟨_, rfl⟩
  rw [← hsL] at HKB HE HX CL CM CT CS HR ⊢
  clear KB hbx hE hks hN hsL zl hkb
  have CELLS : Hid (∀ W' : World, W'.heap[w.heap.size]? = some (.cells #[.int .i64 k, .string sL, .int .i64 n, .bool a1, .bool a2, .string t1, .bool b1, .bool b2, .string t2] 25 (0, 0)) → W'.cell? ⟨w.heap.size, 0, none⟩ = some (.int .i64 k) ∧ W'.cell? ⟨w.heap.size, 1, none⟩ = some (.string sL) ∧ W'.cell? ⟨w.heap.size, 2, none⟩ = some (.int .i64 n) ∧ W'.cell? ⟨w.heap.size, 3, none⟩ = some (.bool a1) ∧ W'.cell? ⟨w.heap.size, 4, none⟩ = some (.bool a2) ∧ W'.cell? ⟨w.heap.size, 5, none⟩ = some (.string t1) ∧ W'.cell? ⟨w.heap.size, 6, none⟩ = some (.bool b1) ∧ W'.cell? ⟨w.heap.size, 7, none⟩ = some (.bool b2) ∧ W'.cell? ⟨w.heap.size, 8, none⟩ = some (.string t2)) := hideG (fun W h => by refine ⟨?_, ?_, ?_, ?_, ?_, ?_, ?_, ?_, ?_⟩ <;> simp [World.cell?, h])
  go_enter Tryd.func3, Tryd.ntmps3
  go_wp2_with (first
    | (go_at_call 7; refine CL.out.mono ?_; clear CL; rintro e W1 ⟨rfl, K1⟩; have HX1 := hideG (K1.heap HX.out (fun f => f)); have HE1 := hideG (HE.out.kept K1); have HK1 := hideG (HKB.out.trans K1 (fun _ f => f.elim)); obtain ⟨x0, x1, x2, x3, x4, x5, x6, x7, x8⟩ := CELLS.out W1 HX1.out; clear K1)
    | (go_at_call 8; refine Stp2.go ?_))
  refine ⟨?_⟩
  refine (CM.out W1 HE1.out).mono ?_
  rintro e V ⟨hmd, K2⟩
  have HXv := hideG (K2.heap HX1.out (fun f => f))
  have HKv := hideG (HK1.out.trans K2 (fun _ f => f.elim))
  clear x0 x1 x2 x3 x4 x5 x6 x7 x8 CM HX HX1 HE HE1 K2 HK1 HKB
  rcases hmd with ⟨hz, b, nx, ac, S0, rfl, hM, hS, hP⟩ | ⟨hz, rfl⟩
  · have HRf := hideG (HR.out nx ac S0 hz hS hP)
    have HM := hideG hM
    clear hz hS hP hM HR
    generalize hfa : accK nx ac S0 = fa at HRf
    generalize hfl : alvK nx S0 = fl at HRf
    have HA : Hid (∀ W s, Kept (fun _ => False) V W → s.length ≤ 1099511627776 → Calls Tryd.prog 11 #[.pointer (some ⟨b, 0, none⟩), .string (bq s)] W fun e w' => e = .returned (.bool (fa s)) ∧ Kept (fun _ => False) W w') := hideG (fun W s kW hs => by rw [← hfa]; exact HM.out.acc W s kW hs)
    have HL : Hid (∀ W s, Kept (fun _ => False) V W → s.length ≤ 1099511627776 → Calls Tryd.prog 13 #[.pointer (some ⟨b, 0, none⟩), .string (bq s)] W fun e w' => e = .returned (.bool (fl s)) ∧ Kept (fun _ => False) W w') := hideG (fun W s kW hs => by rw [← hfl]; exact HM.out.alv W s kW hs)
    clear hfa hfl HM
    obtain ⟨x0, x1, x2, x3, x4, x5, x6, x7, x8⟩ := CELLS.out V HXv.out
    go_wp2_with (go_at_call 9; refine (CT.out _).mono ?_; clear CT; rintro e W2 ⟨rfl, K2⟩)
    have hbt := heap_alloc_new W2 (.cells #[.int .i64 k', .string sL, .int .i64 n', .bool c1, .bool c2, .string u1, .bool d1, .bool d2, .string u2] 31)
    have kt := Kept.alloc W2 (.cells #[.int .i64 k', .string sL, .int .i64 n', .bool c1, .bool c2, .string u1, .bool d1, .bool d2, .string u2] 31)
    obtain ⟨tb, htb⟩ : ∃ tb, tb = W2.heap.size := ⟨_, rfl⟩
    rw [← htb] at hbt ⊢
    have HV0 := hideG (K2.trans kt (fun _ f => f.elim))
    have HX0 := hideG ((K2.trans kt (fun _ f => f.elim)).heap HXv.out (fun f => f))
    have HT0 := hideG hbt
    clear kt K2 hbt htb x0 x1 x2 x3 x4 x5 x6 x7 x8
    generalize World.alloc W2 (.cells #[.int .i64 k', .string sL, .int .i64 n', .bool c1, .bool c2, .string u1, .bool d1, .bool d2, .string u2] 31) = V0 at *
    go_loopw [29] (fun v wr => ∃ j : Nat, j ≤ N ∧ v = .int .i64 j ∧ Hid (Kept (fun _ => False) V0 wr)) (fun v _ => N - (intOf v).toNat)
    case atStart => exact ⟨0, Nat.zero_le _, rfl, hideG (Kept.refl _ _)⟩
    case round =>
      obtain ⟨j, hj, rfl, HKj⟩ := hrel
      by_cases hjn : j < N
      · obtain ⟨kb, ko, rfl, hkc⟩ := (HKs.out.kept ((HKv.out.trans HV0.out (fun _ f => f.elim)).trans HKj.out (fun _ f => f.elim))) (by intro e; have := HN.out; rw [e] at this; simp at this; omega)
        have hjK : j < K.length := by rw [← HN.out]; exact hjn
        have y0 := hkc j hjK
        have hsb : (K[j]'hjK).length ≤ 1099511627776 := HKl.out _ (List.getElem_mem hjK)
        obtain ⟨s, hs⟩ : ∃ s, s = K[j]'hjK := ⟨_, rfl⟩
        rw [← hs] at y0 hsb
        clear hs hkc
        have CSs := hideG (fun W => CS.out W s hsb)
        have D1 : Hid (∀ W, Kept (fun _ => False) wr W → Calls Tryd.prog 11 #[.pointer (some ⟨b, 0, none⟩), .string (bq s)] W fun e w' => e = .returned (.bool (fa s)) ∧ Kept (fun _ => False) W w') := hideG (fun W kW => HA.out W s ((HV0.out.trans HKj.out (fun _ f => f.elim)).trans kW (fun _ f => f.elim)) hsb)
        have D3 : Hid (∀ W, Kept (fun _ => False) wr W → Calls Tryd.prog 13 #[.pointer (some ⟨b, 0, none⟩), .string (bq s)] W fun e w' => e = .returned (.bool (fl s)) ∧ Kept (fun _ => False) W w') := hideG (fun W kW => HL.out W s ((HV0.out.trans HKj.out (fun _ f => f.elim)).trans kW (fun _ f => f.elim)) hsb)
        have D2 : Hid (l.length ≤ 1048576 → t1.size ≤ 1048576 → s.length ≤ 1048576 → ∀ W, Calls Tryd.prog 12 #[.agg #[.int .i64 k', .string sL, .int .i64 n', .bool c1, .bool c2, .string u1, .bool d1, .bool d2, .string u2], .string (bq s)] W fun e w' => e = .returned (.bool (fa s)) ∧ Kept (fun _ => False) W w') := hideG (fun p1 p2 p3 W => (HRf.out p1 p2).acc W s p3)
        have D4 : Hid (l.length ≤ 1048576 → t1.size ≤ 1048576 → s.length ≤ 1048576 → ∀ W, Calls Tryd.prog 14 #[.agg #[.int .i64 k', .string sL, .int .i64 n', .bool c1, .bool c2, .string u1, .bool d1, .bool d2, .string u2], .string (bq s)] W fun e w' => e = .returned (.bool (fl s)) ∧ Kept (fun _ => False) W w') := hideG (fun p1 p2 p3 W => (HRf.out p1 p2).alv W s p3)
        generalize fa s = ra at *
        generalize fl s = rl at *
        generalize bq s = sT at *
        obtain ⟨x0, x1, x2, x3, x4, x5, x6, x7, x8⟩ := CELLS.out wr (HKj.out.heap HX0.out (fun f => f))
        have j1 : (j : Int) < (N : Int) := by omega
        go_wp2_with (go_at_call 10; refine Stp2.go ?_)
        refine ⟨?_⟩
        refine (CSs.out wr).mono ?_
        rintro e V1 ⟨⟨sb, rfl, hsb2⟩, K3⟩
        clear CSs x0 x1 x2 x3 x4 x5 x6 x7 x8
        have HKw := hideG (HKj.out.trans K3 (fun _ f => f.elim))
        cases sb with
        | false =>
          clear D1 D2 D3 D4 hsb2 K3
          go_wp2
          go_roundw
          case rel => exact ⟨j + 1, by omega, by go_num, HKw⟩
          case measure => simp [intOf]; omega
        | true =>
          obtain ⟨p1, p2, p3⟩ := hsb2 rfl
          have C1 : Hid (∀ W, Kept (fun _ => False) V1 W → _) := hideG (fun W kW => D1.out W (K3.trans kW (fun _ f => f.elim)))
          have C3 : Hid (∀ W, Kept (fun _ => False) V1 W → _) := hideG (fun W kW => D3.out W (K3.trans kW (fun _ f => f.elim)))
          have C2 := hideG (D2.out p1 p2 p3)
          have C4 := hideG (D4.out p1 p2 p3)
          have HC : Hid (∀ W', Kept (fun _ => False) V1 W' → W'.cell? ⟨tb, 0, none⟩ = some (.int .i64 k') ∧ W'.cell? ⟨tb, 1, none⟩ = some (.string sL) ∧ W'.cell? ⟨tb, 2, none⟩ = some (.int .i64 n') ∧ W'.cell? ⟨tb, 3, none⟩ = some (.bool c1) ∧ W'.cell? ⟨tb, 4, none⟩ = some (.bool c2) ∧ W'.cell? ⟨tb, 5, none⟩ = some (.string u1) ∧ W'.cell? ⟨tb, 6, none⟩ = some (.bool d1) ∧ W'.cell? ⟨tb, 7, none⟩ = some (.bool d2) ∧ W'.cell? ⟨tb, 8, none⟩ = some (.string u2)) := hideG (fun W' kW => by
            have h2 := (HKw.out.trans kW (fun _ f => f.elim)).heap HT0.out (fun f => f)
            refine ⟨?_, ?_, ?_, ?_, ?_, ?_, ?_, ?_, ?_⟩ <;> simp [World.cell?, h2])
          have hS6 : Kept (fun _ => False) V1 V1.drew := Kept.drewA V1 1
          clear D1 D2 D3 D4 hsb2 K3 p1 p2 p3
          go_wp2
          · refine wp_region_held (S := fun W' => Kept (fun _ => False) V1 W') (by kernel_rfl) ?_
            change wpAnyH _ _ _ _ _ _ _ _ (World.drew _)
            refine takeHA (i := 0) (d := 38) (v := .pointer (some ⟨b, 0, none⟩)) rfl rfl (by kernel_rfl) (by kernel_rfl) (by kernel_rfl) (fun _ _ _ h => h) (Or.inl ⟨by rfl, fun W hW => ?_⟩) hS6 ?_
            · go_simp
            simp only [Act.put, List.setIfInBounds_toArray, List.set_cons_zero, List.set_cons_succ]
            refine takeHA (i := 1) (d := 39) (v := .string sT) rfl rfl (by kernel_rfl) (by kernel_rfl) (by kernel_rfl) (fun _ _ _ h => h) (Or.inl ⟨by rfl, fun W hW => ?_⟩) hS6 ?_
            · go_simp
            simp only [Act.put, List.setIfInBounds_toArray, List.set_cons_zero, List.set_cons_succ]
            refine takeHA (i := 3) (d := 41) (v := .agg #[.int .i64 k', .string sL, .int .i64 n', .bool c1, .bool c2, .string u1, .bool d1, .bool d2, .string u2]) rfl rfl (by kernel_rfl) (by kernel_rfl) (by kernel_rfl) (fun _ _ _ h => h) (Or.inl ⟨by rfl, fun W hW => ?_⟩) hS6 ?_
            · (obtain ⟨q0, q1, q2, q3, q4, q5, q6, q7, q8⟩ := HC.out _ hW; go_simp)
            simp only [Act.put, List.setIfInBounds_toArray, List.set_cons_zero, List.set_cons_succ]
            refine takeHA (i := 4) (d := 42) (v := .string sT) rfl rfl (by kernel_rfl) (by kernel_rfl) (by kernel_rfl) (fun _ _ _ h => h) (Or.inl ⟨by rfl, fun W hW => ?_⟩) hS6 ?_
            · go_simp
            simp only [Act.put, List.setIfInBounds_toArray, List.set_cons_zero, List.set_cons_succ]
            refine wpAnyH_all (rs := [2]) (by kernel_rfl) (by simp) ?_
            intro i hi
            obtain rfl : i = 2 := by simpa using hi
            unfold wpOp
            go_simp
            first | refine (C1.out _ hS6).mono ?_ | refine Or.inl ((C1.out _ hS6).mono ?_)
            rintro e W2 ⟨rfl, k2⟩
            have hk2 := hS6.trans k2 (fun _ f => f.elim)
            refine ⟨hk2, ?_⟩
            refine wpAnyH_all (rs := [5]) (by kernel_rfl) (by simp) ?_
            intro i hi
            obtain rfl : i = 5 := by simpa using hi
            unfold wpOp
            go_simp
            first | refine (C2.out _).mono ?_ | refine Or.inl ((C2.out _).mono ?_)
            rintro e W3 ⟨rfl, k3⟩
            have hk3 := hk2.trans k3 (fun _ f => f.elim)
            refine ⟨hk3, ?_⟩
            refine takeHA (i := 6) (d := 44) (v := .bool false) rfl rfl (by kernel_rfl) (by kernel_rfl) (by kernel_rfl) (fun _ _ _ h => h) (Or.inl ⟨by rfl, fun W hW => ?_⟩) hk3 ?_
            · (cases ra <;> go_simp)
            simp only [Act.put, List.setIfInBounds_toArray, List.set_cons_zero, List.set_cons_succ]
            refine takeHA (i := 7) (d := 45) (v := .bool false) rfl rfl (by kernel_rfl) (by kernel_rfl) (by kernel_rfl) (fun _ _ _ h => h) (Or.inl ⟨by rfl, fun W hW => ?_⟩) hk3 ?_
            · go_simp
            simp only [Act.put, List.setIfInBounds_toArray, List.set_cons_zero, List.set_cons_succ]
            refine takeHA (i := 8) (d := 46) (v := .pointer (some ⟨b, 0, none⟩)) rfl rfl (by kernel_rfl) (by kernel_rfl) (by kernel_rfl) (fun _ _ _ h => h) (Or.inl ⟨by rfl, fun W hW => ?_⟩) hk3 ?_
            · go_simp
            simp only [Act.put, List.setIfInBounds_toArray, List.set_cons_zero, List.set_cons_succ]
            refine takeHA (i := 9) (d := 47) (v := .string sT) rfl rfl (by kernel_rfl) (by kernel_rfl) (by kernel_rfl) (fun _ _ _ h => h) (Or.inl ⟨by rfl, fun W hW => ?_⟩) hk3 ?_
            · go_simp
            simp only [Act.put, List.setIfInBounds_toArray, List.set_cons_zero, List.set_cons_succ]
            refine takeHA (i := 11) (d := 49) (v := .agg #[.int .i64 k', .string sL, .int .i64 n', .bool c1, .bool c2, .string u1, .bool d1, .bool d2, .string u2]) rfl rfl (by kernel_rfl) (by kernel_rfl) (by kernel_rfl) (fun _ _ _ h => h) (Or.inl ⟨by rfl, fun W hW => ?_⟩) hk3 ?_
            · (obtain ⟨q0, q1, q2, q3, q4, q5, q6, q7, q8⟩ := HC.out _ hW; go_simp)
            simp only [Act.put, List.setIfInBounds_toArray, List.set_cons_zero, List.set_cons_succ]
            refine takeHA (i := 12) (d := 50) (v := .string sT) rfl rfl (by kernel_rfl) (by kernel_rfl) (by kernel_rfl) (fun _ _ _ h => h) (Or.inl ⟨by rfl, fun W hW => ?_⟩) hk3 ?_
            · go_simp
            simp only [Act.put, List.setIfInBounds_toArray, List.set_cons_zero, List.set_cons_succ]
            refine wpAnyH_all (rs := [10]) (by kernel_rfl) (by simp) ?_
            intro i hi
            obtain rfl : i = 10 := by simpa using hi
            unfold wpOp
            go_simp
            first | refine (C3.out _ hk3).mono ?_ | refine Or.inl ((C3.out _ hk3).mono ?_)
            rintro e W4 ⟨rfl, k4⟩
            have hk4 := hk3.trans k4 (fun _ f => f.elim)
            refine ⟨hk4, ?_⟩
            refine wpAnyH_all (rs := [13]) (by kernel_rfl) (by simp) ?_
            intro i hi
            obtain rfl : i = 13 := by simpa using hi
            unfold wpOp
            go_simp
            first | refine (C4.out _).mono ?_ | refine Or.inl ((C4.out _).mono ?_)
            rintro e W5 ⟨rfl, k5⟩
            have hk5 := hk4.trans k5 (fun _ f => f.elim)
            refine ⟨hk5, ?_⟩
            refine takeHA (i := 14) (d := 52) (v := .bool false) rfl rfl (by kernel_rfl) (by kernel_rfl) (by kernel_rfl) (fun _ _ _ h => h) (Or.inl ⟨by rfl, fun W hW => ?_⟩) hk5 ?_
            · (cases rl <;> go_simp)
            simp only [Act.put, List.setIfInBounds_toArray, List.set_cons_zero, List.set_cons_succ]
            refine takeHA (i := 15) (d := 53) (v := .bool false) rfl rfl (by kernel_rfl) (by kernel_rfl) (by kernel_rfl) (fun _ _ _ h => h) (Or.inl ⟨by rfl, fun W hW => ?_⟩) hk5 ?_
            · go_simp
            simp only [Act.put, List.setIfInBounds_toArray, List.set_cons_zero, List.set_cons_succ]
            refine wpAnyH_done (by kernel_rfl) ?_ _
            go_wp2
            go_roundw
            case rel => exact ⟨j + 1, by omega, by go_num, hideG (HKw.out.trans hk5 (fun _ f => f.elim))⟩
            case measure => simp [intOf]; omega
      · have j1 : ¬ ((j : Int) < (N : Int)) := by omega
        go_wp2
        go_ret
        exact ⟨rfl, (HKv.out.trans HV0.out (fun _ f => f.elim)).trans HKj.out (fun _ f => f.elim)⟩
  · clear hz HR CT
    go_wp2
    go_ret
    exact ⟨rfl, HKv.out⟩
end Go.Proofs.YtacmmclamkhpcaaDoor
