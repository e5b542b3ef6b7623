import Derived.Test.YtacmmclamkhpcaaDoorMka
import Derived.Test.YtacmmclamkhpcaaDoorEdo
namespace Go.Proofs.YtacmmclamkhpcaaDoor
open Go.ChangeShapes Go.WideShapes Go.ChangeAt Go.RowKit

theorem accF (a b : List UInt8) (ed : Nat) : accK (nxF a ed) (acF a) (nz (0 :: List.range (min a.length ed + 1))) b = decide (led2 a b ≤ ed) := by
  unfold accK
  rw [runF_any]
  cases hT : trm (ed + 1) 0 (rwC (ed + 1) a b.reverse) with
  | nil =>
    have h := end_dead hT
    rw [decide_eq_false (show ¬ led2 a b ≤ ed by unfold led2; omega)]
    rfl
  | cons x row =>
    obtain ⟨he1, _⟩ := end_row hT
    have e1 : decide (nz (x :: row) ≠ []) = true := decide_eq_true (by unfold nz; simp)
    have e2 : acF a (nz (x :: row)) = decide (led2 a b ≤ ed) := by
      unfold acF
      rw [zn_nz]
      refine decide_eq_decide.2 (he1.trans ?_)
      unfold led2
      omega
    rw [e1, e2, Bool.true_and]
theorem alvF {a b : List UInt8} {ed : Nat} (h : led2 a b ≤ ed) (i : Nat) : alvK (nxF a ed) (nz (0 :: List.range (min a.length ed + 1))) (b.take i) = true := by
  have h1 : accK (nxF a ed) (acF a) (nz (0 :: List.range (min a.length ed + 1))) b = true := by rw [accF]; exact decide_eq_true h
  cases hx : alvK (nxF a ed) (nz (0 :: List.range (min a.length ed + 1))) (b.take i) with
  | true => rfl
  | false =>
    exfalso
    have h3 : runK (nxF a ed) (nz (0 :: List.range (min a.length ed + 1))) (b.take i) = [] := by
      unfold alvK at hx
      have := of_decide_eq_false hx
      exact List.length_eq_zero_iff.1 (by omega)
    have h4 := runK_dead h3 (b.drop i)
    rw [List.take_append_drop] at h4
    unfold accK at h1
    rw [h4] at h1
    simp at h1
theorem led2_ins (p q : List UInt8) (c : UInt8) : led2 (p ++ q) ((p ++ [c]) ++ q) ≤ 1 := by
  rw [led2_last]
  have := led2_head p [] [c]
  rw [List.append_nil] at this
  rw [this]
  exact led2_high [] [c]
theorem led2_del (p q : List UInt8) (c : UInt8) : led2 (p ++ c :: q) (p ++ q) ≤ 1 := by
  have e : p ++ c :: q = (p ++ [c]) ++ q := by simp
  rw [e, led2_symm]
  exact led2_ins p q c
theorem led2_sub (p q : List UInt8) (c d : UInt8) : led2 (p ++ c :: q) ((p ++ [d]) ++ q) ≤ 1 := by
  have e : p ++ c :: q = (p ++ [c]) ++ q := by simp
  rw [e, led2_last, led2_head]
  exact led2_high [c] [d]
theorem one_stringR (w : World) (ch : UInt8) : (convert 41 9 (.slice (some ⟨w.heap.size, 0, none⟩) 1 1)).run Tryd.prog (w.alloc (.cells #[.int .u8 (ch.toNat : Int)] 5)) = .ok (.string (bq [ch])) (w.alloc (.cells #[.int .u8 (ch.toNat : Int)] 5)) := by
  have g : Gro w (w.alloc (.cells #[.int .u8 (ch.toNat : Int)] 5)) 5 1 (.slice (some ⟨w.heap.size, 0, none⟩) 1 1) 1 (bu [ch]) :=
    ⟨⟨rfl, .inr ⟨w.heap.size, 1, #[.int .u8 (ch.toNat : Int)], rfl, Nat.le_refl _, heap_alloc_new w _, Nat.le_refl _, by decide, rfl, rfl⟩⟩, Kept.alloc _ _⟩
  exact gro_string g rfl
theorem EdsAt.kept {w w' : World} {a : Option Addr} {S : List EdT} (h : EdsAt w a S) (k : Kept (fun _ => False) w w') : EdsAt w' a S := fun hne => by
  obtain ⟨b, off, e, hc⟩ := h hne
  exact ⟨b, off, e, fun j y hy => ⟨k.cell (hc j y hy).1 (fun f => f), k.cell (hc j y hy).2.1 (fun f => f), k.cell (hc j y hy).2.2 (fun f => f)⟩⟩
theorem ext_takeR (l : List UInt8) (r : Nat) : (bq l).extract 0 r = bq (l.take r) := by rw [bq_extract, List.drop_zero, Nat.sub_zero]
theorem ext_dropR (l : List UInt8) (r n : Nat) (h : n = l.length) : (bq l).extract r n = bq (l.drop r) := by
  rw [bq_extract, List.take_of_length_le (by rw [List.length_drop]; omega)]
set_option maxRecDepth 20000 in
set_option maxHeartbeats 8000000 in
theorem reaches_walk (l : List UInt8) (S : List EdT) (ea : Option Addr) (ec : Nat) (pa : Addr) (w : World) (hP : w.cell? ⟨1, 0, none⟩ = some (.iface 97 (.pointer (some pa)))) (hS : EdsAt w ea S) (hec : S.length ≤ ec) :
    Calls Tryd.prog 5 #[.string (bq l), .slice ea S.length ec] w fun e w' => e = .returned (.bool true) ∧ Kept (fun _ => False) w w' := by
  have CL := hideG (lives_any pa w hP)
  have zl : (bq l).size = l.length := bq_size l
  obtain ⟨sL, hsL⟩ : ∃ s, s = bq l := ⟨_, rfl⟩
  rw [← hsL] at zl ⊢
  have HsL := hideG hsL
  have HS := hideG hS
  clear hsL hS hP
  by_cases hbig : 300 < sL.size
  · have i1 : (300 : Int) < (sL.size : Int) := by omega
    clear hbig zl
    go_enter Tryd.func5, Tryd.ntmps5
    go_wp2_with (go_at_call 7; refine CL.out.mono ?_; clear CL; rintro e W1 ⟨rfl, K1⟩)
    go_ret
    exact ⟨rfl, K1⟩
  · have i1 : ¬ (300 : Int) < (sL.size : Int) := by omega
    have hl3 : l.length ≤ 300 := by omega
    obtain ⟨N, hN⟩ : ∃ N, N = min S.length 2 := ⟨_, rfl⟩
    obtain ⟨M, hM⟩ : ∃ M, M = S.length := ⟨_, rfl⟩
    rw [← hM] at hN hec ⊢
    have HM := hideG (minN M 2)
    rw [← hN] at HM
    simp only [Int.cast_ofNat_Int] at HM
    have hNM : N ≤ M := by omega
    have hN2 : N ≤ 2 := by omega
    have HMl := hideG hM
    clear hM hbig hN zl
    have j1 : (N : Int) ≤ (M : Int) := by omega
    have j2 : (N : Int) ≤ (ec : Int) := by omega
    have j3 : N ≤ ec := by omega
    go_enter Tryd.func5, Tryd.ntmps5
    go_wp2_with (first
      | (go_at_call 7; refine CL.out.mono ?_; clear CL; rintro e W1 ⟨rfl, K1⟩)
      | (refine wpList_minA rfl _ _ rfl (M : Int) 2 (N : Int) rfl rfl HM.out ?_))
    have HK1 := hideG K1
    clear K1
    go_loopw [7, 33] (fun v jj wr => ∃ (j : Nat) (cur : List UInt8) (sC : ByteArray), j ≤ N ∧ jj = .int .i64 j ∧ v = .string sC ∧ Hid (sC = bq cur) ∧ Hid (led2 l cur ≤ j) ∧ Hid (cur.length ≤ 300 + j) ∧ Hid (Kept (fun _ => False) w wr)) (fun _ jj _ => N - (intOf jj).toNat)
    case atStart => exact ⟨0, l, sL, Nat.zero_le _, rfl, rfl, HsL, hideG (by rw [(led2_zero l l).2 rfl]; exact Nat.le_refl _), hideG hl3, HK1⟩
    case round =>
      obtain ⟨j, cur, sC, hj, rfl, rfl, HC, HD, HLc, HK⟩ := hrel
      clear HK1
      by_cases hjn : j < N
      · have i2 : (j : Int) < (N : Int) := by omega
        have hjS : j < S.length := by rw [← HMl.out]; omega
        obtain ⟨eb, eo, rfl, hec2⟩ := (HS.out.kept HK.out) (by intro e; rw [e] at hjS; simp at hjS)
        obtain ⟨⟨kk, av, ch⟩, hy⟩ : ∃ y, S[j]? = some y := ⟨S[j], List.getElem?_eq_getElem hjS⟩
        obtain ⟨c0, c1, c2⟩ := hec2 j _ hy
        simp only [Nat.add_zero] at c0 c1 c2
        obtain ⟨z, hz⟩ : ∃ z : Int, z = (ch.toNat : Int) := ⟨_, rfl⟩
        rw [← hz] at c2
        obtain ⟨L, hL⟩ : ∃ L, L = sC.size := ⟨_, rfl⟩
        have hLc : L = cur.length := by rw [hL, HC.out]; exact bq_size cur
        have hLb : L ≤ 302 := by have := HLc.out; omega
        have HLL := hideG hLc
        have HZ := hideG hz
        have HKb := hideG (HK.out.trans (Kept.alloc wr (.cells #[.int .i64 kk, .int .i64 av, .int .u8 z] 40)) (fun _ f => f.elim))
        have hLs : sC.size = L := hL.symm
        clear hec2 hy hL hLc hz
        have STEP : Hid (∀ cur2 : List UInt8, led2 cur cur2 ≤ 1 → cur2.length ≤ cur.length + 1 → led2 l cur2 ≤ j + 1 ∧ cur2.length ≤ 300 + (j + 1)) := hideG (fun cur2 h1 h2 => ⟨by have := led2_tri l cur cur2; have := HD.out; omega, by have := HLc.out; omega⟩)
        by_cases hneg : av < 0
        · obtain ⟨q, hq⟩ : ∃ q, q = L := ⟨_, rfl⟩
          have hqle : q ≤ L := by omega
          have hLs2 : sC.size = q := by rw [hLs, hq]
          have i3 : decide (av < 0) = true := decide_eq_true hneg
          subst hq
          clear hLs2
          by_cases hk1 : kk = 1
          · subst hk1
            obtain ⟨V0, hV0⟩ : ∃ V0 : World, V0 = (wr.alloc (.cells #[.int .i64 1, .int .i64 av, .int .u8 z] 40)).drew := ⟨_, rfl⟩
            have hS6 : V0.cell? ⟨wr.heap.size, 2, none⟩ = some (.int .u8 z) := by rw [hV0]; exact (Kept.drewA _ 1).cell (by simp) (fun f => f)
            have hS7 : (V0.alloc (.cells #[.int .u8 z] 5)).cell? ⟨wr.heap.size, 2, none⟩ = some (.int .u8 z) := (Kept.alloc V0 _).cell hS6 (fun f => f)
            have hsz0 : V0.heap.size = wr.heap.size + 1 := by rw [hV0]; simp
            have hcv : (convert 41 9 (.slice (some ⟨V0.heap.size, 0, none⟩) 1 1)).run Tryd.prog (V0.alloc (.cells #[.int .u8 z] 5)) = .ok (.string (bq [ch])) (V0.alloc (.cells #[.int .u8 z] 5)) := by rw [HZ.out]; exact one_stringR V0 ch
            rw [hsz0] at hcv
            have HKf : Hid (Kept (fun _ => False) w (V0.alloc (.cells #[.int .u8 z] 5))) := hideG (by rw [hV0]; exact (HKb.out.trans (Kept.drewA _ 1) (fun _ f => f.elim)).trans (Kept.alloc _ _) (fun _ f => f.elim))
            obtain ⟨s1, hs1⟩ : ∃ s, s = bq (cur.take q) := ⟨_, rfl⟩
            obtain ⟨s2, hs2⟩ : ∃ s, s = bq (cur.drop (q)) := ⟨_, rfl⟩
            obtain ⟨s3, hs3⟩ : ∃ s, s = bq (cur.take q ++ [ch]) := ⟨_, rfl⟩
            obtain ⟨s4, hs4⟩ : ∃ s, s = bq ((cur.take q ++ [ch]) ++ cur.drop (q)) := ⟨_, rfl⟩
            have x1 : sC.extract 0 q = s1 := by rw [HC.out, hs1]; exact ext_takeR _ _
            have x2 : sC.extract (q) q = s2 := by rw [HC.out, hs2]; exact ext_dropR _ _ _ HLL.out
            obtain ⟨sc, hsc⟩ : ∃ s, s = bq [ch] := ⟨_, rfl⟩
            rw [← hsc] at hcv
            have x3 : s1 ++ sc = s3 := by rw [hs1, hs3, hsc]; exact bq_append _ _
            have x4 : s3 ++ s2 = s4 := by rw [hs2, hs3, hs4]; exact bq_append _ _
            have z1 : s1.size ≤ 302 := by rw [hs1, bq_size, List.length_take]; have := HLL.out; omega
            have z2 : s2.size ≤ 302 := by rw [hs2, bq_size, List.length_drop]; have := HLL.out; omega
            have z3 : s3.size ≤ 303 := by rw [hs3, bq_size, List.length_append, List.length_take]; have := HLL.out; simp; omega
            have zc : sc.size ≤ 1 := by rw [hsc, bq_size]; simp
            have y1 : s1.size + sc.size ≤ 9223372036854775807 := by omega
            have y2 : s3.size + s2.size ≤ 9223372036854775807 := by omega
            have HS4 := hideG hs4
            clear hs1 hs2 hs3 hs4 hsc
            have x2e : ByteArray.empty = s2 := by rw [← x2]; simp

            go_wp2_with fail
            refine wp_region_held (S := fun V => V.cell? ⟨wr.heap.size, 2, none⟩ = some (.int .u8 z)) (by kernel_rfl) ?_
            change wpAnyH _ _ _ _ _ _ _ _ (World.drew _)
            rw [← hV0]
            clear hV0
            refine takeHA (i := 0) (d := 66) (v := .string sC) rfl rfl (by kernel_rfl) (by kernel_rfl) (by kernel_rfl) (fun _ _ _ h => h) (Or.inl ⟨by rfl, fun V hV => ?_⟩) hS6 ?_
            · (go_simp)
            simp only [Act.put, List.setIfInBounds_toArray, List.set_cons_zero, List.set_cons_succ]
            refine takeHA (i := 1) (d := 67) (v := .int .i64 (q : Int)) rfl rfl (by kernel_rfl) (by kernel_rfl) (by kernel_rfl) (fun _ _ _ h => h) (Or.inl ⟨by rfl, fun V hV => ?_⟩) hS6 ?_
            · (go_simp)
            simp only [Act.put, List.setIfInBounds_toArray, List.set_cons_zero, List.set_cons_succ]
            refine takeHA (i := 2) (d := 68) (v := .string s1) rfl rfl (by kernel_rfl) (by kernel_rfl) (by kernel_rfl) (fun _ _ _ h => h) (Or.inl ⟨by rfl, fun V hV => ?_⟩) hS6 ?_
            · (go_simp)
            simp only [Act.put, List.setIfInBounds_toArray, List.set_cons_zero, List.set_cons_succ]
            refine takeHA (i := 3) (d := 69) (v := .pointer (some ⟨wr.heap.size, 2, none⟩)) rfl rfl (by kernel_rfl) (by kernel_rfl) (by kernel_rfl) (fun _ _ _ h => h) (Or.inl ⟨by rfl, fun V hV => ?_⟩) hS6 ?_
            · (go_simp)
            simp only [Act.put, List.setIfInBounds_toArray, List.set_cons_zero, List.set_cons_succ]
            refine takeHA (i := 4) (d := 70) (v := .int .u8 z) rfl rfl (by kernel_rfl) (by kernel_rfl) (by kernel_rfl) (fun _ _ _ h => h) (Or.inl ⟨by rfl, fun V hV => ?_⟩) hS6 ?_
            · (go_simp)
            simp only [Act.put, List.setIfInBounds_toArray, List.set_cons_zero, List.set_cons_succ]
            refine takeHA (i := 8) (d := 74) (v := .string sC) rfl rfl (by kernel_rfl) (by kernel_rfl) (by kernel_rfl) (fun _ _ _ h => h) (Or.inl ⟨by rfl, fun V hV => ?_⟩) hS6 ?_
            · (go_simp)
            simp only [Act.put, List.setIfInBounds_toArray, List.set_cons_zero, List.set_cons_succ]
            refine takeHA (i := 9) (d := 75) (v := .int .i64 (q : Int)) rfl rfl (by kernel_rfl) (by kernel_rfl) (by kernel_rfl) (fun _ _ _ h => h) (Or.inl ⟨by rfl, fun V hV => ?_⟩) hS6 ?_
            · (go_simp)
            simp only [Act.put, List.setIfInBounds_toArray, List.set_cons_zero, List.set_cons_succ]
            refine takeHA (i := 10) (d := 76) (v := .string s2) rfl rfl (by kernel_rfl) (by kernel_rfl) (by kernel_rfl) (fun _ _ _ h => h) (Or.inl ⟨by rfl, fun V hV => ?_⟩) hS6 ?_
            · (go_simp)
            simp only [Act.put, List.setIfInBounds_toArray, List.set_cons_zero, List.set_cons_succ]
            refine wpAnyH_all (rs := [5]) (by kernel_rfl) (by simp) ?_
            intro i hi
            obtain rfl : i = 5 := by simpa using hi
            unfold wpOp
            go_simp
            first | refine Or.inl ⟨hS7, ?_⟩ | refine ⟨hS7, ?_⟩ | (change wpAnyH _ _ _ _ _ _ _ _ _) | refine Or.inl ?_
            refine wpAnyH_all (rs := [6]) (by kernel_rfl) (by simp) ?_
            intro i hi
            obtain rfl : i = 6 := by simpa using hi
            unfold wpOp
            go_simp
            first | refine Or.inl ⟨hS7, ?_⟩ | refine ⟨hS7, ?_⟩ | (change wpAnyH _ _ _ _ _ _ _ _ _) | refine Or.inl ?_
            refine takeHA (i := 7) (d := 73) (v := .string s3) rfl rfl (by kernel_rfl) (by kernel_rfl) (by kernel_rfl) (fun _ _ _ h => h) (Or.inl ⟨by rfl, fun V hV => ?_⟩) hS7 ?_
            · (go_simp)
            simp only [Act.put, List.setIfInBounds_toArray, List.set_cons_zero, List.set_cons_succ]
            refine takeHA (i := 11) (d := 77) (v := .string s4) rfl rfl (by kernel_rfl) (by kernel_rfl) (by kernel_rfl) (fun _ _ _ h => h) (Or.inl ⟨by rfl, fun V hV => ?_⟩) hS7 ?_
            · (go_simp)
            simp only [Act.put, List.setIfInBounds_toArray, List.set_cons_zero, List.set_cons_succ]
            refine takeHA (i := 12) (d := 7) (v := .string s4) rfl rfl (by kernel_rfl) (by kernel_rfl) (by kernel_rfl) (fun _ _ _ h => h) (Or.inl ⟨by rfl, fun V hV => ?_⟩) hS7 ?_
            · (go_simp)
            simp only [Act.put, List.setIfInBounds_toArray, List.set_cons_zero, List.set_cons_succ]
            refine wpAnyH_done (by kernel_rfl) ?_ _
            go_wp2
            go_roundw
            case rel => exact ⟨j + 1, (cur.take q ++ [ch]) ++ cur.drop q, s4, by omega, by go_num, rfl, HS4, hideG (STEP.out _ (by have := led2_ins (cur.take q) (cur.drop q) ch; rwa [List.take_append_drop] at this) (by rw [List.length_append, List.length_append, List.length_take, List.length_drop]; simp; omega)).1, hideG (STEP.out _ (by have := led2_ins (cur.take q) (cur.drop q) ch; rwa [List.take_append_drop] at this) (by rw [List.length_append, List.length_append, List.length_take, List.length_drop]; simp; omega)).2, HKf⟩
            case measure => simp [intOf]; omega
          · have q1 : (kk == 1) = false := by simpa using hk1
            go_wp2
            go_roundw
            case rel => exact ⟨j + 1, cur, sC, by omega, by go_num, rfl, HC, hideG (STEP.out _ (by rw [(led2_zero cur cur).2 rfl]; omega) (by omega)).1, hideG (STEP.out _ (by rw [(led2_zero cur cur).2 rfl]; omega) (by omega)).2, HKb⟩
            case measure => simp [intOf]; omega
        · by_cases hgt : (L : Int) < av
          · obtain ⟨q, hq⟩ : ∃ q, q = L := ⟨_, rfl⟩
            have hqle : q ≤ L := by omega
            subst hq
            by_cases hk1 : kk = 1
            · subst hk1
              obtain ⟨V0, hV0⟩ : ∃ V0 : World, V0 = (wr.alloc (.cells #[.int .i64 1, .int .i64 av, .int .u8 z] 40)).drew := ⟨_, rfl⟩
              have hS6 : V0.cell? ⟨wr.heap.size, 2, none⟩ = some (.int .u8 z) := by rw [hV0]; exact (Kept.drewA _ 1).cell (by simp) (fun f => f)
              have hS7 : (V0.alloc (.cells #[.int .u8 z] 5)).cell? ⟨wr.heap.size, 2, none⟩ = some (.int .u8 z) := (Kept.alloc V0 _).cell hS6 (fun f => f)
              have hsz0 : V0.heap.size = wr.heap.size + 1 := by rw [hV0]; simp
              have hcv : (convert 41 9 (.slice (some ⟨V0.heap.size, 0, none⟩) 1 1)).run Tryd.prog (V0.alloc (.cells #[.int .u8 z] 5)) = .ok (.string (bq [ch])) (V0.alloc (.cells #[.int .u8 z] 5)) := by rw [HZ.out]; exact one_stringR V0 ch
              rw [hsz0] at hcv
              have HKf : Hid (Kept (fun _ => False) w (V0.alloc (.cells #[.int .u8 z] 5))) := hideG (by rw [hV0]; exact (HKb.out.trans (Kept.drewA _ 1) (fun _ f => f.elim)).trans (Kept.alloc _ _) (fun _ f => f.elim))
              obtain ⟨s1, hs1⟩ : ∃ s, s = bq (cur.take q) := ⟨_, rfl⟩
              obtain ⟨s2, hs2⟩ : ∃ s, s = bq (cur.drop (q)) := ⟨_, rfl⟩
              obtain ⟨s3, hs3⟩ : ∃ s, s = bq (cur.take q ++ [ch]) := ⟨_, rfl⟩
              obtain ⟨s4, hs4⟩ : ∃ s, s = bq ((cur.take q ++ [ch]) ++ cur.drop (q)) := ⟨_, rfl⟩
              have x1 : sC.extract 0 q = s1 := by rw [HC.out, hs1]; exact ext_takeR _ _
              have x2 : sC.extract (q) q = s2 := by rw [HC.out, hs2]; exact ext_dropR _ _ _ HLL.out
              obtain ⟨sc, hsc⟩ : ∃ s, s = bq [ch] := ⟨_, rfl⟩
              rw [← hsc] at hcv
              have x3 : s1 ++ sc = s3 := by rw [hs1, hs3, hsc]; exact bq_append _ _
              have x4 : s3 ++ s2 = s4 := by rw [hs2, hs3, hs4]; exact bq_append _ _
              have z1 : s1.size ≤ 302 := by rw [hs1, bq_size, List.length_take]; have := HLL.out; omega
              have z2 : s2.size ≤ 302 := by rw [hs2, bq_size, List.length_drop]; have := HLL.out; omega
              have z3 : s3.size ≤ 303 := by rw [hs3, bq_size, List.length_append, List.length_take]; have := HLL.out; simp; omega
              have zc : sc.size ≤ 1 := by rw [hsc, bq_size]; simp
              have y1 : s1.size + sc.size ≤ 9223372036854775807 := by omega
              have y2 : s3.size + s2.size ≤ 9223372036854775807 := by omega
              have HS4 := hideG hs4
              clear hs1 hs2 hs3 hs4 hsc
              have x2e : ByteArray.empty = s2 := by rw [← x2]; simp

              go_wp2_with fail
              refine wp_region_held (S := fun V => V.cell? ⟨wr.heap.size, 2, none⟩ = some (.int .u8 z)) (by kernel_rfl) ?_
              change wpAnyH _ _ _ _ _ _ _ _ (World.drew _)
              rw [← hV0]
              clear hV0
              refine takeHA (i := 0) (d := 66) (v := .string sC) rfl rfl (by kernel_rfl) (by kernel_rfl) (by kernel_rfl) (fun _ _ _ h => h) (Or.inl ⟨by rfl, fun V hV => ?_⟩) hS6 ?_
              · (go_simp)
              simp only [Act.put, List.setIfInBounds_toArray, List.set_cons_zero, List.set_cons_succ]
              refine takeHA (i := 1) (d := 67) (v := .int .i64 (q : Int)) rfl rfl (by kernel_rfl) (by kernel_rfl) (by kernel_rfl) (fun _ _ _ h => h) (Or.inl ⟨by rfl, fun V hV => ?_⟩) hS6 ?_
              · (go_simp)
              simp only [Act.put, List.setIfInBounds_toArray, List.set_cons_zero, List.set_cons_succ]
              refine takeHA (i := 2) (d := 68) (v := .string s1) rfl rfl (by kernel_rfl) (by kernel_rfl) (by kernel_rfl) (fun _ _ _ h => h) (Or.inl ⟨by rfl, fun V hV => ?_⟩) hS6 ?_
              · (go_simp)
              simp only [Act.put, List.setIfInBounds_toArray, List.set_cons_zero, List.set_cons_succ]
              refine takeHA (i := 3) (d := 69) (v := .pointer (some ⟨wr.heap.size, 2, none⟩)) rfl rfl (by kernel_rfl) (by kernel_rfl) (by kernel_rfl) (fun _ _ _ h => h) (Or.inl ⟨by rfl, fun V hV => ?_⟩) hS6 ?_
              · (go_simp)
              simp only [Act.put, List.setIfInBounds_toArray, List.set_cons_zero, List.set_cons_succ]
              refine takeHA (i := 4) (d := 70) (v := .int .u8 z) rfl rfl (by kernel_rfl) (by kernel_rfl) (by kernel_rfl) (fun _ _ _ h => h) (Or.inl ⟨by rfl, fun V hV => ?_⟩) hS6 ?_
              · (go_simp)
              simp only [Act.put, List.setIfInBounds_toArray, List.set_cons_zero, List.set_cons_succ]
              refine takeHA (i := 8) (d := 74) (v := .string sC) rfl rfl (by kernel_rfl) (by kernel_rfl) (by kernel_rfl) (fun _ _ _ h => h) (Or.inl ⟨by rfl, fun V hV => ?_⟩) hS6 ?_
              · (go_simp)
              simp only [Act.put, List.setIfInBounds_toArray, List.set_cons_zero, List.set_cons_succ]
              refine takeHA (i := 9) (d := 75) (v := .int .i64 (q : Int)) rfl rfl (by kernel_rfl) (by kernel_rfl) (by kernel_rfl) (fun _ _ _ h => h) (Or.inl ⟨by rfl, fun V hV => ?_⟩) hS6 ?_
              · (go_simp)
              simp only [Act.put, List.setIfInBounds_toArray, List.set_cons_zero, List.set_cons_succ]
              refine takeHA (i := 10) (d := 76) (v := .string s2) rfl rfl (by kernel_rfl) (by kernel_rfl) (by kernel_rfl) (fun _ _ _ h => h) (Or.inl ⟨by rfl, fun V hV => ?_⟩) hS6 ?_
              · (go_simp)
              simp only [Act.put, List.setIfInBounds_toArray, List.set_cons_zero, List.set_cons_succ]
              refine wpAnyH_all (rs := [5]) (by kernel_rfl) (by simp) ?_
              intro i hi
              obtain rfl : i = 5 := by simpa using hi
              unfold wpOp
              go_simp
              first | refine Or.inl ⟨hS7, ?_⟩ | refine ⟨hS7, ?_⟩ | (change wpAnyH _ _ _ _ _ _ _ _ _) | refine Or.inl ?_
              refine wpAnyH_all (rs := [6]) (by kernel_rfl) (by simp) ?_
              intro i hi
              obtain rfl : i = 6 := by simpa using hi
              unfold wpOp
              go_simp
              first | refine Or.inl ⟨hS7, ?_⟩ | refine ⟨hS7, ?_⟩ | (change wpAnyH _ _ _ _ _ _ _ _ _) | refine Or.inl ?_
              refine takeHA (i := 7) (d := 73) (v := .string s3) rfl rfl (by kernel_rfl) (by kernel_rfl) (by kernel_rfl) (fun _ _ _ h => h) (Or.inl ⟨by rfl, fun V hV => ?_⟩) hS7 ?_
              · (go_simp)
              simp only [Act.put, List.setIfInBounds_toArray, List.set_cons_zero, List.set_cons_succ]
              refine takeHA (i := 11) (d := 77) (v := .string s4) rfl rfl (by kernel_rfl) (by kernel_rfl) (by kernel_rfl) (fun _ _ _ h => h) (Or.inl ⟨by rfl, fun V hV => ?_⟩) hS7 ?_
              · (go_simp)
              simp only [Act.put, List.setIfInBounds_toArray, List.set_cons_zero, List.set_cons_succ]
              refine takeHA (i := 12) (d := 7) (v := .string s4) rfl rfl (by kernel_rfl) (by kernel_rfl) (by kernel_rfl) (fun _ _ _ h => h) (Or.inl ⟨by rfl, fun V hV => ?_⟩) hS7 ?_
              · (go_simp)
              simp only [Act.put, List.setIfInBounds_toArray, List.set_cons_zero, List.set_cons_succ]
              refine wpAnyH_done (by kernel_rfl) ?_ _
              go_wp2
              go_roundw
              case rel => exact ⟨j + 1, (cur.take q ++ [ch]) ++ cur.drop q, s4, by omega, by go_num, rfl, HS4, hideG (STEP.out _ (by have := led2_ins (cur.take q) (cur.drop q) ch; rwa [List.take_append_drop] at this) (by rw [List.length_append, List.length_append, List.length_take, List.length_drop]; simp; omega)).1, hideG (STEP.out _ (by have := led2_ins (cur.take q) (cur.drop q) ch; rwa [List.take_append_drop] at this) (by rw [List.length_append, List.length_append, List.length_take, List.length_drop]; simp; omega)).2, HKf⟩
              case measure => simp [intOf]; omega
            · have q1 : (kk == 1) = false := by simpa using hk1
              go_wp2
              go_roundw
              case rel => exact ⟨j + 1, cur, sC, by omega, by go_num, rfl, HC, hideG (STEP.out _ (by rw [(led2_zero cur cur).2 rfl]; omega) (by omega)).1, hideG (STEP.out _ (by rw [(led2_zero cur cur).2 rfl]; omega) (by omega)).2, HKb⟩
              case measure => simp [intOf]; omega
          · obtain ⟨q, rfl⟩ : ∃ q : Nat, av = (q : Int) := ⟨av.toNat, by omega⟩
            have hqle : q ≤ L := by omega
            have i3 : ¬ ((q : Int) < 0) := by omega
            have i4 : ¬ ((L : Int) < (q : Int)) := by omega
            clear hneg hgt
            by_cases hk1 : kk = 1
            · subst hk1
              obtain ⟨V0, hV0⟩ : ∃ V0 : World, V0 = (wr.alloc (.cells #[.int .i64 1, .int .i64 (q : Int), .int .u8 z] 40)).drew := ⟨_, rfl⟩
              have hS6 : V0.cell? ⟨wr.heap.size, 2, none⟩ = some (.int .u8 z) := by rw [hV0]; exact (Kept.drewA _ 1).cell (by simp) (fun f => f)
              have hS7 : (V0.alloc (.cells #[.int .u8 z] 5)).cell? ⟨wr.heap.size, 2, none⟩ = some (.int .u8 z) := (Kept.alloc V0 _).cell hS6 (fun f => f)
              have hsz0 : V0.heap.size = wr.heap.size + 1 := by rw [hV0]; simp
              have hcv : (convert 41 9 (.slice (some ⟨V0.heap.size, 0, none⟩) 1 1)).run Tryd.prog (V0.alloc (.cells #[.int .u8 z] 5)) = .ok (.string (bq [ch])) (V0.alloc (.cells #[.int .u8 z] 5)) := by rw [HZ.out]; exact one_stringR V0 ch
              rw [hsz0] at hcv
              have HKf : Hid (Kept (fun _ => False) w (V0.alloc (.cells #[.int .u8 z] 5))) := hideG (by rw [hV0]; exact (HKb.out.trans (Kept.drewA _ 1) (fun _ f => f.elim)).trans (Kept.alloc _ _) (fun _ f => f.elim))
              obtain ⟨s1, hs1⟩ : ∃ s, s = bq (cur.take q) := ⟨_, rfl⟩
              obtain ⟨s2, hs2⟩ : ∃ s, s = bq (cur.drop (q)) := ⟨_, rfl⟩
              obtain ⟨s3, hs3⟩ : ∃ s, s = bq (cur.take q ++ [ch]) := ⟨_, rfl⟩
              obtain ⟨s4, hs4⟩ : ∃ s, s = bq ((cur.take q ++ [ch]) ++ cur.drop (q)) := ⟨_, rfl⟩
              have x1 : sC.extract 0 q = s1 := by rw [HC.out, hs1]; exact ext_takeR _ _
              have x2 : sC.extract (q) L = s2 := by rw [HC.out, hs2]; exact ext_dropR _ _ _ HLL.out
              obtain ⟨sc, hsc⟩ : ∃ s, s = bq [ch] := ⟨_, rfl⟩
              rw [← hsc] at hcv
              have x3 : s1 ++ sc = s3 := by rw [hs1, hs3, hsc]; exact bq_append _ _
              have x4 : s3 ++ s2 = s4 := by rw [hs2, hs3, hs4]; exact bq_append _ _
              have z1 : s1.size ≤ 302 := by rw [hs1, bq_size, List.length_take]; have := HLL.out; omega
              have z2 : s2.size ≤ 302 := by rw [hs2, bq_size, List.length_drop]; have := HLL.out; omega
              have z3 : s3.size ≤ 303 := by rw [hs3, bq_size, List.length_append, List.length_take]; have := HLL.out; simp; omega
              have zc : sc.size ≤ 1 := by rw [hsc, bq_size]; simp
              have y1 : s1.size + sc.size ≤ 9223372036854775807 := by omega
              have y2 : s3.size + s2.size ≤ 9223372036854775807 := by omega
              have HS4 := hideG hs4
              clear hs1 hs2 hs3 hs4 hsc

              go_wp2_with fail
              refine wp_region_held (S := fun V => V.cell? ⟨wr.heap.size, 2, none⟩ = some (.int .u8 z)) (by kernel_rfl) ?_
              change wpAnyH _ _ _ _ _ _ _ _ (World.drew _)
              rw [← hV0]
              clear hV0
              refine takeHA (i := 0) (d := 66) (v := .string sC) rfl rfl (by kernel_rfl) (by kernel_rfl) (by kernel_rfl) (fun _ _ _ h => h) (Or.inl ⟨by rfl, fun V hV => ?_⟩) hS6 ?_
              · (go_simp)
              simp only [Act.put, List.setIfInBounds_toArray, List.set_cons_zero, List.set_cons_succ]
              refine takeHA (i := 1) (d := 67) (v := .int .i64 (q : Int)) rfl rfl (by kernel_rfl) (by kernel_rfl) (by kernel_rfl) (fun _ _ _ h => h) (Or.inl ⟨by rfl, fun V hV => ?_⟩) hS6 ?_
              · (go_simp)
              simp only [Act.put, List.setIfInBounds_toArray, List.set_cons_zero, List.set_cons_succ]
              refine takeHA (i := 2) (d := 68) (v := .string s1) rfl rfl (by kernel_rfl) (by kernel_rfl) (by kernel_rfl) (fun _ _ _ h => h) (Or.inl ⟨by rfl, fun V hV => ?_⟩) hS6 ?_
              · (go_simp)
              simp only [Act.put, List.setIfInBounds_toArray, List.set_cons_zero, List.set_cons_succ]
              refine takeHA (i := 3) (d := 69) (v := .pointer (some ⟨wr.heap.size, 2, none⟩)) rfl rfl (by kernel_rfl) (by kernel_rfl) (by kernel_rfl) (fun _ _ _ h => h) (Or.inl ⟨by rfl, fun V hV => ?_⟩) hS6 ?_
              · (go_simp)
              simp only [Act.put, List.setIfInBounds_toArray, List.set_cons_zero, List.set_cons_succ]
              refine takeHA (i := 4) (d := 70) (v := .int .u8 z) rfl rfl (by kernel_rfl) (by kernel_rfl) (by kernel_rfl) (fun _ _ _ h => h) (Or.inl ⟨by rfl, fun V hV => ?_⟩) hS6 ?_
              · (go_simp)
              simp only [Act.put, List.setIfInBounds_toArray, List.set_cons_zero, List.set_cons_succ]
              refine takeHA (i := 8) (d := 74) (v := .string sC) rfl rfl (by kernel_rfl) (by kernel_rfl) (by kernel_rfl) (fun _ _ _ h => h) (Or.inl ⟨by rfl, fun V hV => ?_⟩) hS6 ?_
              · (go_simp)
              simp only [Act.put, List.setIfInBounds_toArray, List.set_cons_zero, List.set_cons_succ]
              refine takeHA (i := 9) (d := 75) (v := .int .i64 (q : Int)) rfl rfl (by kernel_rfl) (by kernel_rfl) (by kernel_rfl) (fun _ _ _ h => h) (Or.inl ⟨by rfl, fun V hV => ?_⟩) hS6 ?_
              · (go_simp)
              simp only [Act.put, List.setIfInBounds_toArray, List.set_cons_zero, List.set_cons_succ]
              refine takeHA (i := 10) (d := 76) (v := .string s2) rfl rfl (by kernel_rfl) (by kernel_rfl) (by kernel_rfl) (fun _ _ _ h => h) (Or.inl ⟨by rfl, fun V hV => ?_⟩) hS6 ?_
              · (go_simp)
              simp only [Act.put, List.setIfInBounds_toArray, List.set_cons_zero, List.set_cons_succ]
              refine wpAnyH_all (rs := [5]) (by kernel_rfl) (by simp) ?_
              intro i hi
              obtain rfl : i = 5 := by simpa using hi
              unfold wpOp
              go_simp
              first | refine Or.inl ⟨hS7, ?_⟩ | refine ⟨hS7, ?_⟩ | (change wpAnyH _ _ _ _ _ _ _ _ _) | refine Or.inl ?_
              refine wpAnyH_all (rs := [6]) (by kernel_rfl) (by simp) ?_
              intro i hi
              obtain rfl : i = 6 := by simpa using hi
              unfold wpOp
              go_simp
              first | refine Or.inl ⟨hS7, ?_⟩ | refine ⟨hS7, ?_⟩ | (change wpAnyH _ _ _ _ _ _ _ _ _) | refine Or.inl ?_
              refine takeHA (i := 7) (d := 73) (v := .string s3) rfl rfl (by kernel_rfl) (by kernel_rfl) (by kernel_rfl) (fun _ _ _ h => h) (Or.inl ⟨by rfl, fun V hV => ?_⟩) hS7 ?_
              · (go_simp)
              simp only [Act.put, List.setIfInBounds_toArray, List.set_cons_zero, List.set_cons_succ]
              refine takeHA (i := 11) (d := 77) (v := .string s4) rfl rfl (by kernel_rfl) (by kernel_rfl) (by kernel_rfl) (fun _ _ _ h => h) (Or.inl ⟨by rfl, fun V hV => ?_⟩) hS7 ?_
              · (go_simp)
              simp only [Act.put, List.setIfInBounds_toArray, List.set_cons_zero, List.set_cons_succ]
              refine takeHA (i := 12) (d := 7) (v := .string s4) rfl rfl (by kernel_rfl) (by kernel_rfl) (by kernel_rfl) (fun _ _ _ h => h) (Or.inl ⟨by rfl, fun V hV => ?_⟩) hS7 ?_
              · (go_simp)
              simp only [Act.put, List.setIfInBounds_toArray, List.set_cons_zero, List.set_cons_succ]
              refine wpAnyH_done (by kernel_rfl) ?_ _
              go_wp2
              go_roundw
              case rel => exact ⟨j + 1, (cur.take q ++ [ch]) ++ cur.drop q, s4, by omega, by go_num, rfl, HS4, hideG (STEP.out _ (by have := led2_ins (cur.take q) (cur.drop q) ch; rwa [List.take_append_drop] at this) (by rw [List.length_append, List.length_append, List.length_take, List.length_drop]; simp; omega)).1, hideG (STEP.out _ (by have := led2_ins (cur.take q) (cur.drop q) ch; rwa [List.take_append_drop] at this) (by rw [List.length_append, List.length_append, List.length_take, List.length_drop]; simp; omega)).2, HKf⟩
              case measure => simp [intOf]; omega
            · have q1 : (kk == 1) = false := by simpa using hk1
              by_cases hqL : q = L
              · subst hqL
                go_wp2
                go_roundw
                case rel => exact ⟨j + 1, cur, sC, by omega, by go_num, rfl, HC, hideG (STEP.out _ (by rw [(led2_zero cur cur).2 rfl]; omega) (by omega)).1, hideG (STEP.out _ (by rw [(led2_zero cur cur).2 rfl]; omega) (by omega)).2, HKb⟩
                case measure => simp [intOf]; omega
              · have q2 : ((q : Int) == (L : Int)) = false := by simp; omega
                have hqlt : q < L := by omega
                have i5 : (q : Int) + 1 ≤ (L : Int) := by omega
                have hqc : q < cur.length := by rw [← HLL.out]; exact hqlt
                have HSp : Hid (cur = cur.take q ++ cur[q] :: cur.drop (q + 1)) := hideG (by conv => lhs; rw [← List.take_append_drop q cur, List.drop_eq_getElem_cons hqc])
                by_cases hk2 : kk = 2
                · subst hk2
                  obtain ⟨s1, hs1⟩ : ∃ s, s = bq (cur.take q) := ⟨_, rfl⟩
                  obtain ⟨s2, hs2⟩ : ∃ s, s = bq (cur.drop (q + 1)) := ⟨_, rfl⟩
                  obtain ⟨s4, hs4⟩ : ∃ s, s = bq (cur.take q ++ cur.drop (q + 1)) := ⟨_, rfl⟩
                  have x1 : sC.extract 0 q = s1 := by rw [HC.out, hs1]; exact ext_takeR _ _
                  have x2 : sC.extract (q + 1) L = s2 := by rw [HC.out, hs2]; exact ext_dropR _ _ _ HLL.out
                  have x4 : s1 ++ s2 = s4 := by rw [hs1, hs2, hs4]; exact bq_append _ _
                  have z1 : s1.size ≤ 302 := by rw [hs1, bq_size, List.length_take]; have := HLL.out; omega
                  have z2 : s2.size ≤ 302 := by rw [hs2, bq_size, List.length_drop]; have := HLL.out; omega
                  have HS4 := hideG hs4
                  clear hs1 hs2 hs4
                  go_wp2_with (go_quiet (fail))
                  go_roundw
                  case rel => exact ⟨j + 1, cur.take q ++ cur.drop (q + 1), s4, by omega, by go_num, rfl, HS4, hideG (STEP.out _ (by have := led2_del (cur.take q) (cur.drop (q + 1)) (cur[q]'hqc); rwa [← HSp.out] at this) (by rw [List.length_append, List.length_take, List.length_drop]; omega)).1, hideG (STEP.out _ (by have := led2_del (cur.take q) (cur.drop (q + 1)) (cur[q]'hqc); rwa [← HSp.out] at this) (by rw [List.length_append, List.length_take, List.length_drop]; omega)).2, hideG (HKb.out.trans (Kept.drewA _ _) (fun _ f => f.elim))⟩
                  case measure => simp [intOf]; omega
                · have q3 : (kk == 2) = false := by simpa using hk2
                  obtain ⟨V0, hV0⟩ : ∃ V0 : World, V0 = (wr.alloc (.cells #[.int .i64 kk, .int .i64 (q : Int), .int .u8 z] 40)).drew := ⟨_, rfl⟩
                  have hS6 : V0.cell? ⟨wr.heap.size, 2, none⟩ = some (.int .u8 z) := by rw [hV0]; exact (Kept.drewA _ 1).cell (by simp) (fun f => f)
                  have hS7 : (V0.alloc (.cells #[.int .u8 z] 5)).cell? ⟨wr.heap.size, 2, none⟩ = some (.int .u8 z) := (Kept.alloc V0 _).cell hS6 (fun f => f)
                  have hsz0 : V0.heap.size = wr.heap.size + 1 := by rw [hV0]; simp
                  have hcv : (convert 41 9 (.slice (some ⟨V0.heap.size, 0, none⟩) 1 1)).run Tryd.prog (V0.alloc (.cells #[.int .u8 z] 5)) = .ok (.string (bq [ch])) (V0.alloc (.cells #[.int .u8 z] 5)) := by rw [HZ.out]; exact one_stringR V0 ch
                  rw [hsz0] at hcv
                  have HKf : Hid (Kept (fun _ => False) w (V0.alloc (.cells #[.int .u8 z] 5))) := hideG (by rw [hV0]; exact (HKb.out.trans (Kept.drewA _ 1) (fun _ f => f.elim)).trans (Kept.alloc _ _) (fun _ f => f.elim))
                  obtain ⟨s1, hs1⟩ : ∃ s, s = bq (cur.take q) := ⟨_, rfl⟩
                  obtain ⟨s2, hs2⟩ : ∃ s, s = bq (cur.drop (q + 1)) := ⟨_, rfl⟩
                  obtain ⟨s3, hs3⟩ : ∃ s, s = bq (cur.take q ++ [ch]) := ⟨_, rfl⟩
                  obtain ⟨s4, hs4⟩ : ∃ s, s = bq ((cur.take q ++ [ch]) ++ cur.drop (q + 1)) := ⟨_, rfl⟩
                  have x1 : sC.extract 0 q = s1 := by rw [HC.out, hs1]; exact ext_takeR _ _
                  have x2 : sC.extract (q + 1) L = s2 := by rw [HC.out, hs2]; exact ext_dropR _ _ _ HLL.out
                  obtain ⟨sc, hsc⟩ : ∃ s, s = bq [ch] := ⟨_, rfl⟩
                  rw [← hsc] at hcv
                  have x3 : s1 ++ sc = s3 := by rw [hs1, hs3, hsc]; exact bq_append _ _
                  have x4 : s3 ++ s2 = s4 := by rw [hs2, hs3, hs4]; exact bq_append _ _
                  have z1 : s1.size ≤ 302 := by rw [hs1, bq_size, List.length_take]; have := HLL.out; omega
                  have z2 : s2.size ≤ 302 := by rw [hs2, bq_size, List.length_drop]; have := HLL.out; omega
                  have z3 : s3.size ≤ 303 := by rw [hs3, bq_size, List.length_append, List.length_take]; have := HLL.out; simp; omega
                  have zc : sc.size ≤ 1 := by rw [hsc, bq_size]; simp
                  have y1 : s1.size + sc.size ≤ 9223372036854775807 := by omega
                  have y2 : s3.size + s2.size ≤ 9223372036854775807 := by omega
                  have HS4 := hideG hs4
                  clear hs1 hs2 hs3 hs4 hsc
                  have k0 : ¬ ((q : Int) + 1 < 0) := by omega
                  have k1 : IntKind.i64.wrap ((q : Int) + 1) = (q : Int) + 1 := by rw [IntKind.wrap_i64]; omega
                  go_wp2_with fail
                  refine wp_region_held (S := fun V => V.cell? ⟨wr.heap.size, 2, none⟩ = some (.int .u8 z)) (by kernel_rfl) ?_
                  change wpAnyH _ _ _ _ _ _ _ _ (World.drew _)
                  rw [← hV0]
                  clear hV0
                  refine takeHA (i := 0) (d := 49) (v := .string sC) rfl rfl (by kernel_rfl) (by kernel_rfl) (by kernel_rfl) (fun _ _ _ h => h) (Or.inl ⟨by rfl, fun V hV => ?_⟩) hS6 ?_
                  · (go_simp)
                  simp only [Act.put, List.setIfInBounds_toArray, List.set_cons_zero, List.set_cons_succ]
                  refine takeHA (i := 1) (d := 50) (v := .int .i64 (q : Int)) rfl rfl (by kernel_rfl) (by kernel_rfl) (by kernel_rfl) (fun _ _ _ h => h) (Or.inl ⟨by rfl, fun V hV => ?_⟩) hS6 ?_
                  · (go_simp)
                  simp only [Act.put, List.setIfInBounds_toArray, List.set_cons_zero, List.set_cons_succ]
                  refine takeHA (i := 2) (d := 51) (v := .string s1) rfl rfl (by kernel_rfl) (by kernel_rfl) (by kernel_rfl) (fun _ _ _ h => h) (Or.inl ⟨by rfl, fun V hV => ?_⟩) hS6 ?_
                  · (go_simp)
                  simp only [Act.put, List.setIfInBounds_toArray, List.set_cons_zero, List.set_cons_succ]
                  refine takeHA (i := 3) (d := 52) (v := .pointer (some ⟨wr.heap.size, 2, none⟩)) rfl rfl (by kernel_rfl) (by kernel_rfl) (by kernel_rfl) (fun _ _ _ h => h) (Or.inl ⟨by rfl, fun V hV => ?_⟩) hS6 ?_
                  · (go_simp)
                  simp only [Act.put, List.setIfInBounds_toArray, List.set_cons_zero, List.set_cons_succ]
                  refine takeHA (i := 4) (d := 53) (v := .int .u8 z) rfl rfl (by kernel_rfl) (by kernel_rfl) (by kernel_rfl) (fun _ _ _ h => h) (Or.inl ⟨by rfl, fun V hV => ?_⟩) hS6 ?_
                  · (go_simp)
                  simp only [Act.put, List.setIfInBounds_toArray, List.set_cons_zero, List.set_cons_succ]
                  refine takeHA (i := 8) (d := 57) (v := .string sC) rfl rfl (by kernel_rfl) (by kernel_rfl) (by kernel_rfl) (fun _ _ _ h => h) (Or.inl ⟨by rfl, fun V hV => ?_⟩) hS6 ?_
                  · (go_simp)
                  simp only [Act.put, List.setIfInBounds_toArray, List.set_cons_zero, List.set_cons_succ]
                  refine takeHA (i := 9) (d := 58) (v := .int .i64 (q : Int)) rfl rfl (by kernel_rfl) (by kernel_rfl) (by kernel_rfl) (fun _ _ _ h => h) (Or.inl ⟨by rfl, fun V hV => ?_⟩) hS6 ?_
                  · (go_simp)
                  simp only [Act.put, List.setIfInBounds_toArray, List.set_cons_zero, List.set_cons_succ]
                  refine takeHA (i := 10) (d := 59) (v := .int .i64 ((q : Int) + 1)) rfl rfl (by kernel_rfl) (by kernel_rfl) (by kernel_rfl) (fun _ _ _ h => h) (Or.inl ⟨by rfl, fun V hV => ?_⟩) hS6 ?_
                  · (go_simp)
                  simp only [Act.put, List.setIfInBounds_toArray, List.set_cons_zero, List.set_cons_succ]
                  refine takeHA (i := 11) (d := 60) (v := .string s2) rfl rfl (by kernel_rfl) (by kernel_rfl) (by kernel_rfl) (fun _ _ _ h => h) (Or.inl ⟨by rfl, fun V hV => ?_⟩) hS6 ?_
                  · (go_simp)
                  simp only [Act.put, List.setIfInBounds_toArray, List.set_cons_zero, List.set_cons_succ]
                  refine wpAnyH_all (rs := [5]) (by kernel_rfl) (by simp) ?_
                  intro i hi
                  obtain rfl : i = 5 := by simpa using hi
                  unfold wpOp
                  go_simp
                  first | refine Or.inl ⟨hS7, ?_⟩ | refine ⟨hS7, ?_⟩ | (change wpAnyH _ _ _ _ _ _ _ _ _) | refine Or.inl ?_
                  refine wpAnyH_all (rs := [6]) (by kernel_rfl) (by simp) ?_
                  intro i hi
                  obtain rfl : i = 6 := by simpa using hi
                  unfold wpOp
                  go_simp
                  first | refine Or.inl ⟨hS7, ?_⟩ | refine ⟨hS7, ?_⟩ | (change wpAnyH _ _ _ _ _ _ _ _ _) | refine Or.inl ?_
                  refine takeHA (i := 7) (d := 56) (v := .string s3) rfl rfl (by kernel_rfl) (by kernel_rfl) (by kernel_rfl) (fun _ _ _ h => h) (Or.inl ⟨by rfl, fun V hV => ?_⟩) hS7 ?_
                  · (go_simp)
                  simp only [Act.put, List.setIfInBounds_toArray, List.set_cons_zero, List.set_cons_succ]
                  refine takeHA (i := 12) (d := 61) (v := .string s4) rfl rfl (by kernel_rfl) (by kernel_rfl) (by kernel_rfl) (fun _ _ _ h => h) (Or.inl ⟨by rfl, fun V hV => ?_⟩) hS7 ?_
                  · (go_simp)
                  simp only [Act.put, List.setIfInBounds_toArray, List.set_cons_zero, List.set_cons_succ]
                  refine takeHA (i := 13) (d := 7) (v := .string s4) rfl rfl (by kernel_rfl) (by kernel_rfl) (by kernel_rfl) (fun _ _ _ h => h) (Or.inl ⟨by rfl, fun V hV => ?_⟩) hS7 ?_
                  · (go_simp)
                  simp only [Act.put, List.setIfInBounds_toArray, List.set_cons_zero, List.set_cons_succ]
                  refine wpAnyH_done (by kernel_rfl) ?_ _
                  clear k1
                  go_wp2
                  go_roundw
                  case rel => exact ⟨j + 1, (cur.take q ++ [ch]) ++ cur.drop (q + 1), s4, by omega, by go_num, rfl, HS4, hideG (STEP.out _ (by have := led2_sub (cur.take q) (cur.drop (q + 1)) (cur[q]'hqc) ch; rwa [← HSp.out] at this) (by rw [List.length_append, List.length_append, List.length_take, List.length_drop]; simp; omega)).1, hideG (STEP.out _ (by have := led2_sub (cur.take q) (cur.drop (q + 1)) (cur[q]'hqc) ch; rwa [← HSp.out] at this) (by rw [List.length_append, List.length_append, List.length_take, List.length_drop]; simp; omega)).2, HKf⟩
                  case measure => simp [intOf]; omega
      · have i2 : ¬ ((j : Int) < (N : Int)) := by omega
        have hjN : j = N := by omega
        subst hjN
        have hcl : cur.length ≤ 302 := by have := HLc.out; omega
        have hsC : sC.size = cur.length := by rw [HC.out]; exact bq_size cur
        obtain ⟨L, hL⟩ : ∃ L, sC.size = L := ⟨_, rfl⟩
        have hLc : L = cur.length := by rw [← hL, hsC]
        have CF1 : Hid (∀ W, Calls Tryd.prog 15 #[.string sL, .int .i64 (j : Int)] W fun e w' => (∃ ba, e = .returned (.tuple #[.pointer (some ⟨ba, 0, none⟩), .nilIface]) ∧ AuM w' ba (nxF l j) (acF l) (nz (0 :: List.range (min l.length j + 1)))) ∧ Kept (fun _ => False) W w') := hideG (fun W => by rw [HsL.out]; exact FuzzyK_any l j W (by omega) hN2)
        have CF2 : Hid (∀ W, Calls Tryd.prog 15 #[.string sC, .int .i64 (j : Int)] W fun e w' => (∃ ba, e = .returned (.tuple #[.pointer (some ⟨ba, 0, none⟩), .nilIface]) ∧ AuM w' ba (nxF cur j) (acF cur) (nz (0 :: List.range (min cur.length j + 1)))) ∧ Kept (fun _ => False) W w') := hideG (fun W => by rw [HC.out]; exact FuzzyK_any cur j W (by omega) hN2)
        have CA1 : Hid (∀ V W ba, AuM V ba (nxF l j) (acF l) (nz (0 :: List.range (min l.length j + 1))) → Kept (fun _ => False) V W → Calls Tryd.prog 11 #[.pointer (some ⟨ba, 0, none⟩), .string sC] W fun e w' => e = .returned (.bool true) ∧ Kept (fun _ => False) W w') := hideG (fun V W ba h k => by
          have h2 := h.acc W cur k (by omega)
          rw [accF, decide_eq_true HD.out] at h2
          rw [HC.out]
          exact h2)
        have CA2 : Hid (∀ V W ba, AuM V ba (nxF cur j) (acF cur) (nz (0 :: List.range (min cur.length j + 1))) → Kept (fun _ => False) V W → Calls Tryd.prog 11 #[.pointer (some ⟨ba, 0, none⟩), .string sL] W fun e w' => e = .returned (.bool true) ∧ Kept (fun _ => False) W w') := hideG (fun V W ba h k => by
          have h2 := h.acc W l k (by omega)
          rw [accF, led2_symm, decide_eq_true HD.out] at h2
          rw [HsL.out]
          exact h2)
        have CV1 : Hid (∀ V W ba i, AuM V ba (nxF l j) (acF l) (nz (0 :: List.range (min l.length j + 1))) → Kept (fun _ => False) V W → Calls Tryd.prog 13 #[.pointer (some ⟨ba, 0, none⟩), .string (sC.extract 0 i)] W fun e w' => e = .returned (.bool true) ∧ Kept (fun _ => False) W w') := hideG (fun V W ba i h k => by
          have h2 := h.alv W (cur.take i) k (by rw [List.length_take]; omega)
          rw [alvF HD.out] at h2
          rw [HC.out, ext_takeR]
          exact h2)
        generalize nz (0 :: List.range (min l.length j + 1)) = S1 at *
        generalize nz (0 :: List.range (min cur.length j + 1)) = S2 at *
        have hLb : L ≤ 302 := by omega
        clear hsC HD HLc HC HsL
        go_wp2_with (first
          | (go_at_call 15; refine (CF1.out _).mono ?_; clear CF1; rintro e W2 ⟨⟨b1, rfl, hM1⟩, K2⟩; have HM1 := hideG hM1; have HK2 := hideG (HK.out.trans K2 (fun _ f => f.elim)); clear hM1 K2)
          | (go_at_call 15; refine (CF2.out _).mono ?_; clear CF2; rintro e W3 ⟨⟨b2, rfl, hM2⟩, K3⟩; have HM2 := hideG hM2; have HM3 := hideG (HM1.out.kept K3); have HK3 := hideG (HK2.out.trans K3 (fun _ f => f.elim)); clear hM2 K3 HM1)
          | (go_at_call 11; refine (CA1.out W3 W3 b1 HM3.out (Kept.refl _ _)).mono ?_; clear CA1; rintro e W4 ⟨rfl, K4⟩; have HK4 := hideG K4; clear K4)
          | (go_at_call 11; refine (CA2.out W3 W4 b2 HM2.out HK4.out).mono ?_; clear CA2; rintro e W5 ⟨rfl, K5⟩; have HK5 := hideG (HK4.out.trans K5 (fun _ f => f.elim)); clear K5))
        go_loopw [15] (fun v wr => ∃ i : Nat, i ≤ L + 1 ∧ v = .int .i64 i ∧ Hid (Kept (fun _ => False) W3 wr)) (fun v _ => L + 1 - (intOf v).toNat)
        case atStart => exact ⟨0, Nat.zero_le _, rfl, HK5⟩
        case round =>
          obtain ⟨i, hi, rfl, HKi⟩ := hrel
          clear HK5 HK4
          by_cases hil : i ≤ L
          · have k1 : (i : Int) ≤ (L : Int) := by omega
            have E1 := hideG (fun W k => CV1.out W3 W b1 i HM3.out k)
            obtain ⟨sI, hsI⟩ : ∃ s, sC.extract 0 i = s := ⟨_, rfl⟩
            rw [hsI] at E1
            clear CV1
            go_wp2_with (go_at_call 13; refine (E1.out _ HKi.out).mono ?_; clear E1; rintro e W6 ⟨rfl, K6⟩)
            go_roundw
            case rel => exact ⟨i + 1, by omega, by go_num, hideG (HKi.out.trans K6 (fun _ f => f.elim))⟩
            case measure => simp [intOf]; omega
          · have k1 : ¬ ((i : Int) ≤ (L : Int)) := by omega
            go_wp2
            go_ret
            exact ⟨rfl, HK3.out.trans HKi.out (fun _ f => f.elim)⟩
end Go.Proofs.YtacmmclamkhpcaaDoor
