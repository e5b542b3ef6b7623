import Derived.Test.YtacmmclamkhpcaaDoorSme
import Derived.Test.YtacmmclamkhpcaaDoorMrg1
import Derived.Test.YtacmmclamkhpcaaDoorMrg3
import Derived.Test.YtacmmclamkhpcaaDoorRca
import Derived.Test.YtacmmclamkhpcaaDoorWma
namespace Go.Proofs.YtacmmclamkhpcaaDoor
open Go.ChangeShapes Go.WideShapes Go.ChangeAt Go.RowKit

theorem ba_inj {A B : ByteArray} (h : A.toList = B.toList) : A = B := by
  rw [ByteArray.toList_eq, ByteArray.toList_eq] at h
  show (⟨A.data⟩ : ByteArray) = ⟨B.data⟩
  rw [Array.toList_inj.1 h]
theorem take_pre {s h : List UInt8} : h.isPrefixOf s = true ↔ h.length ≤ s.length ∧ s.take h.length = h := by
  rw [pre_iff]
  constructor
  · rintro ⟨r, rfl⟩
    exact ⟨by simp, by simp⟩
  · rintro ⟨_, h2⟩
    exact ⟨s.drop h.length, by have := List.take_append_drop h.length s; rw [h2] at this; exact this.symm⟩
set_option maxRecDepth 20000 in
set_option maxHeartbeats 4000000 in
theorem begins_any (s h : List UInt8) (w : World) (hs : s.length ≤ 1099511627777) (hh : h.length ≤ 1099511627777) : Calls Tryd.prog 23 #[.string (bq s), .string (bq h)] w fun e w' => e = .returned (.bool (h.isPrefixOf s)) ∧ Kept (fun _ => False) w w' := by
  have hA : (bq s).size = s.length := bq_size s
  have hB : (bq h).size = h.length := bq_size h
  have hx : ((bq s).extract 0 (bq h).size).toList = (bq h).toList ↔ s.take h.length = h := by rw [bq_extract, bq_size, List.drop_zero, Nat.sub_zero, bq_list, bq_list]
  generalize bq s = A at *
  generalize bq h = B at *
  have Q : ∀ {b : Bool}, (b = true ↔ h.length ≤ s.length ∧ s.take h.length = h) → h.isPrefixOf s = b := fun {b} hb => by rw [Bool.eq_iff_iff, take_pre, hb]
  by_cases hl : h.length ≤ s.length
  · have j1 : (B.size : Int) ≤ (A.size : Int) := by omega
    have j2 : B.size ≤ A.size := by omega
    have j3 : A.size ≤ 1099511627777 := by omega
    by_cases he : s.take h.length = h
    · rw [Q (b := true) (by simp [hl, he])]
      have h1 := hx.2 he
      clear hx Q hl he hA hB hs hh
      go_enter Tryd.func23, Tryd.ntmps23
      go_wp2
      go_ret
      exact ⟨rfl, Kept.refl _ _⟩
    · rw [Q (b := false) (by simp [he])]
      have h1 : ((A.extract 0 B.size).toList == B.toList) = false := by rw [beq_eq_false_iff_ne]; exact fun e => he (hx.1 e)
      clear hx Q hl he hA hB hs hh
      go_enter Tryd.func23, Tryd.ntmps23
      go_wp2
      go_ret
      exact ⟨rfl, Kept.refl _ _⟩
  · rw [Q (b := false) (by simp [hl])]
    have j1 : ¬ (B.size : Int) ≤ (A.size : Int) := by omega
    have j3 : A.size ≤ 1099511627777 := by omega
    have j4 : B.size ≤ 1099511627777 := by omega
    clear hx Q hl hA hB hs hh
    go_enter Tryd.func23, Tryd.ntmps23
    go_wp2
    go_ret
    exact ⟨rfl, Kept.refl _ _⟩
set_option maxRecDepth 20000 in
set_option maxHeartbeats 4000000 in
theorem racc_x (l s : List UInt8) (n : Int) (a1 a2 : Bool) (t1 : ByteArray) (b1 b2 : Bool) (t2 : ByteArray) (w : World) : Calls Tryd.prog 12 #[.agg #[.int .i64 1, .string (bq l), .int .i64 n, .bool a1, .bool a2, .string t1, .bool b1, .bool b2, .string t2], .string (bq s)] w fun e w' => e = .returned (.bool (decide (s = l))) ∧ Kept (fun _ => False) w w' := by
  have hq : (bq s).toList = (bq l).toList ↔ s = l := by rw [bq_list, bq_list]
  generalize bq l = B at *
  generalize bq s = A at *
  by_cases h : s = l
  · rw [decide_eq_true h]
    have he := hq.2 h
    clear hq h
    go_enter Tryd.func12, Tryd.ntmps12
    go_wp2
    go_ret
    exact ⟨rfl, Kept.alloc _ _⟩
  · rw [decide_eq_false h]
    have he : (A.toList == B.toList) = false := by rw [beq_eq_false_iff_ne]; exact fun e => h (hq.1 e)
    clear hq h
    go_enter Tryd.func12, Tryd.ntmps12
    go_wp2
    go_ret
    exact ⟨rfl, Kept.alloc _ _⟩
set_option maxRecDepth 20000 in
set_option maxHeartbeats 4000000 in
theorem racc_p (l s : List UInt8) (n : Int) (a1 a2 : Bool) (t1 : ByteArray) (b1 b2 : Bool) (t2 : ByteArray) (w : World) (hl : l.length ≤ 1099511627776) (hs : s.length ≤ 1099511627776) : Calls Tryd.prog 12 #[.agg #[.int .i64 2, .string (bq l), .int .i64 n, .bool a1, .bool a2, .string t1, .bool b1, .bool b2, .string t2], .string (bq s)] w fun e w' => e = .returned (.bool (l.isPrefixOf s)) ∧ Kept (fun _ => False) w w' := by
  have CB := hideG (fun W => begins_any s l W (by omega) (by omega))
  generalize l.isPrefixOf s = b at *
  generalize bq l = B at *
  generalize bq s = A at *
  go_enter Tryd.func12, Tryd.ntmps12
  go_wp2_with (go_at_call 23; refine (CB.out _).mono ?_; clear CB; rintro e W ⟨rfl, K1⟩)
  go_ret
  exact ⟨rfl, (Kept.alloc _ _).trans K1 (fun _ f => f.elim)⟩
set_option maxRecDepth 20000 in
set_option maxHeartbeats 4000000 in
theorem racc_w (l s : List UInt8) (R : List Int) (n : Int) (a1 a2 : Bool) (t1 : ByteArray) (b1 b2 : Bool) (t2 : ByteArray) (w : World) (hl : l.length ≤ 1048576) (hR : elsN [] l = some R) (hRl : R.length ≤ 1048576) (hs : s.length ≤ 1048576) : Calls Tryd.prog 12 #[.agg #[.int .i64 3, .string (bq l), .int .i64 n, .bool a1, .bool a2, .string t1, .bool b1, .bool b2, .string t2], .string (bq s)] w fun e w' => e = .returned (.bool (wm R s.reverse R.length)) ∧ Kept (fun _ => False) w w' := by
  have CR := hideG (fun W => rrow_any l R s W hl hR hRl hs)
  obtain ⟨b, hb⟩ : ∃ b, wm R s.reverse R.length = b := ⟨_, rfl⟩
  rw [hb]
  have HB := hideG hb
  obtain ⟨m, hm⟩ : ∃ m, m = R.length := ⟨_, rfl⟩
  rw [← hm] at CR hRl HB
  clear hb hl hR hm
  generalize bq l = B at *
  generalize bq s = A at *
  have i1 : ((m : Int) + 1) - 1 = (m : Int) := by omega
  have i2 : (m : Int) < (m : Int) + 1 := by omega
  go_enter Tryd.func12, Tryd.ntmps12
  go_wp2_with (go_at_call 24; refine (CR.out _).mono ?_; clear CR; rintro e W ⟨⟨g, c, rfl, hc⟩, K1⟩; have y0 := hc m (Nat.le_refl _); rw [HB.out] at y0; have HK := hideG K1; clear hc K1)
  go_ret
  exact ⟨rfl, (Kept.alloc _ _).trans HK.out (fun _ f => f.elim)⟩
set_option maxRecDepth 20000 in
set_option maxHeartbeats 4000000 in
theorem racc_f (l s : List UInt8) (ed : Nat) (a1 a2 : Bool) (t1 : ByteArray) (b1 b2 : Bool) (t2 : ByteArray) (w : World) (hl : l.length ≤ 1048576) (hs : s.length ≤ 1048576) (hed : ed ≤ 2) : Calls Tryd.prog 12 #[.agg #[.int .i64 4, .string (bq l), .int .i64 (ed : Nat), .bool a1, .bool a2, .string t1, .bool b1, .bool b2, .string t2], .string (bq s)] w fun e w' => e = .returned (.bool (decide (led2 l s ≤ ed))) ∧ Kept (fun _ => False) w w' := by
  have CE := hideG (fun W => rEdits_any l s (ed : Nat) W (by omega) (by omega))
  obtain ⟨lo1, lo2⟩ := led2_low l s
  have hA : (bq s).size = s.length := bq_size s
  have hB : (bq l).size = l.length := bq_size l
  have hdf : edF l s (ed : Nat) = if led2 l s ≤ ed then (led2 l s : Int) else (ed : Int) + 1 := by
    unfold edF
    rw [if_neg (by omega : ¬ ((ed : Nat) : Int) < 0)]
    by_cases h : led2 l s ≤ ed
    · rw [if_pos (by omega), if_pos h]
    · rw [if_neg (by omega), if_neg h]
  rw [hdf] at CE
  clear hdf
  generalize led2 l s = d at *
  generalize bq l = B at *
  generalize bq s = A at *
  have z1 : A.size ≤ 1048576 := by omega
  have z2 : B.size ≤ 1048576 := by omega
  by_cases h1 : (ed : Int) < (A.size : Int) - (B.size : Int)
  · rw [decide_eq_false (by omega)]
    clear CE lo1 lo2 hA hB hl hs
    go_enter Tryd.func12, Tryd.ntmps12
    go_wp2
    go_ret
    exact ⟨rfl, Kept.alloc _ _⟩
  by_cases h2 : (ed : Int) < -((A.size : Int) - (B.size : Int))
  · rw [decide_eq_false (by omega)]
    clear CE lo1 lo2 hA hB hl hs
    go_enter Tryd.func12, Tryd.ntmps12
    go_wp2
    go_ret
    exact ⟨rfl, Kept.alloc _ _⟩
  · obtain ⟨x, hx⟩ : ∃ x : Int, x = if d ≤ ed then (d : Int) else (ed : Int) + 1 := ⟨_, rfl⟩
    rw [← hx] at CE
    have hle : decide (d ≤ ed) = decide (x ≤ (ed : Int)) := by
      rw [hx]
      by_cases h : d ≤ ed
      · rw [if_pos h, decide_eq_true h, decide_eq_true (by omega)]
      · rw [if_neg h, decide_eq_false h, decide_eq_false (by omega)]
    rw [hle]
    have KB := Kept.alloc w (.cells #[.int .i64 4, .string B, .int .i64 (ed : Nat), .bool a1, .bool a2, .string t1, .bool b1, .bool b2, .string t2] 31)
    have hbx := heap_alloc_new w (.cells #[.int .i64 4, .string B, .int .i64 (ed : Nat), .bool a1, .bool a2, .string t1, .bool b1, .bool b2, .string t2] 31)
    have HC : Hid (∀ W', Kept (fun _ => False) (w.alloc (.cells #[.int .i64 4, .string B, .int .i64 (ed : Nat), .bool a1, .bool a2, .string t1, .bool b1, .bool b2, .string t2] 31)) W' → W'.cell? ⟨w.heap.size, 1, none⟩ = some (.string B) ∧ W'.cell? ⟨w.heap.size, 2, none⟩ = some (.int .i64 (ed : Nat))) := hideG (fun W' k => by
      have h2 := k.heap hbx (fun f => f)
      refine ⟨by simp [World.cell?, h2], by simp [World.cell?, h2]⟩)
    have HB := hideG KB
    clear KB hbx hx hle lo1 lo2 hA hB hl hs
    go_enter Tryd.func12, Tryd.ntmps12
    go_wp2
    generalize World.alloc w (.cells #[.int .i64 4, .string B, .int .i64 (ed : Nat), .bool a1, .bool a2, .string t1, .bool b1, .bool b2, .string t2] 31) = V at *
    have hS6 : Kept (fun _ => False) V V.drew := Kept.drewA V 1
    refine wp_region_held (S := fun W' => Kept (fun _ => False) V W') (by kernel_rfl) ?_
    change wpAnyH _ _ _ _ _ _ _ _ (World.drew _)
    refine takeHA (i := 0) (d := 52) (v := .pointer (some ⟨w.heap.size, 1, none⟩)) rfl rfl (by kernel_rfl) (by kernel_rfl) (by kernel_rfl) (fun _ _ _ h => h) (Or.inl ⟨by rfl, fun W hW => ?_⟩) hS6 ?_
    · go_simp
    simp only [Act.put, List.setIfInBounds_toArray, List.set_cons_zero, List.set_cons_succ]
    refine takeHA (i := 1) (d := 53) (v := .string B) rfl rfl (by kernel_rfl) (by kernel_rfl) (by kernel_rfl) (fun _ _ _ h => h) (Or.inl ⟨by rfl, fun W hW => ?_⟩) hS6 ?_
    · (obtain ⟨q0, q1⟩ := HC.out _ hW; go_simp)
    simp only [Act.put, List.setIfInBounds_toArray, List.set_cons_zero, List.set_cons_succ]
    refine takeHA (i := 2) (d := 54) (v := .string A) rfl rfl (by kernel_rfl) (by kernel_rfl) (by kernel_rfl) (fun _ _ _ h => h) (Or.inl ⟨by rfl, fun W hW => ?_⟩) hS6 ?_
    · go_simp
    simp only [Act.put, List.setIfInBounds_toArray, List.set_cons_zero, List.set_cons_succ]
    refine takeHA (i := 3) (d := 55) (v := .pointer (some ⟨w.heap.size, 2, none⟩)) rfl rfl (by kernel_rfl) (by kernel_rfl) (by kernel_rfl) (fun _ _ _ h => h) (Or.inl ⟨by rfl, fun W hW => ?_⟩) hS6 ?_
    · go_simp
    simp only [Act.put, List.setIfInBounds_toArray, List.set_cons_zero, List.set_cons_succ]
    refine takeHA (i := 4) (d := 56) (v := .int .i64 (ed : Nat)) rfl rfl (by kernel_rfl) (by kernel_rfl) (by kernel_rfl) (fun _ _ _ h => h) (Or.inl ⟨by rfl, fun W hW => ?_⟩) hS6 ?_
    · (obtain ⟨q0, q1⟩ := HC.out _ hW; go_simp)
    simp only [Act.put, List.setIfInBounds_toArray, List.set_cons_zero, List.set_cons_succ]
    refine takeHA (i := 6) (d := 58) (v := .pointer (some ⟨w.heap.size, 2, none⟩)) rfl rfl (by kernel_rfl) (by kernel_rfl) (by kernel_rfl) (fun _ _ _ h => h) (Or.inl ⟨by rfl, fun W hW => ?_⟩) hS6 ?_
    · go_simp
    simp only [Act.put, List.setIfInBounds_toArray, List.set_cons_zero, List.set_cons_succ]
    refine takeHA (i := 7) (d := 59) (v := .int .i64 (ed : Nat)) rfl rfl (by kernel_rfl) (by kernel_rfl) (by kernel_rfl) (fun _ _ _ h => h) (Or.inl ⟨by rfl, fun W hW => ?_⟩) hS6 ?_
    · (obtain ⟨q0, q1⟩ := HC.out _ hW; go_simp)
    simp only [Act.put, List.setIfInBounds_toArray, List.set_cons_zero, List.set_cons_succ]
    refine wpAnyH_all (rs := [5]) (by kernel_rfl) (by simp) ?_
    intro i hi
    obtain rfl : i = 5 := by simpa using hi
    unfold wpOp
    go_simp
    first | refine (CE.out _).mono ?_ | refine Or.inl ((CE.out _).mono ?_)
    rintro e W2 ⟨rfl, k2⟩
    have hk2 := hS6.trans k2 (fun _ f => f.elim)
    refine ⟨hk2, ?_⟩
    refine takeHA (i := 8) (d := 60) (v := .bool (decide (x ≤ (ed : Int)))) rfl rfl (by kernel_rfl) (by kernel_rfl) (by kernel_rfl) (fun _ _ _ h => h) (Or.inl ⟨by rfl, fun W hW => ?_⟩) hk2 ?_
    · go_simp
    simp only [Act.put, List.setIfInBounds_toArray, List.set_cons_zero, List.set_cons_succ]
    refine takeHA (i := 9) (d := 4) (v := .bool (decide (x ≤ (ed : Int)))) rfl rfl (by kernel_rfl) (by kernel_rfl) (by kernel_rfl) (fun _ _ _ h => h) (Or.inl ⟨by rfl, fun W hW => ?_⟩) hk2 ?_
    · go_simp
    simp only [Act.put, List.setIfInBounds_toArray, List.set_cons_zero, List.set_cons_succ]
    refine wpAnyH_done (by kernel_rfl) ?_ _
    go_wp2
    go_ret
    exact ⟨rfl, HB.out.trans hk2 (fun _ f => f.elim)⟩
set_option maxRecDepth 20000 in
set_option maxHeartbeats 4000000 in
theorem racc_sA (l A : ByteArray) (n : Int) (a1 a2 : Bool) (t1 : ByteArray) (b1 b2 : Bool) (t2 : ByteArray) (w : World) : Calls Tryd.prog 12 #[.agg #[.int .i64 5, .string l, .int .i64 n, .bool a1, .bool a2, .string t1, .bool b1, .bool b2, .string t2], .string A] w fun e w' => e = .returned (.bool (mAcc a1 a2 t1.toList b1 b2 t2.toList A.toList)) ∧ Kept (fun _ => False) w w' := by
  cases a1 with
  | true =>
    have hlo : mLo true a2 t1.toList A.toList = true := rfl
    cases b1 with
    | true =>
      rw [show mAcc true a2 t1.toList true b2 t2.toList A.toList = true by unfold mAcc; rw [hlo]; rfl]
      clear hlo
      go_enter Tryd.func12, Tryd.ntmps12
      go_wp2
      go_ret
      exact ⟨rfl, Kept.alloc _ _⟩
    | false =>
      cases hb : Op.bytesLess A.toList t2.toList with
      | true =>
        rw [show mAcc true a2 t1.toList false b2 t2.toList A.toList = true by unfold mAcc; rw [hlo]; unfold mHi blS; rw [hb]; rfl]
        clear hlo
        go_enter Tryd.func12, Tryd.ntmps12
        go_wp2
        go_ret
        exact ⟨rfl, Kept.alloc _ _⟩
      | false =>
        by_cases he : A.toList = t2.toList
        · rw [show mAcc true a2 t1.toList false b2 t2.toList A.toList = b2 by unfold mAcc; rw [hlo]; unfold mHi blS; rw [hb, decide_eq_true he]; simp]
          clear hlo
          obtain rfl : A = t2 := ba_inj he
          have hxx : Op.bytesLess A.toList A.toList = false := blS_irr _
          clear he hb
          go_enter Tryd.func12, Tryd.ntmps12
          go_wp2
          go_ret
          exact ⟨rfl, Kept.alloc _ _⟩
        · rw [show mAcc true a2 t1.toList false b2 t2.toList A.toList = false by unfold mAcc; rw [hlo]; unfold mHi blS; rw [hb, decide_eq_false he]; rfl]
          have heb : (A.toList == t2.toList) = false := by rw [beq_eq_false_iff_ne]; exact he
          clear hlo
          go_enter Tryd.func12, Tryd.ntmps12
          go_wp2
          go_ret
          exact ⟨rfl, Kept.alloc _ _⟩
  | false =>
    cases hx : Op.bytesLess A.toList t1.toList with
    | true =>
      have hlo : mAcc false a2 t1.toList b1 b2 t2.toList A.toList = false := by
        have h1 : blS t1.toList A.toList = false := blS_asym hx
        have h2 : ¬ A.toList = t1.toList := fun e => by rw [e] at hx; have := blS_irr t1.toList; unfold blS at this; rw [hx] at this; cases this
        unfold mAcc mLo; rw [h1, decide_eq_false h2]; rfl
      rw [hlo]
      clear hlo
      go_enter Tryd.func12, Tryd.ntmps12
      go_wp2
      go_ret
      exact ⟨rfl, Kept.alloc _ _⟩
    | false =>
      by_cases hq : A.toList = t1.toList
      · obtain rfl : A = t1 := ba_inj hq
        have hxy : Op.bytesLess A.toList A.toList = false := blS_irr _
        clear hx hq
        cases a2 with
        | false =>
          have hlo : mAcc false false A.toList b1 b2 t2.toList A.toList = false := by
            unfold mAcc mLo; rw [blS_irr]; simp
          rw [hlo]
          clear hlo
          go_enter Tryd.func12, Tryd.ntmps12
          go_wp2
          go_ret
          exact ⟨rfl, Kept.alloc _ _⟩
        | true =>
          have hlo : mLo false true A.toList A.toList = true := by unfold mLo; simp
          cases b1 with
          | true =>
            rw [show mAcc false true A.toList true b2 t2.toList A.toList = true by unfold mAcc; rw [hlo]; rfl]
            clear hlo
            go_enter Tryd.func12, Tryd.ntmps12
            go_wp2
            go_ret
            exact ⟨rfl, Kept.alloc _ _⟩
          | false =>
            cases hb : Op.bytesLess A.toList t2.toList with
            | true =>
              rw [show mAcc false true A.toList false b2 t2.toList A.toList = true by unfold mAcc; rw [hlo]; unfold mHi blS; rw [hb]; rfl]
              clear hlo
              go_enter Tryd.func12, Tryd.ntmps12
              go_wp2
              go_ret
              exact ⟨rfl, Kept.alloc _ _⟩
            | false =>
              by_cases he : A.toList = t2.toList
              · rw [show mAcc false true A.toList false b2 t2.toList A.toList = b2 by unfold mAcc; rw [hlo]; unfold mHi blS; rw [hb, decide_eq_true he]; simp]
                clear hlo
                obtain rfl : A = t2 := ba_inj he
                have hxx : Op.bytesLess A.toList A.toList = false := blS_irr _
                clear he hb
                go_enter Tryd.func12, Tryd.ntmps12
                go_wp2
                go_ret
                exact ⟨rfl, Kept.alloc _ _⟩
              · rw [show mAcc false true A.toList false b2 t2.toList A.toList = false by unfold mAcc; rw [hlo]; unfold mHi blS; rw [hb, decide_eq_false he]; rfl]
                have heb : (A.toList == t2.toList) = false := by rw [beq_eq_false_iff_ne]; exact he
                clear hlo
                go_enter Tryd.func12, Tryd.ntmps12
                go_wp2
                go_ret
                exact ⟨rfl, Kept.alloc _ _⟩
      · skip
        have hlo : mLo false a2 t1.toList A.toList = true := by unfold mLo; rw [blS_total hx hq]; rfl
        cases b1 with
        | true =>
          rw [show mAcc false a2 t1.toList true b2 t2.toList A.toList = true by unfold mAcc; rw [hlo]; rfl]
          clear hlo
          go_enter Tryd.func12, Tryd.ntmps12
          go_wp2
          go_ret
          exact ⟨rfl, Kept.alloc _ _⟩
        | false =>
          cases hb : Op.bytesLess A.toList t2.toList with
          | true =>
            rw [show mAcc false a2 t1.toList false b2 t2.toList A.toList = true by unfold mAcc; rw [hlo]; unfold mHi blS; rw [hb]; rfl]
            clear hlo
            go_enter Tryd.func12, Tryd.ntmps12
            go_wp2
            go_ret
            exact ⟨rfl, Kept.alloc _ _⟩
          | false =>
            by_cases he : A.toList = t2.toList
            · rw [show mAcc false a2 t1.toList false b2 t2.toList A.toList = b2 by unfold mAcc; rw [hlo]; unfold mHi blS; rw [hb, decide_eq_true he]; simp]
              clear hlo
              obtain rfl : A = t2 := ba_inj he
              have hxx : Op.bytesLess A.toList A.toList = false := blS_irr _
              clear he hb
              go_enter Tryd.func12, Tryd.ntmps12
              go_wp2
              go_ret
              exact ⟨rfl, Kept.alloc _ _⟩
            · rw [show mAcc false a2 t1.toList false b2 t2.toList A.toList = false by unfold mAcc; rw [hlo]; unfold mHi blS; rw [hb, decide_eq_false he]; rfl]
              have heb : (A.toList == t2.toList) = false := by rw [beq_eq_false_iff_ne]; exact he
              clear hlo
              go_enter Tryd.func12, Tryd.ntmps12
              go_wp2
              go_ret
              exact ⟨rfl, Kept.alloc _ _⟩
theorem racc_s (l : ByteArray) (s : List UInt8) (n : Int) (a1 a2 : Bool) (t1 : ByteArray) (b1 b2 : Bool) (t2 : ByteArray) (w : World) : Calls Tryd.prog 12 #[.agg #[.int .i64 5, .string l, .int .i64 n, .bool a1, .bool a2, .string t1, .bool b1, .bool b2, .string t2], .string (bq s)] w fun e w' => e = .returned (.bool (mAcc a1 a2 t1.data.toList b1 b2 t2.data.toList s)) ∧ Kept (fun _ => False) w w' := by
  have h := racc_sA l (bq s) n a1 a2 t1 b1 b2 t2 w
  rw [bq_list, ByteArray.toList_eq, ByteArray.toList_eq] at h
  exact h
end Go.Proofs.YtacmmclamkhpcaaDoor
namespace Go.Proofs.YtacmmclamkhpcaaDoor
open Go.ChangeShapes Go.WideShapes Go.ChangeAt Go.RowKit

set_option maxRecDepth 20000 in
set_option maxHeartbeats 4000000 in
theorem ralv_x (l s : List UInt8) (n : Int) (a1 a2 : Bool) (t1 : ByteArray) (b1 b2 : Bool) (t2 : ByteArray) (w : World) (hl : l.length ≤ 1099511627776) (hs : s.length ≤ 1099511627776) : Calls Tryd.prog 14 #[.agg #[.int .i64 1, .string (bq l), .int .i64 n, .bool a1, .bool a2, .string t1, .bool b1, .bool b2, .string t2], .string (bq s)] w fun e w' => e = .returned (.bool (s.isPrefixOf l)) ∧ Kept (fun _ => False) w w' := by
  have CB := hideG (fun W => begins_any l s W (by omega) (by omega))
  generalize s.isPrefixOf l = b at *
  generalize bq l = B at *
  generalize bq s = A at *
  go_enter Tryd.func14, Tryd.ntmps14
  go_wp2_with (go_at_call 23; refine (CB.out _).mono ?_; clear CB; rintro e W ⟨rfl, K1⟩)
  go_ret
  exact ⟨rfl, (Kept.alloc _ _).trans K1 (fun _ f => f.elim)⟩
set_option maxRecDepth 20000 in
set_option maxHeartbeats 4000000 in
theorem ralv_p (l s : List UInt8) (n : Int) (a1 a2 : Bool) (t1 : ByteArray) (b1 b2 : Bool) (t2 : ByteArray) (w : World) (hl : l.length ≤ 1099511627776) (hs : s.length ≤ 1099511627776) : Calls Tryd.prog 14 #[.agg #[.int .i64 2, .string (bq l), .int .i64 n, .bool a1, .bool a2, .string t1, .bool b1, .bool b2, .string t2], .string (bq s)] w fun e w' => e = .returned (.bool (s.isPrefixOf l || l.isPrefixOf s)) ∧ Kept (fun _ => False) w w' := by
  have CB := hideG (fun W => begins_any l s W (by omega) (by omega))
  have CD := hideG (fun W => begins_any s l W (by omega) (by omega))
  generalize s.isPrefixOf l = b at *
  generalize l.isPrefixOf s = d at *
  generalize bq l = B at *
  generalize bq s = A at *
  have KB := Kept.alloc w (.cells #[.int .i64 2, .string B, .int .i64 n, .bool a1, .bool a2, .string t1, .bool b1, .bool b2, .string t2] 31)
  have hbx := heap_alloc_new w (.cells #[.int .i64 2, .string B, .int .i64 n, .bool a1, .bool a2, .string t1, .bool b1, .bool b2, .string t2] 31)
  have HC : Hid (∀ W', Kept (fun _ => False) (w.alloc (.cells #[.int .i64 2, .string B, .int .i64 n, .bool a1, .bool a2, .string t1, .bool b1, .bool b2, .string t2] 31)) W' → W'.cell? ⟨w.heap.size, 1, none⟩ = some (.string B)) := hideG (fun W' k => by
    have h2 := k.heap hbx (fun f => f)
    simp [World.cell?, h2])
  clear KB hbx
  cases b with
  | true =>
    rw [Bool.true_or]
    go_enter Tryd.func14, Tryd.ntmps14
    go_wp2_with (go_at_call 23; refine (CB.out _).mono ?_; clear CB; rintro e W ⟨rfl, K1⟩)
    go_ret
    exact ⟨rfl, (Kept.alloc _ _).trans K1 (fun _ f => f.elim)⟩
  | false =>
    rw [Bool.false_or]
    go_enter Tryd.func14, Tryd.ntmps14
    go_wp2_with (first
      | (go_at_call 23; refine (CB.out _).mono ?_; clear CB; rintro e W ⟨rfl, K1⟩; have x1 := HC.out W K1; have HK1 := hideG K1; clear K1 HC)
      | (go_at_call 23; refine (CD.out _).mono ?_; clear CD; rintro e W2 ⟨rfl, K2⟩; have HK2 := hideG (HK1.out.trans K2 (fun _ f => f.elim)); clear K2))
    go_ret
    exact ⟨rfl, (Kept.alloc _ _).trans HK2.out (fun _ f => f.elim)⟩
set_option maxRecDepth 20000 in
set_option maxHeartbeats 4000000 in
theorem ralv_w (l s : List UInt8) (R : List Int) (n : Int) (a1 a2 : Bool) (t1 : ByteArray) (b1 b2 : Bool) (t2 : ByteArray) (w : World) (hl : l.length ≤ 1048576) (hR : elsN [] l = some R) (hRl : R.length ≤ 1048576) (hs : s.length ≤ 1048576) (b : Bool) (hb : b = true ↔ ∃ i, i ≤ R.length ∧ wm R s.reverse i = true) : Calls Tryd.prog 14 #[.agg #[.int .i64 3, .string (bq l), .int .i64 n, .bool a1, .bool a2, .string t1, .bool b1, .bool b2, .string t2], .string (bq s)] w fun e w' => e = .returned (.bool b) ∧ Kept (fun _ => False) w w' := by
  have CR := hideG (fun W => rrow_any l R s W hl hR hRl hs)
  obtain ⟨m, hm⟩ : ∃ m, m = R.length := ⟨_, rfl⟩
  unfold rowP at CR
  rw [← hm] at CR hRl hb
  have HB := hideG hb
  clear hb hl hR hm
  generalize wm R s.reverse = f at *
  generalize bq l = B at *
  generalize bq s = A at *
  go_enter Tryd.func14, Tryd.ntmps14
  go_wp2_with (go_at_call 24; refine (CR.out _).mono ?_; clear CR; rintro e W ⟨⟨g, c, rfl, hc⟩, K1⟩; have HCc := hideG hc; have HK := hideG ((Kept.alloc w _).trans K1 (fun _ f => f.elim)); clear hc K1)
  go_loopw [36] (fun jv wr => ∃ (j : Nat), j ≤ m + 1 ∧ jv = .int .i64 j ∧ wr = W ∧ Hid (∀ i, i < j → f i = false)) (fun jv _ => m + 1 - (intOf jv).toNat)
  case atStart => exact ⟨0, by omega, rfl, rfl, hideG (fun i h => by omega)⟩
  case round =>
    obtain ⟨j, hj, rfl, hw, HZ⟩ := hrel
    subst hw
    by_cases hlt : j < m + 1
    · have hjz : (j : Int) < (m : Int) + 1 := by omega
      have x0 := HCc.out j (by omega)
      cases hq : f j with
      | true =>
        rw [hq] at x0
        have hbt : b = true := HB.out.2 ⟨j, by omega, hq⟩
        subst hbt
        clear hq
        go_wp2_with fail
        go_ret
        exact ⟨rfl, HK.out⟩
      | false =>
        rw [hq] at x0
        have HZ2 : Hid (∀ i, i < j + 1 → f i = false) := hideG (fun i h => by
          rcases Nat.lt_or_ge i j with h1 | h1
          · exact HZ.out i h1
          · obtain rfl : i = j := by omega
            exact hq)
        clear hq HZ
        go_wp2_with fail
        go_roundw
        case rel => exact ⟨j + 1, by omega, by go_num, by first | rfl | trivial, HZ2⟩
        case measure => simp [intOf] <;> omega
    · have hjz : ¬ (j : Int) < (m : Int) + 1 := by omega
      have hbf : b = false := by
        cases hbb : b with
        | false => rfl
        | true => obtain ⟨i, h1, h2⟩ := HB.out.1 hbb; rw [HZ.out i (by omega)] at h2; cases h2
      subst hbf
      go_wp2_with fail
      go_ret
      exact ⟨rfl, HK.out⟩
set_option maxRecDepth 20000 in
set_option maxHeartbeats 4000000 in
theorem ralv_f (l s : List UInt8) (ed : Nat) (a1 a2 : Bool) (t1 : ByteArray) (b1 b2 : Bool) (t2 : ByteArray) (w : World) (hl : l.length ≤ 1048576) (hs : s.length ≤ 1048576) (b : Bool) (hb : b = true ↔ ∃ i, i ≤ l.length ∧ Vd l s.reverse i ≤ ed) : Calls Tryd.prog 14 #[.agg #[.int .i64 4, .string (bq l), .int .i64 (ed : Nat), .bool a1, .bool a2, .string t1, .bool b1, .bool b2, .string t2], .string (bq s)] w fun e w' => e = .returned (.bool b) ∧ Kept (fun _ => False) w w' := by
  have CR := hideG (fun W => redits_any l s W (by omega) (by omega))
  obtain ⟨m, hm⟩ : ∃ m, m = l.length := ⟨_, rfl⟩
  unfold StK at CR
  rw [rwV_len] at CR
  have HN : Hid (∀ W la, NsAt W la (nz (rwV l s.reverse (l.length + 1))) → ∃ lb lo, la = some ⟨lb, lo, none⟩ ∧ ∀ i, i ≤ m → W.cell? ⟨lb, lo + i, none⟩ = some (.int .i64 ((Vd l s.reverse i : Nat) : Int))) := hideG (fun W la hN => by
    obtain ⟨lb, lo, h1, h2⟩ := hN (by intro e; have := congrArg List.length e; rw [rwV_len] at this; simp at this)
    refine ⟨lb, lo, h1, fun i hi => ?_⟩
    have h := h2 i (by rw [rwV_len]; omega)
    rw [rwV_at] at h
    exact h)
  rw [← hm] at CR hl hb HN
  generalize nz (rwV l s.reverse (m + 1)) = L at *
  have HB := hideG hb
  have HT : Hid (∀ i, i ≤ m → Vd l s.reverse i ≤ 2097152) := hideG (fun i hi => by have := Vd_top l s.reverse i; rw [List.length_reverse] at this; omega)
  clear hb hm
  generalize Vd l s.reverse = f at *
  generalize bq l = B at *
  generalize bq s = A at *
  have KB := Kept.alloc w (.cells #[.int .i64 4, .string B, .int .i64 (ed : Nat), .bool a1, .bool a2, .string t1, .bool b1, .bool b2, .string t2] 31)
  have hbx := heap_alloc_new w (.cells #[.int .i64 4, .string B, .int .i64 (ed : Nat), .bool a1, .bool a2, .string t1, .bool b1, .bool b2, .string t2] 31)
  have HC : Hid (∀ W', Kept (fun _ => False) (w.alloc (.cells #[.int .i64 4, .string B, .int .i64 (ed : Nat), .bool a1, .bool a2, .string t1, .bool b1, .bool b2, .string t2] 31)) W' → W'.cell? ⟨w.heap.size, 2, none⟩ = some (.int .i64 (ed : Nat))) := hideG (fun W' k => by
    have h2 := k.heap hbx (fun f => f)
    simp [World.cell?, h2])
  clear KB hbx
  go_enter Tryd.func14, Tryd.ntmps14
  go_wp2_with (go_at_call 26; refine (CR.out _).mono ?_; clear CR; rintro e W ⟨⟨la, lc, rfl, hN, hc⟩, K1⟩; obtain ⟨lb, lo, rfl, hcc⟩ := HN.out W la hN; have HCc := hideG hcc; have x2 := HC.out W K1; have HK := hideG ((Kept.alloc w _).trans K1 (fun _ f => f.elim)); clear hN hcc hc K1 HC)
  go_loopw [49] (fun jv wr => ∃ (j : Nat), j ≤ m + 1 ∧ jv = .int .i64 j ∧ wr = W ∧ Hid (∀ i, i < j → ¬ f i ≤ ed)) (fun jv _ => m + 1 - (intOf jv).toNat)
  case atStart => exact ⟨0, by omega, rfl, rfl, hideG (fun i h => by omega)⟩
  case round =>
    obtain ⟨j, hj, rfl, hw, HZ⟩ := hrel
    subst hw
    by_cases hlt : j < m + 1
    · have hjz : (j : Int) < (m : Int) + 1 := by omega
      have x0 := HCc.out j (by omega)
      have ht := HT.out j (by omega)
      obtain ⟨v, hv⟩ : ∃ v, v = f j := ⟨_, rfl⟩
      rw [← hv] at x0 ht
      by_cases hq : v ≤ ed
      · have hqz : (v : Int) ≤ (ed : Int) := by omega
        have hbt : b = true := HB.out.2 ⟨j, by omega, by rw [← hv]; exact hq⟩
        subst hbt
        clear hv
        go_wp2_with fail
        go_ret
        exact ⟨rfl, HK.out⟩
      · have hqz : ¬ (v : Int) ≤ (ed : Int) := by omega
        have HZ2 : Hid (∀ i, i < j + 1 → ¬ f i ≤ ed) := hideG (fun i h => by
          rcases Nat.lt_or_ge i j with h1 | h1
          · exact HZ.out i h1
          · obtain rfl : i = j := by omega
            rw [← hv]; exact hq)
        clear hq HZ hv
        go_wp2_with fail
        go_roundw
        case rel => exact ⟨j + 1, by omega, by go_num, by first | rfl | trivial, HZ2⟩
        case measure => simp [intOf] <;> omega
    · have hjz : ¬ (j : Int) < (m : Int) + 1 := by omega
      have hbf : b = false := by
        cases hbb : b with
        | false => rfl
        | true => obtain ⟨i, h1, h2⟩ := HB.out.1 hbb; exact absurd h2 (HZ.out i (by omega))
      subst hbf
      go_wp2_with fail
      go_ret
      exact ⟨rfl, HK.out⟩
set_option maxRecDepth 20000 in
set_option maxHeartbeats 4000000 in
theorem ralv_sA (l A : ByteArray) (n : Int) (a1 a2 : Bool) (t1 : ByteArray) (b1 b2 : Bool) (t2 : ByteArray) (w : World) (hA : A.size ≤ 1048576) (h1 : t1.size ≤ 1048576) : Calls Tryd.prog 14 #[.agg #[.int .i64 5, .string l, .int .i64 n, .bool a1, .bool a2, .string t1, .bool b1, .bool b2, .string t2], .string A] w fun e w' => e = .returned (.bool (mAlv a1 a2 t1.toList b1 b2 t2.toList A.toList)) ∧ Kept (fun _ => False) w w' := by
  have CA := hideG (fun W => racc_sA l A n a1 a2 t1 b1 b2 t2 W)
  have CT := hideG (fun W => racc_sA l t1 n a1 a2 t1 b1 b2 t2 W)
  have CU := hideG (fun W => racc_sA l (t1 ++ ⟨#[0]⟩) n a1 a2 t1 b1 b2 t2 W)
  have CB := hideG (fun W => begins_any t1.data.toList A.data.toList W (by rw [Array.length_toList]; exact Nat.le_trans h1 (by omega)) (by rw [Array.length_toList]; exact Nat.le_trans hA (by omega)))
  rw [bq_of, bq_of] at CB
  have e0 : (t1 ++ ⟨#[0]⟩ : ByteArray).toList = t1.toList ++ [0] := by rw [least_n, ByteArray.toList_eq]; rfl
  rw [e0] at CU
  rw [← ByteArray.toList_eq, ← ByteArray.toList_eq] at CB
  have hw1 : t1.size + 1 ≤ 9223372036854775807 := by omega
  have hw2 : (t1 ++ ⟨#[0]⟩ : ByteArray).size ≤ 1048577 := by rw [ByteArray.size_append]; have : (⟨#[0]⟩ : ByteArray).size = 1 := rfl; omega
  have ev : mAlv a1 a2 t1.toList b1 b2 t2.toList A.toList = (mAcc a1 a2 t1.toList b1 b2 t2.toList A.toList || (!a1 && (A.toList.isPrefixOf t1.toList && (mAcc a1 a2 t1.toList b1 b2 t2.toList t1.toList || mAcc a1 a2 t1.toList b1 b2 t2.toList (t1.toList ++ [0]))))) := rfl
  rw [ev]
  generalize mAcc a1 a2 t1.toList b1 b2 t2.toList A.toList = m0 at *
  generalize mAcc a1 a2 t1.toList b1 b2 t2.toList (t1.toList ++ [0]) = m2 at *
  generalize mAcc a1 a2 t1.toList b1 b2 t2.toList t1.toList = m1 at *
  generalize A.toList.isPrefixOf t1.toList = p at *
  clear ev e0 hA h1
  have hbx := heap_alloc_new w (.cells #[.int .i64 5, .string l, .int .i64 n, .bool a1, .bool a2, .string t1, .bool b1, .bool b2, .string t2] 31)
  have HC : Hid (∀ W', Kept (fun _ => False) (w.alloc (.cells #[.int .i64 5, .string l, .int .i64 n, .bool a1, .bool a2, .string t1, .bool b1, .bool b2, .string t2] 31)) W' → W'.cell? ⟨w.heap.size, 0, none⟩ = some (.int .i64 5) ∧ W'.cell? ⟨w.heap.size, 1, none⟩ = some (.string l) ∧ W'.cell? ⟨w.heap.size, 2, none⟩ = some (.int .i64 n) ∧ W'.cell? ⟨w.heap.size, 3, none⟩ = some (.bool a1) ∧ W'.cell? ⟨w.heap.size, 4, none⟩ = some (.bool a2) ∧ W'.cell? ⟨w.heap.size, 5, none⟩ = some (.string t1) ∧ W'.cell? ⟨w.heap.size, 6, none⟩ = some (.bool b1) ∧ W'.cell? ⟨w.heap.size, 7, none⟩ = some (.bool b2) ∧ W'.cell? ⟨w.heap.size, 8, none⟩ = some (.string t2)) := hideG (fun W' k => by
    have h2 := k.heap hbx (fun f => f)
    refine ⟨?_, ?_, ?_, ?_, ?_, ?_, ?_, ?_, ?_⟩ <;> simp [World.cell?, h2])
  clear hbx
  cases m0 with
  | true =>
    rw [Bool.true_or]
    clear CT CU CB
    go_enter Tryd.func14, Tryd.ntmps14
    go_wp2_with (first
      | (go_at_call 12; refine (CA.out _).mono ?_; clear CA; rintro e W ⟨rfl, K1⟩; obtain ⟨x0, x1, x2, x3, x4, x5, x6, x7, x8⟩ := HC.out W K1; have HK1 := hideG K1; clear K1))
    go_ret
    exact ⟨rfl, (Kept.alloc _ _).trans HK1.out (fun _ f => f.elim)⟩
  | false =>
    rw [Bool.false_or]
    cases a1 with
    | true =>
      rw [show (!true && (p && (m1 || m2))) = false from rfl]
      clear CT CU CB
      go_enter Tryd.func14, Tryd.ntmps14
      go_wp2_with (first
        | (go_at_call 12; refine (CA.out _).mono ?_; clear CA; rintro e W ⟨rfl, K1⟩; obtain ⟨x0, x1, x2, x3, x4, x5, x6, x7, x8⟩ := HC.out W K1; have HK1 := hideG K1; clear K1))
      go_ret
      exact ⟨rfl, (Kept.alloc _ _).trans HK1.out (fun _ f => f.elim)⟩
    | false =>
      rw [show (!false && (p && (m1 || m2))) = (p && (m1 || m2)) from rfl]
      cases p with
      | false =>
        rw [Bool.false_and]
        clear CT CU
        go_enter Tryd.func14, Tryd.ntmps14
        go_wp2_with (first
          | (go_at_call 12; refine (CA.out _).mono ?_; clear CA; rintro e W ⟨rfl, K1⟩; obtain ⟨x0, x1, x2, x3, x4, x5, x6, x7, x8⟩ := HC.out W K1; have HK1 := hideG K1; clear K1)
          | (go_at_call 23; refine (CB.out _).mono ?_; clear CB; rintro e W2 ⟨rfl, K2⟩; obtain ⟨y0, y1, y2, y3, y4, y5, y6, y7, y8⟩ := HC.out W2 (HK1.out.trans K2 (fun _ f => f.elim)); have HK2 := hideG (HK1.out.trans K2 (fun _ f => f.elim)); clear K2))
        go_ret
        exact ⟨rfl, (Kept.alloc _ _).trans HK2.out (fun _ f => f.elim)⟩
      | true =>
        rw [Bool.true_and]
        cases m1 with
        | true =>
          rw [Bool.true_or]
          clear CU
          go_enter Tryd.func14, Tryd.ntmps14
          go_wp2_with (first
            | (go_at_call 12; refine (CA.out _).mono ?_; clear CA; rintro e W ⟨rfl, K1⟩; obtain ⟨x0, x1, x2, x3, x4, x5, x6, x7, x8⟩ := HC.out W K1; have HK1 := hideG K1; clear K1)
            | (go_at_call 23; refine (CB.out _).mono ?_; clear CB; rintro e W2 ⟨rfl, K2⟩; obtain ⟨y0, y1, y2, y3, y4, y5, y6, y7, y8⟩ := HC.out W2 (HK1.out.trans K2 (fun _ f => f.elim)); have HK2 := hideG (HK1.out.trans K2 (fun _ f => f.elim)); clear K2)
            | (go_at_call 12; refine (CT.out _).mono ?_; clear CT; rintro e W3 ⟨rfl, K3⟩; obtain ⟨z0, z1, z2, z3, z4, z5, z6, z7, z8⟩ := HC.out W3 (HK2.out.trans K3 (fun _ f => f.elim)); have HK3 := hideG (HK2.out.trans K3 (fun _ f => f.elim)); clear K3))
          go_ret
          exact ⟨rfl, (Kept.alloc _ _).trans HK3.out (fun _ f => f.elim)⟩
        | false =>
          rw [Bool.false_or]
          go_enter Tryd.func14, Tryd.ntmps14
          go_wp2_with (first
            | (go_at_call 12; refine (CA.out _).mono ?_; clear CA; rintro e W ⟨rfl, K1⟩; obtain ⟨x0, x1, x2, x3, x4, x5, x6, x7, x8⟩ := HC.out W K1; have HK1 := hideG K1; clear K1)
            | (go_at_call 23; refine (CB.out _).mono ?_; clear CB; rintro e W2 ⟨rfl, K2⟩; obtain ⟨y0, y1, y2, y3, y4, y5, y6, y7, y8⟩ := HC.out W2 (HK1.out.trans K2 (fun _ f => f.elim)); have HK2 := hideG (HK1.out.trans K2 (fun _ f => f.elim)); clear K2)
            | (go_at_call 12; refine (CT.out _).mono ?_; clear CT; rintro e W3 ⟨rfl, K3⟩; obtain ⟨z0, z1, z2, z3, z4, z5, z6, z7, z8⟩ := HC.out W3 (HK2.out.trans K3 (fun _ f => f.elim)); have HK3 := hideG (HK2.out.trans K3 (fun _ f => f.elim)); clear K3)
            | (go_at_call 12; refine (CU.out _).mono ?_; clear CU; rintro e W4 ⟨rfl, K4⟩; have HK4 := hideG (HK3.out.trans K4 (fun _ f => f.elim)); clear K4))
          go_ret
          exact ⟨rfl, (Kept.alloc _ _).trans HK4.out (fun _ f => f.elim)⟩
theorem ralv_s (l : ByteArray) (s : List UInt8) (n : Int) (a1 a2 : Bool) (t1 : ByteArray) (b1 b2 : Bool) (t2 : ByteArray) (w : World) (hs : s.length ≤ 1048576) (h1 : t1.size ≤ 1048576) : Calls Tryd.prog 14 #[.agg #[.int .i64 5, .string l, .int .i64 n, .bool a1, .bool a2, .string t1, .bool b1, .bool b2, .string t2], .string (bq s)] w fun e w' => e = .returned (.bool (mAlv a1 a2 t1.data.toList b1 b2 t2.data.toList s)) ∧ Kept (fun _ => False) w w' := by
  have h := ralv_sA l (bq s) n a1 a2 t1 b1 b2 t2 w (by rw [bq_size]; exact hs) h1
  rw [bq_list, ByteArray.toList_eq, ByteArray.toList_eq] at h
  exact h
end Go.Proofs.YtacmmclamkhpcaaDoor
namespace Go.Proofs.YtacmmclamkhpcaaDoor
open Go.ChangeShapes Go.WideShapes Go.ChangeAt Go.RowKit

/-! What the states of a word and of a head tell. -/
theorem get_mid (p : List UInt8) (d : UInt8) (q : List UInt8) : (p ++ d :: q)[p.length]? = some d := by rw [List.getElem?_append_right (Nat.le_refl _), Nat.sub_self]; rfl
theorem run_x (l : List UInt8) : ∀ (s p q : List UInt8), l = p ++ q → s.foldl (st2 (nxX l)) [(p.length : Int)] = if s.isPrefixOf q then [((p.length + s.length : Nat) : Int)] else [] := by
  intro s
  induction s with
  | nil => intro p q _; rw [if_pos (by cases q <;> rfl)]; rfl
  | cons c s ih =>
    intro p q hl
    rw [List.foldl_cons]
    have es : st2 (nxX l) [(p.length : Int)] c = if (l[p.length]?).map UInt8.toNat = some c.toNat then [(p.length : Int) + 1] else [] := by
      unfold st2
      rw [if_neg (by simp)]
      simp only [nxX, Int.toNat_natCast]
    rw [es]
    cases q with
    | nil =>
      rw [hl, List.append_nil, List.getElem?_eq_none (Nat.le_refl _), if_neg (by simp), st2_dead, if_neg (by simp)]
    | cons d q =>
      have hg : l[p.length]? = some d := by rw [hl]; exact get_mid p d q
      rw [hg]
      by_cases hc : c = d
      · subst hc
        rw [if_pos (by simp)]
        have e1 : ((p.length : Int) + 1) = (((p ++ [c]).length : Nat) : Int) := by simp
        rw [e1, ih (p ++ [c]) q (by rw [hl]; simp)]
        have e2 : (c :: s).isPrefixOf (c :: q) = s.isPrefixOf q := by simp
        rw [e2]
        have e3 : (p ++ [c]).length + s.length = p.length + (c :: s).length := by simp; omega
        rw [e3]
      · rw [if_neg (by simp only [Option.map_some, Option.some.injEq]; intro h; exact hc (UInt8.toNat_inj.1 h.symm)), st2_dead]
        have e2 : (c :: s).isPrefixOf (d :: q) = false := by
          have : (c == d) = false := by rw [beq_eq_false_iff_ne]; exact hc
          simp [List.isPrefixOf, this]
        rw [e2]
        simp
theorem runX_any (l s : List UInt8) : runK (nxX l) [0] s = if s.isPrefixOf l then [(s.length : Int)] else [] := by
  have h := run_x l s [] l rfl
  simp only [List.length_nil, Nat.zero_add] at h
  exact h
theorem pre_eq {s l : List UInt8} (h : s.isPrefixOf l = true) : s.length = l.length ↔ s = l := by
  obtain ⟨r, rfl⟩ := (pre_iff s l).1 h
  constructor
  · intro e
    have : r = [] := List.length_eq_zero_iff.1 (by rw [List.length_append] at e; omega)
    rw [this, List.append_nil]
  · intro e; rw [← e]
theorem pre_refl (l : List UInt8) : l.isPrefixOf l = true := (pre_iff l l).2 ⟨[], by rw [List.append_nil]⟩
theorem accX_any (l s : List UInt8) : accK (nxX l) (acX l) [0] s = decide (s = l) := by
  unfold accK
  rw [runX_any]
  cases h : s.isPrefixOf l with
  | true =>
    rw [if_pos rfl]
    have e : acX l [(s.length : Int)] = ((s.length : Int) == (l.length : Int)) := rfl
    rw [e, decide_eq_true (by simp), Bool.true_and, Bool.eq_iff_iff, beq_iff_eq, decide_eq_true_iff, ← pre_eq h]
    omega
  | false =>
    rw [if_neg (by simp)]
    have : ¬ s = l := fun e => by rw [e, pre_refl] at h; cases h
    rw [decide_eq_false this]
    rfl
theorem alvX_any (l s : List UInt8) : alvK (nxX l) [0] s = s.isPrefixOf l := by
  unfold alvK
  rw [runX_any]
  cases s.isPrefixOf l <;> simp
theorem run_p (l : List UInt8) : ∀ (s p q : List UInt8), l = p ++ q → s.foldl (st2 (nxP l)) [(p.length : Int)] = if s.isPrefixOf q then [((p.length + s.length : Nat) : Int)] else if q.isPrefixOf s then [(l.length : Int)] else [] := by
  intro s
  induction s with
  | nil => intro p q _; rw [if_pos (by cases q <;> rfl)]; rfl
  | cons c s ih =>
    intro p q hl
    rw [List.foldl_cons]
    have es : st2 (nxP l) [(p.length : Int)] c = if (p.length : Int) = (l.length : Int) then [(p.length : Int)] else if (l[p.length]?).map UInt8.toNat = some c.toNat then [(p.length : Int) + 1] else [] := by
      unfold st2
      rw [if_neg (by simp)]
      simp only [nxP, Int.toNat_natCast]
    rw [es]
    cases q with
    | nil =>
      rw [List.append_nil] at hl
      have hpl : (p.length : Int) = (l.length : Int) := by rw [hl]
      rw [if_pos hpl, ih p [] (by rw [hl, List.append_nil])]
      have e1 : (c :: s).isPrefixOf [] = false := rfl
      have e2 : ([] : List UInt8).isPrefixOf s = true := by cases s <;> rfl
      have e3 : ([] : List UInt8).isPrefixOf (c :: s) = true := rfl
      rw [e1, e2, e3]
      cases s with
      | nil => simp [hl]
      | cons d s => simp
    | cons d q =>
      have hg : l[p.length]? = some d := by rw [hl]; exact get_mid p d q
      have hne : ¬ (p.length : Int) = (l.length : Int) := by rw [hl, List.length_append, List.length_cons]; omega
      rw [if_neg hne, hg]
      by_cases hc : c = d
      · subst hc
        rw [if_pos (by simp)]
        have e1 : ((p.length : Int) + 1) = (((p ++ [c]).length : Nat) : Int) := by simp
        rw [e1, ih (p ++ [c]) q (by rw [hl]; simp)]
        have e2 : (c :: s).isPrefixOf (c :: q) = s.isPrefixOf q := by simp
        have e4 : (c :: q).isPrefixOf (c :: s) = q.isPrefixOf s := by simp
        rw [e2, e4]
        have e3 : (p ++ [c]).length + s.length = p.length + (c :: s).length := by simp; omega
        rw [e3]
      · rw [if_neg (by simp only [Option.map_some, Option.some.injEq]; intro h; exact hc (UInt8.toNat_inj.1 h.symm)), st2_dead]
        have e2 : (c :: s).isPrefixOf (d :: q) = false := by
          have : (c == d) = false := by rw [beq_eq_false_iff_ne]; exact hc
          simp [List.isPrefixOf, this]
        have e4 : (d :: q).isPrefixOf (c :: s) = false := by
          have : (d == c) = false := by rw [beq_eq_false_iff_ne]; exact fun e => hc e.symm
          simp [List.isPrefixOf, this]
        rw [e2, e4]
        simp
theorem runP_any (l s : List UInt8) : runK (nxP l) [0] s = if s.isPrefixOf l then [(s.length : Int)] else if l.isPrefixOf s then [(l.length : Int)] else [] := by
  have h := run_p l s [] l rfl
  simp only [List.length_nil, Nat.zero_add] at h
  exact h
theorem accP_any (l s : List UInt8) : accK (nxP l) (acX l) [0] s = l.isPrefixOf s := by
  unfold accK
  rw [runP_any]
  cases h : s.isPrefixOf l with
  | true =>
    rw [if_pos rfl]
    have e : acX l [(s.length : Int)] = ((s.length : Int) == (l.length : Int)) := rfl
    rw [e, decide_eq_true (by simp), Bool.true_and, Bool.eq_iff_iff, beq_iff_eq]
    constructor
    · intro hn
      have := (pre_eq h).1 (by omega)
      rw [this]; exact pre_refl l
    · intro h2
      have h3 := pre_len ((pre_iff s l).1 h)
      have h4 := pre_len ((pre_iff l s).1 h2)
      omega
  | false =>
    rw [if_neg (by simp)]
    cases h2 : l.isPrefixOf s with
    | true =>
      rw [if_pos rfl]
      have e : acX l [(l.length : Int)] = ((l.length : Int) == (l.length : Int)) := rfl
      rw [e, decide_eq_true (by simp), Bool.true_and, beq_self_eq_true]
    | false => rw [if_neg (by simp)]; rfl
theorem alvP_any (l s : List UInt8) : alvK (nxP l) [0] s = (s.isPrefixOf l || l.isPrefixOf s) := by
  unfold alvK
  rw [runP_any]
  cases s.isPrefixOf l <;> cases l.isPrefixOf s <;> simp
theorem alvV_any (l s : List UInt8) (ed : Nat) : alvK (nxF l ed) (nz (0 :: List.range (min l.length ed + 1))) s = true ↔ ∃ i, i ≤ l.length ∧ Vd l s.reverse i ≤ ed := by
  unfold alvK
  rw [runF_any, nz_len, decide_eq_true_iff]
  constructor
  · intro h
    apply Classical.byContradiction
    intro hn
    have h2 : ∀ y ∈ rwC (ed + 1) l s.reverse, y = ed + 1 := by
      intro y hy
      unfold rwC at hy
      obtain ⟨i, hi, rfl⟩ := List.mem_map.1 hy
      have hi2 := List.mem_range.1 hi
      have : ¬ Vd l s.reverse i ≤ ed := fun e => hn ⟨i, by omega, e⟩
      omega
    rw [trm_allf h2] at h
    simp at h
  · rintro ⟨i, hi, hv⟩
    apply Classical.byContradiction
    intro h0
    have h1 : trm (ed + 1) 0 (rwC (ed + 1) l s.reverse) = [] := List.length_eq_zero_iff.1 (by omega)
    have h2 := trm_nil h1 (min (Vd l s.reverse i) (ed + 1)) (List.mem_of_getElem? (rwC_at (ed + 1) l s.reverse i hi))
    omega
theorem elsN_len : ∀ (n : Nat) (l : List UInt8) (L R : List Int), l.length ≤ n → elsN L l = some R → R.length ≤ L.length + l.length := by
  intro n
  induction n with
  | zero =>
    intro l L R hl h
    cases l with
    | nil => rw [elsNn] at h; cases h; simp
    | cons a r => simp at hl
  | succ n ih =>
    intro l L R hl h
    cases l with
    | nil => rw [elsNn] at h; cases h; simp
    | cons c r =>
      rw [List.length_cons] at hl ⊢
      by_cases h1 : c = 63
      · subst h1; rw [elsN63] at h; have := ih r _ _ (by omega) h; rw [List.length_append, List.length_singleton] at this; omega
      · by_cases h2 : c = 42
        · subst h2; rw [elsN42] at h; have := ih r _ _ (by omega) h; rw [List.length_append, List.length_singleton] at this; omega
        · by_cases h3 : c = 92
          · subst h3
            cases r with
            | nil => rw [elsN92n] at h; cases h
            | cons d r =>
              rw [elsN92] at h
              rw [List.length_cons] at hl ⊢
              have := ih r _ _ (by omega) h; rw [List.length_append, List.length_singleton] at this; omega
          · rw [elsNo _ c r h1 h2 h3] at h
            have := ih r _ _ (by omega) h; rw [List.length_append, List.length_singleton] at this; omega
theorem acc_norm (o i : Bool) (t : List UInt8) (O I : Bool) (T s : List UInt8) : mAcc o (nI o i) (nT o t) O (nI O I) (nT O T) s = mAcc o i t O I T s := by
  cases o <;> cases O <;> rfl
theorem alv_norm (o i : Bool) (t : List UInt8) (O I : Bool) (T s : List UInt8) : mAlv o (nI o i) (nT o t) O (nI O I) (nT O T) s = mAlv o i t O I T s := by
  cases o <;> cases O <;> rfl
theorem open_norm (o i : Bool) (t : List UInt8) : o = true → nT o t = [] ∧ nI o i = false := by
  rintro rfl
  exact ⟨rfl, rfl⟩
/-- What the document answers of what was told. -/
structure RefA (v : Value) (fa fl : List UInt8 → Bool) : Prop where
  acc : ∀ W s, s.length ≤ 1048576 → Calls Tryd.prog 12 #[v, .string (bq s)] W fun e w' => e = .returned (.bool (fa s)) ∧ Kept (fun _ => False) W w'
  alv : ∀ W s, s.length ≤ 1048576 → Calls Tryd.prog 14 #[v, .string (bq s)] W fun e w' => e = .returned (.bool (fl s)) ∧ Kept (fun _ => False) W w'
theorem ref_of {k : Int} {l : List UInt8} {n : Int} {a1 a2 : Bool} {t1 : ByteArray} {b1 b2 : Bool} {t2 : ByteArray} {nx : List Int → Nat → List Int} {ac : List Int → Bool} {S0 : List Int} (hbad : bad k l n = 0) (hS : KSo k l n nx ac S0) (hP : KSp k a1 a2 t1.data.toList b1 b2 t2.data.toList nx ac S0) (hl : l.length ≤ 1048576) (h1 : t1.size ≤ 1048576) : RefA (tld k (bq l) n a1 a2 t1 b1 b2 t2) (accK nx ac S0) (alvK nx S0) := by
  by_cases hk : k < 2 ∨ 5 < k
  · have e : tld k (bq l) n a1 a2 t1 b1 b2 t2 = .agg #[.int .i64 1, .string (bq l), .int .i64 0, .bool false, .bool false, .string ⟨#[]⟩, .bool false, .bool false, .string ⟨#[]⟩] := by unfold tld; rw [if_pos hk]
    rw [e]
    obtain ⟨rfl, rfl, rfl⟩ := hS.2.2.2 (by omega) (by omega) (by omega) (by omega)
    exact ⟨fun W s hs => by rw [accX_any]; exact racc_x l s 0 false false _ false false _ W, fun W s hs => by rw [alvX_any]; exact ralv_x l s 0 false false _ false false _ W (by omega) (by omega)⟩
  · have e : tld k (bq l) n a1 a2 t1 b1 b2 t2 = .agg #[.int .i64 k, .string (bq l), .int .i64 n, .bool a1, .bool a2, .string t1, .bool b1, .bool b2, .string t2] := by unfold tld; rw [if_neg hk]
    rw [e]
    clear e
    by_cases k2 : k = 2
    · obtain ⟨rfl, rfl, rfl⟩ := hS.1 k2
      subst k2
      exact ⟨fun W s hs => by rw [accP_any]; exact racc_p l s n a1 a2 t1 b1 b2 t2 W (by omega) (by omega), fun W s hs => by rw [alvP_any]; exact ralv_p l s n a1 a2 t1 b1 b2 t2 W (by omega) (by omega)⟩
    by_cases k3 : k = 3
    · obtain ⟨E, hE, rfl, rfl, rfl⟩ := hS.2.1 k3
      subst k3
      obtain ⟨R, hR, hD, hN⟩ := dd_of hE
      have hRl : R.length ≤ 1048576 := by have := elsN_len l.length l [] R (Nat.le_refl _) hR; rw [List.length_nil] at this; omega
      refine ⟨fun W s hs => ?_, fun W s hs => ?_⟩
      · rw [accW_any hN, ← hD.whole]
        exact racc_w l s R n a1 a2 t1 b1 b2 t2 W hl hR hRl hs
      · refine ralv_w l s R n a1 a2 t1 b1 b2 t2 W hl hR hRl hs _ ?_
        rw [alvW_any hN, ← hD.some]
        exact ⟨fun ⟨i, h⟩ => ⟨i, wm_le h, h⟩, fun ⟨i, _, h⟩ => ⟨i, h⟩⟩
    by_cases k4 : k = 4
    · obtain ⟨rfl, rfl, rfl⟩ := hS.2.2.1 k4
      subst k4
      have hn : ¬ (n < 0 ∨ 2 < n) := by
        intro h
        unfold bad at hbad
        rw [if_neg (by omega), if_pos ⟨rfl, h⟩] at hbad
        omega
      obtain ⟨ed, rfl⟩ : ∃ ed : Nat, n = (ed : Int) := ⟨n.toNat, by omega⟩
      rw [Int.toNat_natCast]
      refine ⟨fun W s hs => ?_, fun W s hs => ?_⟩
      · rw [accF]
        exact racc_f l s ed a1 a2 t1 b1 b2 t2 W hl hs (by omega)
      · exact ralv_f l s ed a1 a2 t1 b1 b2 t2 W hl hs _ (alvV_any l s ed)
    · have k5 : k = 5 := by omega
      obtain ⟨rfl, rfl, rfl⟩ := hP k5
      subst k5
      unfold S0S
      refine ⟨fun W s hs => ?_, fun W s hs => ?_⟩
      · rw [accS_any (open_norm _ _ _), acc_norm]
        exact racc_s (bq l) s n a1 a2 t1 b1 b2 t2 W
      · rw [alvS_any (open_norm _ _ _), alv_norm]
        exact ralv_s (bq l) s n a1 a2 t1 b1 b2 t2 W hs h1
end Go.Proofs.YtacmmclamkhpcaaDoor
