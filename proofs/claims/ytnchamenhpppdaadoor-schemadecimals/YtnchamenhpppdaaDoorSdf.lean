import Derived.Test.YtnchamenhpppdaaDoorSde
namespace Go.Proofs.YtnchamenhpppdaaDoor
open Go.ChangeShapes Go.WideShapes Go.ChangeAt Go.RowKit

set_option maxRecDepth 20000 in
set_option maxHeartbeats 4000000 in
theorem decimals_neg (v at_ c : Int) (n : Nat) (S : ByteArray) (w : World) (hS : Hid (S.data.toList = dl v)) (hS0 : 2 ≤ S.size) (hS1 : S.size ≤ 21) (hn : n ≤ 2000) (hv : v < 0) (h1 : -9223372036854775808 ≤ v)
    (ha0 : -9223372036854775808 ≤ at_) (ha1 : at_ ≤ 9223372036854775807) (hc0 : 0 ≤ c) (hc1 : c ≤ 255)
    (cD : Calls Tryd.prog 11 #[.int .i64 v] w fun e w' => e = .returned (.string S) ∧ Below w.heap.size w w') (cP : PnOk w) (cN : PnNo w) :
    Calls Tryd.prog 4 #[.int .i64 v, .int .i64 n, .int .i64 at_, .int .u8 c] w fun e w' => e = .returned (.bool true) ∧ Below w.heap.size w w' := by
  have hD : Hid (dec S.data.toList = some v) := hideQ (by rw [hS.out, ← ll_zero]; exact dec_ll v 0 h1 (by omega))
  have hv' : ¬ 0 ≤ v := by omega
  go_enter Tryd.func4, Tryd.ntmps4
  go_wp2_with (first
    | (go_at_call 11; refine cD.mono ?_; clear cD; rintro e w1 ⟨rfl, hb1⟩)
    | (go_at_call 5; refine (cP _ v _ hD.out (by omega) hb1).mono ?_; rintro e w2 ⟨rfl, hb2⟩))
  go_loopw [12, 13] (fun z i wr => ∃ (k : Nat) (Z : ByteArray), k ≤ n ∧ i = .int .i64 k ∧ z = .string Z ∧ Z.size = k ∧ Hid (Z.data.toList = zl k) ∧ wr = w2) (fun _ i _ => n - (intOf i).toNat)
  case atStart => exact ⟨0, ⟨#[]⟩, by omega, rfl, rfl, rfl, rfl, rfl⟩
  case round =>
    obtain ⟨k, Z, hk, rfl, rfl, hZs, hZ, rfl⟩ := hrel
    have hZs' : Z.size ≤ 2000 := by omega
    have HZs := hideQ hZs
    clear hZs
    by_cases hlt : k < n
    · go_wp2
      go_roundw
      case rel => exact ⟨k + 1, _, by omega, by go_num, rfl, by rw [ByteArray.size_append, HZs.out]; rfl, hideQ (by rw [app_list, hZ.out, zl, zl, List.replicate_succ']), trivial⟩
      case measure => simp [intOf]; omega
    · obtain rfl : k = n := by omega
      have hEs : (S.extract 1 S.size).size ≤ 21 := by rw [ByteArray.size_extract]; omega
      obtain ⟨L, hL⟩ : ∃ L, ((ByteArray.mk #[45] ++ Z) ++ S.extract 1 S.size) = L := ⟨_, rfl⟩
      have hLl : L.data.toList = ll v k := by
        rw [← hL, app_list, app_list, hZ.out, ext_list, hS.out, ll, if_pos hv, dl, if_neg (show ¬ v = 0 by omega), if_pos hv]
        rw [List.take_of_length_le (by have e := congrArg List.length hS.out; rw [dl, if_neg (show ¬ v = 0 by omega), if_pos hv, Array.length_toList] at e; exact Nat.le_of_eq e.symm)]
        rfl
      have hLs : L.size ≤ 3000 := by rw [← hL, ByteArray.size_append, ByteArray.size_append, show (ByteArray.mk #[45]).size = 1 from rfl]; omega
      have hLd : Hid (dec L.data.toList = some v) := hideQ (by rw [hLl]; exact dec_ll v k h1 (by omega))
      have hLA : Hid (L.data.toList.all isD = false) := hideQ (by rw [hLl, ll, if_pos hv, List.all_cons]; rfl)
      clear hLl
      by_cases cd : 48 ≤ c ∧ c ≤ 57
      · obtain ⟨cd1, cd2⟩ := cd
        go_wp2_with (go_at_call 5; refine (cP _ v _ hLd.out (by omega) hb2).mono ?_; rintro e w3 ⟨rfl, hb3⟩)
        go_ret
        exact ⟨rfl, hb3⟩
      · have hcD : Hid (isD (UInt8.ofNat c.toNat) = false) := hideQ (by simp only [isD, decide_eq_false_iff_not]; rw [UInt8.toNat_ofNat']; omega)
        have gB : (decide (48 ≤ c) && decide (c ≤ 57)) = false := by simp; omega
        by_cases c1 : at_ < 0
        · go_wp2_with (go_at_call 5; refine (cP _ v _ hLd.out (by omega) hb2).mono ?_; rintro e w3 ⟨rfl, hb3⟩)
          all_goals (go_ret; exact ⟨rfl, hb3⟩)
        · obtain ⟨q, rfl⟩ : ∃ q : Nat, at_ = q := ⟨at_.toNat, by omega⟩
          by_cases c2 : L.size ≤ q
          · go_wp2_with (go_at_call 5; refine (cP _ v _ hLd.out (by omega) hb2).mono ?_; rintro e w3 ⟨rfl, hb3⟩)
            all_goals (go_ret; exact ⟨rfl, hb3⟩)
          · have c2' : (q : Int) < L.size := by omega
            have HN := hideQ (put_none L q c hc0 hc1 cd (by omega) (.inr (.inr hLA.out)))
            by_cases c4 : q = 0
            · have c4B : ((q : Int) == 0) = true := by simp [c4]
              clear c4
              by_cases c8 : c = 45
              · have c7B : (c == 45) = true := by simp [c8]
                clear c8
                by_cases c5 : 48 ≤ c
                · have c6 : ¬ c ≤ 57 := by omega
                  go_wp2_with (go_at_call 5; refine (cP _ v _ hLd.out (by omega) hb2).mono ?_; rintro e w3 ⟨rfl, hb3⟩)
                  try any_goals (go_ret; exact ⟨rfl, hb3⟩)
                  have hx1 : (L.extract 0 q).size ≤ 4000 := by rw [ByteArray.size_extract]; omega
                  have hx2 : (L.extract q L.size).size ≤ 4000 := by rw [ByteArray.size_extract]; omega
                  have hq1 : ¬ L.size < q := by omega
                  have hq2 : min q L.size = q := by omega
                  have hq3 : ¬ 9223372036854775807 < q + 1 := by omega
                  have hq4 : ¬ 9223372036854775807 < q + 1 + (L.size - q) := by omega
                  have h1z := str_size_one
                  have hcv := one_conv_drew w3
                  have cN2 := cN (((L.extract 0 q) ++ strOfNums [c]) ++ (L.extract q L.size)) (w3.alloc (.cells #[.int .u8 c] 5)).drew HN.out (put_size L q c hLs) ((hb3.alloc hb3.size _).trans ⟨rfl, rfl, rfl, Nat.le_refl _, fun _ _ => rfl⟩)
                  refine wp_region_held (S := AnyZ) (by kernel_rfl) ?_
                  change wpAnyH _ _ _ _ _ _ _ _ (World.drew _)
                  refine takeZ (i := 0) (d := 93) (v := .string L) rfl rfl (by kernel_rfl) (by kernel_rfl) (by kernel_rfl) (fun _ _ _ h => h) (Or.inl ⟨by rfl, fun W _ => ?_⟩) (anyZ _) ?_
                  · go_simp
                  try simp only [Act.put, List.setIfInBounds_toArray, List.set_cons_zero, List.set_cons_succ]
                  refine takeZ (i := 1) (d := 94) (v := .int .i64 ((q : Nat) : Int)) rfl rfl (by kernel_rfl) (by kernel_rfl) (by kernel_rfl) (fun _ _ _ h => h) (Or.inl ⟨by rfl, fun W _ => ?_⟩) (anyZ _) ?_
                  · go_simp
                  try simp only [Act.put, List.setIfInBounds_toArray, List.set_cons_zero, List.set_cons_succ]
                  refine takeZ (i := 2) (d := 95) (v := .string (L.extract 0 q)) rfl rfl (by kernel_rfl) (by kernel_rfl) (by kernel_rfl) (fun _ _ _ h => h) (Or.inl ⟨by rfl, fun W _ => ?_⟩) (anyZ _) ?_
                  · go_simp
                  try simp only [Act.put, List.setIfInBounds_toArray, List.set_cons_zero, List.set_cons_succ]
                  refine takeZ (i := 3) (d := 96) (v := .int .u8 c) rfl rfl (by kernel_rfl) (by kernel_rfl) (by kernel_rfl) (fun _ _ _ h => h) (Or.inl ⟨by rfl, fun W _ => ?_⟩) (anyZ _) ?_
                  · go_simp
                  try simp only [Act.put, List.setIfInBounds_toArray, List.set_cons_zero, List.set_cons_succ]
                  refine takeZ (i := 7) (d := 100) (v := .string L) rfl rfl (by kernel_rfl) (by kernel_rfl) (by kernel_rfl) (fun _ _ _ h => h) (Or.inl ⟨by rfl, fun W _ => ?_⟩) (anyZ _) ?_
                  · go_simp
                  try simp only [Act.put, List.setIfInBounds_toArray, List.set_cons_zero, List.set_cons_succ]
                  refine takeZ (i := 8) (d := 101) (v := .int .i64 ((q : Nat) : Int)) rfl rfl (by kernel_rfl) (by kernel_rfl) (by kernel_rfl) (fun _ _ _ h => h) (Or.inl ⟨by rfl, fun W _ => ?_⟩) (anyZ _) ?_
                  · go_simp
                  try simp only [Act.put, List.setIfInBounds_toArray, List.set_cons_zero, List.set_cons_succ]
                  refine takeZ (i := 9) (d := 102) (v := .string (L.extract q L.size)) rfl rfl (by kernel_rfl) (by kernel_rfl) (by kernel_rfl) (fun _ _ _ h => h) (Or.inl ⟨by rfl, fun W _ => ?_⟩) (anyZ _) ?_
                  · go_simp
                  try simp only [Act.put, List.setIfInBounds_toArray, List.set_cons_zero, List.set_cons_succ]
                  refine wpAnyH_all (rs := [4]) (by kernel_rfl) (by simp) ?_
                  intro i hi
                  obtain rfl : i = 4 := by simpa using hi
                  unfold wpOp
                  go_simp
                  first | refine ⟨anyZ _, ?_⟩ | refine Or.inl ⟨anyZ _, ?_⟩
                  refine wpAnyH_all (rs := [5]) (by kernel_rfl) (by simp) ?_
                  intro i hi
                  obtain rfl : i = 5 := by simpa using hi
                  unfold wpOp
                  go_simp
                  first | refine ⟨anyZ _, ?_⟩ | refine Or.inl ⟨anyZ _, ?_⟩
                  refine wpAnyH_all (rs := [6]) (by kernel_rfl) (by simp) ?_
                  intro i hi
                  obtain rfl : i = 6 := by simpa using hi
                  unfold wpOp
                  go_simp
                  first | refine ⟨anyZ _, ?_⟩ | refine Or.inl ⟨anyZ _, ?_⟩
                  refine wpAnyH_all (rs := [10]) (by kernel_rfl) (by simp) ?_
                  intro i hi
                  obtain rfl : i = 10 := by simpa using hi
                  unfold wpOp
                  go_simp
                  first | refine ⟨anyZ _, ?_⟩ | refine Or.inl ⟨anyZ _, ?_⟩
                  refine wpAnyH_all (rs := [11]) (by kernel_rfl) (by simp) ?_
                  intro i hi
                  obtain rfl : i = 11 := by simpa using hi
                  unfold wpOp
                  go_simp
                  first | refine cN2.mono ?_ | refine Or.inl (cN2.mono ?_)
                  rintro e w4 ⟨rfl, hb4⟩
                  refine ⟨anyZ _, ?_⟩
                  try simp only [Act.put, List.setIfInBounds_toArray, List.set_cons_zero, List.set_cons_succ]
                  refine wpAnyH_all (rs := [12]) (by kernel_rfl) (by simp) ?_
                  intro i hi
                  obtain rfl : i = 12 := by simpa using hi
                  unfold wpOp
                  go_simp
                  first | refine ⟨anyZ _, ?_⟩ | refine Or.inl ⟨anyZ _, ?_⟩
                  refine takeZ (i := 13) (d := 105) (v := .int .i64 0) rfl rfl (by kernel_rfl) (by kernel_rfl) (by kernel_rfl) (fun _ _ _ h => h) (Or.inl ⟨by rfl, fun W _ => ?_⟩) (anyZ _) ?_
                  · go_simp
                  try simp only [Act.put, List.setIfInBounds_toArray, List.set_cons_zero, List.set_cons_succ]
                  refine takeZ (i := 14) (d := 106) (v := .bool false) rfl rfl (by kernel_rfl) (by kernel_rfl) (by kernel_rfl) (fun _ _ _ h => h) (Or.inl ⟨by rfl, fun W _ => ?_⟩) (anyZ _) ?_
                  · go_simp
                  try simp only [Act.put, List.setIfInBounds_toArray, List.set_cons_zero, List.set_cons_succ]
                  refine wpAnyH_all (rs := [15]) (by kernel_rfl) (by simp) ?_
                  intro i hi
                  obtain rfl : i = 15 := by simpa using hi
                  unfold wpOp
                  go_simp
                  first | refine ⟨anyZ _, ?_⟩ | refine Or.inl ⟨anyZ _, ?_⟩
                  refine wpAnyH_all (rs := [16]) (by kernel_rfl) (by simp) ?_
                  intro i hi
                  obtain rfl : i = 16 := by simpa using hi
                  unfold wpOp
                  go_simp
                  first | refine ⟨anyZ _, ?_⟩ | refine Or.inl ⟨anyZ _, ?_⟩
                  refine wpAnyH_done (by kernel_rfl) ?_ _
                  go_wp2
                  go_ret
                  exact ⟨rfl, hb4⟩
                · go_wp2_with (go_at_call 5; refine (cP _ v _ hLd.out (by omega) hb2).mono ?_; rintro e w3 ⟨rfl, hb3⟩)
                  try any_goals (go_ret; exact ⟨rfl, hb3⟩)
                  have hx1 : (L.extract 0 q).size ≤ 4000 := by rw [ByteArray.size_extract]; omega
                  have hx2 : (L.extract q L.size).size ≤ 4000 := by rw [ByteArray.size_extract]; omega
                  have hq1 : ¬ L.size < q := by omega
                  have hq2 : min q L.size = q := by omega
                  have hq3 : ¬ 9223372036854775807 < q + 1 := by omega
                  have hq4 : ¬ 9223372036854775807 < q + 1 + (L.size - q) := by omega
                  have h1z := str_size_one
                  have hcv := one_conv_drew w3
                  have cN2 := cN (((L.extract 0 q) ++ strOfNums [c]) ++ (L.extract q L.size)) (w3.alloc (.cells #[.int .u8 c] 5)).drew HN.out (put_size L q c hLs) ((hb3.alloc hb3.size _).trans ⟨rfl, rfl, rfl, Nat.le_refl _, fun _ _ => rfl⟩)
                  refine wp_region_held (S := AnyZ) (by kernel_rfl) ?_
                  change wpAnyH _ _ _ _ _ _ _ _ (World.drew _)
                  refine takeZ (i := 0) (d := 93) (v := .string L) rfl rfl (by kernel_rfl) (by kernel_rfl) (by kernel_rfl) (fun _ _ _ h => h) (Or.inl ⟨by rfl, fun W _ => ?_⟩) (anyZ _) ?_
                  · go_simp
                  try simp only [Act.put, List.setIfInBounds_toArray, List.set_cons_zero, List.set_cons_succ]
                  refine takeZ (i := 1) (d := 94) (v := .int .i64 ((q : Nat) : Int)) rfl rfl (by kernel_rfl) (by kernel_rfl) (by kernel_rfl) (fun _ _ _ h => h) (Or.inl ⟨by rfl, fun W _ => ?_⟩) (anyZ _) ?_
                  · go_simp
                  try simp only [Act.put, List.setIfInBounds_toArray, List.set_cons_zero, List.set_cons_succ]
                  refine takeZ (i := 2) (d := 95) (v := .string (L.extract 0 q)) rfl rfl (by kernel_rfl) (by kernel_rfl) (by kernel_rfl) (fun _ _ _ h => h) (Or.inl ⟨by rfl, fun W _ => ?_⟩) (anyZ _) ?_
                  · go_simp
                  try simp only [Act.put, List.setIfInBounds_toArray, List.set_cons_zero, List.set_cons_succ]
                  refine takeZ (i := 3) (d := 96) (v := .int .u8 c) rfl rfl (by kernel_rfl) (by kernel_rfl) (by kernel_rfl) (fun _ _ _ h => h) (Or.inl ⟨by rfl, fun W _ => ?_⟩) (anyZ _) ?_
                  · go_simp
                  try simp only [Act.put, List.setIfInBounds_toArray, List.set_cons_zero, List.set_cons_succ]
                  refine takeZ (i := 7) (d := 100) (v := .string L) rfl rfl (by kernel_rfl) (by kernel_rfl) (by kernel_rfl) (fun _ _ _ h => h) (Or.inl ⟨by rfl, fun W _ => ?_⟩) (anyZ _) ?_
                  · go_simp
                  try simp only [Act.put, List.setIfInBounds_toArray, List.set_cons_zero, List.set_cons_succ]
                  refine takeZ (i := 8) (d := 101) (v := .int .i64 ((q : Nat) : Int)) rfl rfl (by kernel_rfl) (by kernel_rfl) (by kernel_rfl) (fun _ _ _ h => h) (Or.inl ⟨by rfl, fun W _ => ?_⟩) (anyZ _) ?_
                  · go_simp
                  try simp only [Act.put, List.setIfInBounds_toArray, List.set_cons_zero, List.set_cons_succ]
                  refine takeZ (i := 9) (d := 102) (v := .string (L.extract q L.size)) rfl rfl (by kernel_rfl) (by kernel_rfl) (by kernel_rfl) (fun _ _ _ h => h) (Or.inl ⟨by rfl, fun W _ => ?_⟩) (anyZ _) ?_
                  · go_simp
                  try simp only [Act.put, List.setIfInBounds_toArray, List.set_cons_zero, List.set_cons_succ]
                  refine wpAnyH_all (rs := [4]) (by kernel_rfl) (by simp) ?_
                  intro i hi
                  obtain rfl : i = 4 := by simpa using hi
                  unfold wpOp
                  go_simp
                  first | refine ⟨anyZ _, ?_⟩ | refine Or.inl ⟨anyZ _, ?_⟩
                  refine wpAnyH_all (rs := [5]) (by kernel_rfl) (by simp) ?_
                  intro i hi
                  obtain rfl : i = 5 := by simpa using hi
                  unfold wpOp
                  go_simp
                  first | refine ⟨anyZ _, ?_⟩ | refine Or.inl ⟨anyZ _, ?_⟩
                  refine wpAnyH_all (rs := [6]) (by kernel_rfl) (by simp) ?_
                  intro i hi
                  obtain rfl : i = 6 := by simpa using hi
                  unfold wpOp
                  go_simp
                  first | refine ⟨anyZ _, ?_⟩ | refine Or.inl ⟨anyZ _, ?_⟩
                  refine wpAnyH_all (rs := [10]) (by kernel_rfl) (by simp) ?_
                  intro i hi
                  obtain rfl : i = 10 := by simpa using hi
                  unfold wpOp
                  go_simp
                  first | refine ⟨anyZ _, ?_⟩ | refine Or.inl ⟨anyZ _, ?_⟩
                  refine wpAnyH_all (rs := [11]) (by kernel_rfl) (by simp) ?_
                  intro i hi
                  obtain rfl : i = 11 := by simpa using hi
                  unfold wpOp
                  go_simp
                  first | refine cN2.mono ?_ | refine Or.inl (cN2.mono ?_)
                  rintro e w4 ⟨rfl, hb4⟩
                  refine ⟨anyZ _, ?_⟩
                  try simp only [Act.put, List.setIfInBounds_toArray, List.set_cons_zero, List.set_cons_succ]
                  refine wpAnyH_all (rs := [12]) (by kernel_rfl) (by simp) ?_
                  intro i hi
                  obtain rfl : i = 12 := by simpa using hi
                  unfold wpOp
                  go_simp
                  first | refine ⟨anyZ _, ?_⟩ | refine Or.inl ⟨anyZ _, ?_⟩
                  refine takeZ (i := 13) (d := 105) (v := .int .i64 0) rfl rfl (by kernel_rfl) (by kernel_rfl) (by kernel_rfl) (fun _ _ _ h => h) (Or.inl ⟨by rfl, fun W _ => ?_⟩) (anyZ _) ?_
                  · go_simp
                  try simp only [Act.put, List.setIfInBounds_toArray, List.set_cons_zero, List.set_cons_succ]
                  refine takeZ (i := 14) (d := 106) (v := .bool false) rfl rfl (by kernel_rfl) (by kernel_rfl) (by kernel_rfl) (fun _ _ _ h => h) (Or.inl ⟨by rfl, fun W _ => ?_⟩) (anyZ _) ?_
                  · go_simp
                  try simp only [Act.put, List.setIfInBounds_toArray, List.set_cons_zero, List.set_cons_succ]
                  refine wpAnyH_all (rs := [15]) (by kernel_rfl) (by simp) ?_
                  intro i hi
                  obtain rfl : i = 15 := by simpa using hi
                  unfold wpOp
                  go_simp
                  first | refine ⟨anyZ _, ?_⟩ | refine Or.inl ⟨anyZ _, ?_⟩
                  refine wpAnyH_all (rs := [16]) (by kernel_rfl) (by simp) ?_
                  intro i hi
                  obtain rfl : i = 16 := by simpa using hi
                  unfold wpOp
                  go_simp
                  first | refine ⟨anyZ _, ?_⟩ | refine Or.inl ⟨anyZ _, ?_⟩
                  refine wpAnyH_done (by kernel_rfl) ?_ _
                  go_wp2
                  go_ret
                  exact ⟨rfl, hb4⟩
              · have c7B : (c == 45) = false := by simp [c8]
                by_cases c5 : 48 ≤ c
                · have c6 : ¬ c ≤ 57 := by omega
                  go_wp2_with (go_at_call 5; refine (cP _ v _ hLd.out (by omega) hb2).mono ?_; rintro e w3 ⟨rfl, hb3⟩)
                  try any_goals (go_ret; exact ⟨rfl, hb3⟩)
                  have hx1 : (L.extract 0 q).size ≤ 4000 := by rw [ByteArray.size_extract]; omega
                  have hx2 : (L.extract q L.size).size ≤ 4000 := by rw [ByteArray.size_extract]; omega
                  have hq1 : ¬ L.size < q := by omega
                  have hq2 : min q L.size = q := by omega
                  have hq3 : ¬ 9223372036854775807 < q + 1 := by omega
                  have hq4 : ¬ 9223372036854775807 < q + 1 + (L.size - q) := by omega
                  have h1z := str_size_one
                  have hcv := one_conv_drew w3
                  have cN2 := cN (((L.extract 0 q) ++ strOfNums [c]) ++ (L.extract q L.size)) (w3.alloc (.cells #[.int .u8 c] 5)).drew HN.out (put_size L q c hLs) ((hb3.alloc hb3.size _).trans ⟨rfl, rfl, rfl, Nat.le_refl _, fun _ _ => rfl⟩)
                  refine wp_region_held (S := AnyZ) (by kernel_rfl) ?_
                  change wpAnyH _ _ _ _ _ _ _ _ (World.drew _)
                  refine takeZ (i := 0) (d := 93) (v := .string L) rfl rfl (by kernel_rfl) (by kernel_rfl) (by kernel_rfl) (fun _ _ _ h => h) (Or.inl ⟨by rfl, fun W _ => ?_⟩) (anyZ _) ?_
                  · go_simp
                  try simp only [Act.put, List.setIfInBounds_toArray, List.set_cons_zero, List.set_cons_succ]
                  refine takeZ (i := 1) (d := 94) (v := .int .i64 ((q : Nat) : Int)) rfl rfl (by kernel_rfl) (by kernel_rfl) (by kernel_rfl) (fun _ _ _ h => h) (Or.inl ⟨by rfl, fun W _ => ?_⟩) (anyZ _) ?_
                  · go_simp
                  try simp only [Act.put, List.setIfInBounds_toArray, List.set_cons_zero, List.set_cons_succ]
                  refine takeZ (i := 2) (d := 95) (v := .string (L.extract 0 q)) rfl rfl (by kernel_rfl) (by kernel_rfl) (by kernel_rfl) (fun _ _ _ h => h) (Or.inl ⟨by rfl, fun W _ => ?_⟩) (anyZ _) ?_
                  · go_simp
                  try simp only [Act.put, List.setIfInBounds_toArray, List.set_cons_zero, List.set_cons_succ]
                  refine takeZ (i := 3) (d := 96) (v := .int .u8 c) rfl rfl (by kernel_rfl) (by kernel_rfl) (by kernel_rfl) (fun _ _ _ h => h) (Or.inl ⟨by rfl, fun W _ => ?_⟩) (anyZ _) ?_
                  · go_simp
                  try simp only [Act.put, List.setIfInBounds_toArray, List.set_cons_zero, List.set_cons_succ]
                  refine takeZ (i := 7) (d := 100) (v := .string L) rfl rfl (by kernel_rfl) (by kernel_rfl) (by kernel_rfl) (fun _ _ _ h => h) (Or.inl ⟨by rfl, fun W _ => ?_⟩) (anyZ _) ?_
                  · go_simp
                  try simp only [Act.put, List.setIfInBounds_toArray, List.set_cons_zero, List.set_cons_succ]
                  refine takeZ (i := 8) (d := 101) (v := .int .i64 ((q : Nat) : Int)) rfl rfl (by kernel_rfl) (by kernel_rfl) (by kernel_rfl) (fun _ _ _ h => h) (Or.inl ⟨by rfl, fun W _ => ?_⟩) (anyZ _) ?_
                  · go_simp
                  try simp only [Act.put, List.setIfInBounds_toArray, List.set_cons_zero, List.set_cons_succ]
                  refine takeZ (i := 9) (d := 102) (v := .string (L.extract q L.size)) rfl rfl (by kernel_rfl) (by kernel_rfl) (by kernel_rfl) (fun _ _ _ h => h) (Or.inl ⟨by rfl, fun W _ => ?_⟩) (anyZ _) ?_
                  · go_simp
                  try simp only [Act.put, List.setIfInBounds_toArray, List.set_cons_zero, List.set_cons_succ]
                  refine wpAnyH_all (rs := [4]) (by kernel_rfl) (by simp) ?_
                  intro i hi
                  obtain rfl : i = 4 := by simpa using hi
                  unfold wpOp
                  go_simp
                  first | refine ⟨anyZ _, ?_⟩ | refine Or.inl ⟨anyZ _, ?_⟩
                  refine wpAnyH_all (rs := [5]) (by kernel_rfl) (by simp) ?_
                  intro i hi
                  obtain rfl : i = 5 := by simpa using hi
                  unfold wpOp
                  go_simp
                  first | refine ⟨anyZ _, ?_⟩ | refine Or.inl ⟨anyZ _, ?_⟩
                  refine wpAnyH_all (rs := [6]) (by kernel_rfl) (by simp) ?_
                  intro i hi
                  obtain rfl : i = 6 := by simpa using hi
                  unfold wpOp
                  go_simp
                  first | refine ⟨anyZ _, ?_⟩ | refine Or.inl ⟨anyZ _, ?_⟩
                  refine wpAnyH_all (rs := [10]) (by kernel_rfl) (by simp) ?_
                  intro i hi
                  obtain rfl : i = 10 := by simpa using hi
                  unfold wpOp
                  go_simp
                  first | refine ⟨anyZ _, ?_⟩ | refine Or.inl ⟨anyZ _, ?_⟩
                  refine wpAnyH_all (rs := [11]) (by kernel_rfl) (by simp) ?_
                  intro i hi
                  obtain rfl : i = 11 := by simpa using hi
                  unfold wpOp
                  go_simp
                  first | refine cN2.mono ?_ | refine Or.inl (cN2.mono ?_)
                  rintro e w4 ⟨rfl, hb4⟩
                  refine ⟨anyZ _, ?_⟩
                  try simp only [Act.put, List.setIfInBounds_toArray, List.set_cons_zero, List.set_cons_succ]
                  refine wpAnyH_all (rs := [12]) (by kernel_rfl) (by simp) ?_
                  intro i hi
                  obtain rfl : i = 12 := by simpa using hi
                  unfold wpOp
                  go_simp
                  first | refine ⟨anyZ _, ?_⟩ | refine Or.inl ⟨anyZ _, ?_⟩
                  refine takeZ (i := 13) (d := 105) (v := .int .i64 0) rfl rfl (by kernel_rfl) (by kernel_rfl) (by kernel_rfl) (fun _ _ _ h => h) (Or.inl ⟨by rfl, fun W _ => ?_⟩) (anyZ _) ?_
                  · go_simp
                  try simp only [Act.put, List.setIfInBounds_toArray, List.set_cons_zero, List.set_cons_succ]
                  refine takeZ (i := 14) (d := 106) (v := .bool false) rfl rfl (by kernel_rfl) (by kernel_rfl) (by kernel_rfl) (fun _ _ _ h => h) (Or.inl ⟨by rfl, fun W _ => ?_⟩) (anyZ _) ?_
                  · go_simp
                  try simp only [Act.put, List.setIfInBounds_toArray, List.set_cons_zero, List.set_cons_succ]
                  refine wpAnyH_all (rs := [15]) (by kernel_rfl) (by simp) ?_
                  intro i hi
                  obtain rfl : i = 15 := by simpa using hi
                  unfold wpOp
                  go_simp
                  first | refine ⟨anyZ _, ?_⟩ | refine Or.inl ⟨anyZ _, ?_⟩
                  refine wpAnyH_all (rs := [16]) (by kernel_rfl) (by simp) ?_
                  intro i hi
                  obtain rfl : i = 16 := by simpa using hi
                  unfold wpOp
                  go_simp
                  first | refine ⟨anyZ _, ?_⟩ | refine Or.inl ⟨anyZ _, ?_⟩
                  refine wpAnyH_done (by kernel_rfl) ?_ _
                  go_wp2
                  go_ret
                  exact ⟨rfl, hb4⟩
                · go_wp2_with (go_at_call 5; refine (cP _ v _ hLd.out (by omega) hb2).mono ?_; rintro e w3 ⟨rfl, hb3⟩)
                  try any_goals (go_ret; exact ⟨rfl, hb3⟩)
                  have hx1 : (L.extract 0 q).size ≤ 4000 := by rw [ByteArray.size_extract]; omega
                  have hx2 : (L.extract q L.size).size ≤ 4000 := by rw [ByteArray.size_extract]; omega
                  have hq1 : ¬ L.size < q := by omega
                  have hq2 : min q L.size = q := by omega
                  have hq3 : ¬ 9223372036854775807 < q + 1 := by omega
                  have hq4 : ¬ 9223372036854775807 < q + 1 + (L.size - q) := by omega
                  have h1z := str_size_one
                  have hcv := one_conv_drew w3
                  have cN2 := cN (((L.extract 0 q) ++ strOfNums [c]) ++ (L.extract q L.size)) (w3.alloc (.cells #[.int .u8 c] 5)).drew HN.out (put_size L q c hLs) ((hb3.alloc hb3.size _).trans ⟨rfl, rfl, rfl, Nat.le_refl _, fun _ _ => rfl⟩)
                  refine wp_region_held (S := AnyZ) (by kernel_rfl) ?_
                  change wpAnyH _ _ _ _ _ _ _ _ (World.drew _)
                  refine takeZ (i := 0) (d := 93) (v := .string L) rfl rfl (by kernel_rfl) (by kernel_rfl) (by kernel_rfl) (fun _ _ _ h => h) (Or.inl ⟨by rfl, fun W _ => ?_⟩) (anyZ _) ?_
                  · go_simp
                  try simp only [Act.put, List.setIfInBounds_toArray, List.set_cons_zero, List.set_cons_succ]
                  refine takeZ (i := 1) (d := 94) (v := .int .i64 ((q : Nat) : Int)) rfl rfl (by kernel_rfl) (by kernel_rfl) (by kernel_rfl) (fun _ _ _ h => h) (Or.inl ⟨by rfl, fun W _ => ?_⟩) (anyZ _) ?_
                  · go_simp
                  try simp only [Act.put, List.setIfInBounds_toArray, List.set_cons_zero, List.set_cons_succ]
                  refine takeZ (i := 2) (d := 95) (v := .string (L.extract 0 q)) rfl rfl (by kernel_rfl) (by kernel_rfl) (by kernel_rfl) (fun _ _ _ h => h) (Or.inl ⟨by rfl, fun W _ => ?_⟩) (anyZ _) ?_
                  · go_simp
                  try simp only [Act.put, List.setIfInBounds_toArray, List.set_cons_zero, List.set_cons_succ]
                  refine takeZ (i := 3) (d := 96) (v := .int .u8 c) rfl rfl (by kernel_rfl) (by kernel_rfl) (by kernel_rfl) (fun _ _ _ h => h) (Or.inl ⟨by rfl, fun W _ => ?_⟩) (anyZ _) ?_
                  · go_simp
                  try simp only [Act.put, List.setIfInBounds_toArray, List.set_cons_zero, List.set_cons_succ]
                  refine takeZ (i := 7) (d := 100) (v := .string L) rfl rfl (by kernel_rfl) (by kernel_rfl) (by kernel_rfl) (fun _ _ _ h => h) (Or.inl ⟨by rfl, fun W _ => ?_⟩) (anyZ _) ?_
                  · go_simp
                  try simp only [Act.put, List.setIfInBounds_toArray, List.set_cons_zero, List.set_cons_succ]
                  refine takeZ (i := 8) (d := 101) (v := .int .i64 ((q : Nat) : Int)) rfl rfl (by kernel_rfl) (by kernel_rfl) (by kernel_rfl) (fun _ _ _ h => h) (Or.inl ⟨by rfl, fun W _ => ?_⟩) (anyZ _) ?_
                  · go_simp
                  try simp only [Act.put, List.setIfInBounds_toArray, List.set_cons_zero, List.set_cons_succ]
                  refine takeZ (i := 9) (d := 102) (v := .string (L.extract q L.size)) rfl rfl (by kernel_rfl) (by kernel_rfl) (by kernel_rfl) (fun _ _ _ h => h) (Or.inl ⟨by rfl, fun W _ => ?_⟩) (anyZ _) ?_
                  · go_simp
                  try simp only [Act.put, List.setIfInBounds_toArray, List.set_cons_zero, List.set_cons_succ]
                  refine wpAnyH_all (rs := [4]) (by kernel_rfl) (by simp) ?_
                  intro i hi
                  obtain rfl : i = 4 := by simpa using hi
                  unfold wpOp
                  go_simp
                  first | refine ⟨anyZ _, ?_⟩ | refine Or.inl ⟨anyZ _, ?_⟩
                  refine wpAnyH_all (rs := [5]) (by kernel_rfl) (by simp) ?_
                  intro i hi
                  obtain rfl : i = 5 := by simpa using hi
                  unfold wpOp
                  go_simp
                  first | refine ⟨anyZ _, ?_⟩ | refine Or.inl ⟨anyZ _, ?_⟩
                  refine wpAnyH_all (rs := [6]) (by kernel_rfl) (by simp) ?_
                  intro i hi
                  obtain rfl : i = 6 := by simpa using hi
                  unfold wpOp
                  go_simp
                  first | refine ⟨anyZ _, ?_⟩ | refine Or.inl ⟨anyZ _, ?_⟩
                  refine wpAnyH_all (rs := [10]) (by kernel_rfl) (by simp) ?_
                  intro i hi
                  obtain rfl : i = 10 := by simpa using hi
                  unfold wpOp
                  go_simp
                  first | refine ⟨anyZ _, ?_⟩ | refine Or.inl ⟨anyZ _, ?_⟩
                  refine wpAnyH_all (rs := [11]) (by kernel_rfl) (by simp) ?_
                  intro i hi
                  obtain rfl : i = 11 := by simpa using hi
                  unfold wpOp
                  go_simp
                  first | refine cN2.mono ?_ | refine Or.inl (cN2.mono ?_)
                  rintro e w4 ⟨rfl, hb4⟩
                  refine ⟨anyZ _, ?_⟩
                  try simp only [Act.put, List.setIfInBounds_toArray, List.set_cons_zero, List.set_cons_succ]
                  refine wpAnyH_all (rs := [12]) (by kernel_rfl) (by simp) ?_
                  intro i hi
                  obtain rfl : i = 12 := by simpa using hi
                  unfold wpOp
                  go_simp
                  first | refine ⟨anyZ _, ?_⟩ | refine Or.inl ⟨anyZ _, ?_⟩
                  refine takeZ (i := 13) (d := 105) (v := .int .i64 0) rfl rfl (by kernel_rfl) (by kernel_rfl) (by kernel_rfl) (fun _ _ _ h => h) (Or.inl ⟨by rfl, fun W _ => ?_⟩) (anyZ _) ?_
                  · go_simp
                  try simp only [Act.put, List.setIfInBounds_toArray, List.set_cons_zero, List.set_cons_succ]
                  refine takeZ (i := 14) (d := 106) (v := .bool false) rfl rfl (by kernel_rfl) (by kernel_rfl) (by kernel_rfl) (fun _ _ _ h => h) (Or.inl ⟨by rfl, fun W _ => ?_⟩) (anyZ _) ?_
                  · go_simp
                  try simp only [Act.put, List.setIfInBounds_toArray, List.set_cons_zero, List.set_cons_succ]
                  refine wpAnyH_all (rs := [15]) (by kernel_rfl) (by simp) ?_
                  intro i hi
                  obtain rfl : i = 15 := by simpa using hi
                  unfold wpOp
                  go_simp
                  first | refine ⟨anyZ _, ?_⟩ | refine Or.inl ⟨anyZ _, ?_⟩
                  refine wpAnyH_all (rs := [16]) (by kernel_rfl) (by simp) ?_
                  intro i hi
                  obtain rfl : i = 16 := by simpa using hi
                  unfold wpOp
                  go_simp
                  first | refine ⟨anyZ _, ?_⟩ | refine Or.inl ⟨anyZ _, ?_⟩
                  refine wpAnyH_done (by kernel_rfl) ?_ _
                  go_wp2
                  go_ret
                  exact ⟨rfl, hb4⟩
            · have c4' : ¬ (q : Int) = 0 := by omega
              by_cases c5 : 48 ≤ c
              · have c6 : ¬ c ≤ 57 := by omega
                go_wp2_with (go_at_call 5; refine (cP _ v _ hLd.out (by omega) hb2).mono ?_; rintro e w3 ⟨rfl, hb3⟩)
                try any_goals (go_ret; exact ⟨rfl, hb3⟩)
                have hx1 : (L.extract 0 q).size ≤ 4000 := by rw [ByteArray.size_extract]; omega
                have hx2 : (L.extract q L.size).size ≤ 4000 := by rw [ByteArray.size_extract]; omega
                have hq1 : ¬ L.size < q := by omega
                have hq2 : min q L.size = q := by omega
                have hq3 : ¬ 9223372036854775807 < q + 1 := by omega
                have hq4 : ¬ 9223372036854775807 < q + 1 + (L.size - q) := by omega
                have h1z := str_size_one
                have hcv := one_conv_drew w3
                have cN2 := cN (((L.extract 0 q) ++ strOfNums [c]) ++ (L.extract q L.size)) (w3.alloc (.cells #[.int .u8 c] 5)).drew HN.out (put_size L q c hLs) ((hb3.alloc hb3.size _).trans ⟨rfl, rfl, rfl, Nat.le_refl _, fun _ _ => rfl⟩)
                refine wp_region_held (S := AnyZ) (by kernel_rfl) ?_
                change wpAnyH _ _ _ _ _ _ _ _ (World.drew _)
                refine takeZ (i := 0) (d := 93) (v := .string L) rfl rfl (by kernel_rfl) (by kernel_rfl) (by kernel_rfl) (fun _ _ _ h => h) (Or.inl ⟨by rfl, fun W _ => ?_⟩) (anyZ _) ?_
                · go_simp
                try simp only [Act.put, List.setIfInBounds_toArray, List.set_cons_zero, List.set_cons_succ]
                refine takeZ (i := 1) (d := 94) (v := .int .i64 ((q : Nat) : Int)) rfl rfl (by kernel_rfl) (by kernel_rfl) (by kernel_rfl) (fun _ _ _ h => h) (Or.inl ⟨by rfl, fun W _ => ?_⟩) (anyZ _) ?_
                · go_simp
                try simp only [Act.put, List.setIfInBounds_toArray, List.set_cons_zero, List.set_cons_succ]
                refine takeZ (i := 2) (d := 95) (v := .string (L.extract 0 q)) rfl rfl (by kernel_rfl) (by kernel_rfl) (by kernel_rfl) (fun _ _ _ h => h) (Or.inl ⟨by rfl, fun W _ => ?_⟩) (anyZ _) ?_
                · go_simp
                try simp only [Act.put, List.setIfInBounds_toArray, List.set_cons_zero, List.set_cons_succ]
                refine takeZ (i := 3) (d := 96) (v := .int .u8 c) rfl rfl (by kernel_rfl) (by kernel_rfl) (by kernel_rfl) (fun _ _ _ h => h) (Or.inl ⟨by rfl, fun W _ => ?_⟩) (anyZ _) ?_
                · go_simp
                try simp only [Act.put, List.setIfInBounds_toArray, List.set_cons_zero, List.set_cons_succ]
                refine takeZ (i := 7) (d := 100) (v := .string L) rfl rfl (by kernel_rfl) (by kernel_rfl) (by kernel_rfl) (fun _ _ _ h => h) (Or.inl ⟨by rfl, fun W _ => ?_⟩) (anyZ _) ?_
                · go_simp
                try simp only [Act.put, List.setIfInBounds_toArray, List.set_cons_zero, List.set_cons_succ]
                refine takeZ (i := 8) (d := 101) (v := .int .i64 ((q : Nat) : Int)) rfl rfl (by kernel_rfl) (by kernel_rfl) (by kernel_rfl) (fun _ _ _ h => h) (Or.inl ⟨by rfl, fun W _ => ?_⟩) (anyZ _) ?_
                · go_simp
                try simp only [Act.put, List.setIfInBounds_toArray, List.set_cons_zero, List.set_cons_succ]
                refine takeZ (i := 9) (d := 102) (v := .string (L.extract q L.size)) rfl rfl (by kernel_rfl) (by kernel_rfl) (by kernel_rfl) (fun _ _ _ h => h) (Or.inl ⟨by rfl, fun W _ => ?_⟩) (anyZ _) ?_
                · go_simp
                try simp only [Act.put, List.setIfInBounds_toArray, List.set_cons_zero, List.set_cons_succ]
                refine wpAnyH_all (rs := [4]) (by kernel_rfl) (by simp) ?_
                intro i hi
                obtain rfl : i = 4 := by simpa using hi
                unfold wpOp
                go_simp
                first | refine ⟨anyZ _, ?_⟩ | refine Or.inl ⟨anyZ _, ?_⟩
                refine wpAnyH_all (rs := [5]) (by kernel_rfl) (by simp) ?_
                intro i hi
                obtain rfl : i = 5 := by simpa using hi
                unfold wpOp
                go_simp
                first | refine ⟨anyZ _, ?_⟩ | refine Or.inl ⟨anyZ _, ?_⟩
                refine wpAnyH_all (rs := [6]) (by kernel_rfl) (by simp) ?_
                intro i hi
                obtain rfl : i = 6 := by simpa using hi
                unfold wpOp
                go_simp
                first | refine ⟨anyZ _, ?_⟩ | refine Or.inl ⟨anyZ _, ?_⟩
                refine wpAnyH_all (rs := [10]) (by kernel_rfl) (by simp) ?_
                intro i hi
                obtain rfl : i = 10 := by simpa using hi
                unfold wpOp
                go_simp
                first | refine ⟨anyZ _, ?_⟩ | refine Or.inl ⟨anyZ _, ?_⟩
                refine wpAnyH_all (rs := [11]) (by kernel_rfl) (by simp) ?_
                intro i hi
                obtain rfl : i = 11 := by simpa using hi
                unfold wpOp
                go_simp
                first | refine cN2.mono ?_ | refine Or.inl (cN2.mono ?_)
                rintro e w4 ⟨rfl, hb4⟩
                refine ⟨anyZ _, ?_⟩
                try simp only [Act.put, List.setIfInBounds_toArray, List.set_cons_zero, List.set_cons_succ]
                refine wpAnyH_all (rs := [12]) (by kernel_rfl) (by simp) ?_
                intro i hi
                obtain rfl : i = 12 := by simpa using hi
                unfold wpOp
                go_simp
                first | refine ⟨anyZ _, ?_⟩ | refine Or.inl ⟨anyZ _, ?_⟩
                refine takeZ (i := 13) (d := 105) (v := .int .i64 0) rfl rfl (by kernel_rfl) (by kernel_rfl) (by kernel_rfl) (fun _ _ _ h => h) (Or.inl ⟨by rfl, fun W _ => ?_⟩) (anyZ _) ?_
                · go_simp
                try simp only [Act.put, List.setIfInBounds_toArray, List.set_cons_zero, List.set_cons_succ]
                refine takeZ (i := 14) (d := 106) (v := .bool false) rfl rfl (by kernel_rfl) (by kernel_rfl) (by kernel_rfl) (fun _ _ _ h => h) (Or.inl ⟨by rfl, fun W _ => ?_⟩) (anyZ _) ?_
                · go_simp
                try simp only [Act.put, List.setIfInBounds_toArray, List.set_cons_zero, List.set_cons_succ]
                refine wpAnyH_all (rs := [15]) (by kernel_rfl) (by simp) ?_
                intro i hi
                obtain rfl : i = 15 := by simpa using hi
                unfold wpOp
                go_simp
                first | refine ⟨anyZ _, ?_⟩ | refine Or.inl ⟨anyZ _, ?_⟩
                refine wpAnyH_all (rs := [16]) (by kernel_rfl) (by simp) ?_
                intro i hi
                obtain rfl : i = 16 := by simpa using hi
                unfold wpOp
                go_simp
                first | refine ⟨anyZ _, ?_⟩ | refine Or.inl ⟨anyZ _, ?_⟩
                refine wpAnyH_done (by kernel_rfl) ?_ _
                go_wp2
                go_ret
                exact ⟨rfl, hb4⟩
              · go_wp2_with (go_at_call 5; refine (cP _ v _ hLd.out (by omega) hb2).mono ?_; rintro e w3 ⟨rfl, hb3⟩)
                try any_goals (go_ret; exact ⟨rfl, hb3⟩)
                have hx1 : (L.extract 0 q).size ≤ 4000 := by rw [ByteArray.size_extract]; omega
                have hx2 : (L.extract q L.size).size ≤ 4000 := by rw [ByteArray.size_extract]; omega
                have hq1 : ¬ L.size < q := by omega
                have hq2 : min q L.size = q := by omega
                have hq3 : ¬ 9223372036854775807 < q + 1 := by omega
                have hq4 : ¬ 9223372036854775807 < q + 1 + (L.size - q) := by omega
                have h1z := str_size_one
                have hcv := one_conv_drew w3
                have cN2 := cN (((L.extract 0 q) ++ strOfNums [c]) ++ (L.extract q L.size)) (w3.alloc (.cells #[.int .u8 c] 5)).drew HN.out (put_size L q c hLs) ((hb3.alloc hb3.size _).trans ⟨rfl, rfl, rfl, Nat.le_refl _, fun _ _ => rfl⟩)
                refine wp_region_held (S := AnyZ) (by kernel_rfl) ?_
                change wpAnyH _ _ _ _ _ _ _ _ (World.drew _)
                refine takeZ (i := 0) (d := 93) (v := .string L) rfl rfl (by kernel_rfl) (by kernel_rfl) (by kernel_rfl) (fun _ _ _ h => h) (Or.inl ⟨by rfl, fun W _ => ?_⟩) (anyZ _) ?_
                · go_simp
                try simp only [Act.put, List.setIfInBounds_toArray, List.set_cons_zero, List.set_cons_succ]
                refine takeZ (i := 1) (d := 94) (v := .int .i64 ((q : Nat) : Int)) rfl rfl (by kernel_rfl) (by kernel_rfl) (by kernel_rfl) (fun _ _ _ h => h) (Or.inl ⟨by rfl, fun W _ => ?_⟩) (anyZ _) ?_
                · go_simp
                try simp only [Act.put, List.setIfInBounds_toArray, List.set_cons_zero, List.set_cons_succ]
                refine takeZ (i := 2) (d := 95) (v := .string (L.extract 0 q)) rfl rfl (by kernel_rfl) (by kernel_rfl) (by kernel_rfl) (fun _ _ _ h => h) (Or.inl ⟨by rfl, fun W _ => ?_⟩) (anyZ _) ?_
                · go_simp
                try simp only [Act.put, List.setIfInBounds_toArray, List.set_cons_zero, List.set_cons_succ]
                refine takeZ (i := 3) (d := 96) (v := .int .u8 c) rfl rfl (by kernel_rfl) (by kernel_rfl) (by kernel_rfl) (fun _ _ _ h => h) (Or.inl ⟨by rfl, fun W _ => ?_⟩) (anyZ _) ?_
                · go_simp
                try simp only [Act.put, List.setIfInBounds_toArray, List.set_cons_zero, List.set_cons_succ]
                refine takeZ (i := 7) (d := 100) (v := .string L) rfl rfl (by kernel_rfl) (by kernel_rfl) (by kernel_rfl) (fun _ _ _ h => h) (Or.inl ⟨by rfl, fun W _ => ?_⟩) (anyZ _) ?_
                · go_simp
                try simp only [Act.put, List.setIfInBounds_toArray, List.set_cons_zero, List.set_cons_succ]
                refine takeZ (i := 8) (d := 101) (v := .int .i64 ((q : Nat) : Int)) rfl rfl (by kernel_rfl) (by kernel_rfl) (by kernel_rfl) (fun _ _ _ h => h) (Or.inl ⟨by rfl, fun W _ => ?_⟩) (anyZ _) ?_
                · go_simp
                try simp only [Act.put, List.setIfInBounds_toArray, List.set_cons_zero, List.set_cons_succ]
                refine takeZ (i := 9) (d := 102) (v := .string (L.extract q L.size)) rfl rfl (by kernel_rfl) (by kernel_rfl) (by kernel_rfl) (fun _ _ _ h => h) (Or.inl ⟨by rfl, fun W _ => ?_⟩) (anyZ _) ?_
                · go_simp
                try simp only [Act.put, List.setIfInBounds_toArray, List.set_cons_zero, List.set_cons_succ]
                refine wpAnyH_all (rs := [4]) (by kernel_rfl) (by simp) ?_
                intro i hi
                obtain rfl : i = 4 := by simpa using hi
                unfold wpOp
                go_simp
                first | refine ⟨anyZ _, ?_⟩ | refine Or.inl ⟨anyZ _, ?_⟩
                refine wpAnyH_all (rs := [5]) (by kernel_rfl) (by simp) ?_
                intro i hi
                obtain rfl : i = 5 := by simpa using hi
                unfold wpOp
                go_simp
                first | refine ⟨anyZ _, ?_⟩ | refine Or.inl ⟨anyZ _, ?_⟩
                refine wpAnyH_all (rs := [6]) (by kernel_rfl) (by simp) ?_
                intro i hi
                obtain rfl : i = 6 := by simpa using hi
                unfold wpOp
                go_simp
                first | refine ⟨anyZ _, ?_⟩ | refine Or.inl ⟨anyZ _, ?_⟩
                refine wpAnyH_all (rs := [10]) (by kernel_rfl) (by simp) ?_
                intro i hi
                obtain rfl : i = 10 := by simpa using hi
                unfold wpOp
                go_simp
                first | refine ⟨anyZ _, ?_⟩ | refine Or.inl ⟨anyZ _, ?_⟩
                refine wpAnyH_all (rs := [11]) (by kernel_rfl) (by simp) ?_
                intro i hi
                obtain rfl : i = 11 := by simpa using hi
                unfold wpOp
                go_simp
                first | refine cN2.mono ?_ | refine Or.inl (cN2.mono ?_)
                rintro e w4 ⟨rfl, hb4⟩
                refine ⟨anyZ _, ?_⟩
                try simp only [Act.put, List.setIfInBounds_toArray, List.set_cons_zero, List.set_cons_succ]
                refine wpAnyH_all (rs := [12]) (by kernel_rfl) (by simp) ?_
                intro i hi
                obtain rfl : i = 12 := by simpa using hi
                unfold wpOp
                go_simp
                first | refine ⟨anyZ _, ?_⟩ | refine Or.inl ⟨anyZ _, ?_⟩
                refine takeZ (i := 13) (d := 105) (v := .int .i64 0) rfl rfl (by kernel_rfl) (by kernel_rfl) (by kernel_rfl) (fun _ _ _ h => h) (Or.inl ⟨by rfl, fun W _ => ?_⟩) (anyZ _) ?_
                · go_simp
                try simp only [Act.put, List.setIfInBounds_toArray, List.set_cons_zero, List.set_cons_succ]
                refine takeZ (i := 14) (d := 106) (v := .bool false) rfl rfl (by kernel_rfl) (by kernel_rfl) (by kernel_rfl) (fun _ _ _ h => h) (Or.inl ⟨by rfl, fun W _ => ?_⟩) (anyZ _) ?_
                · go_simp
                try simp only [Act.put, List.setIfInBounds_toArray, List.set_cons_zero, List.set_cons_succ]
                refine wpAnyH_all (rs := [15]) (by kernel_rfl) (by simp) ?_
                intro i hi
                obtain rfl : i = 15 := by simpa using hi
                unfold wpOp
                go_simp
                first | refine ⟨anyZ _, ?_⟩ | refine Or.inl ⟨anyZ _, ?_⟩
                refine wpAnyH_all (rs := [16]) (by kernel_rfl) (by simp) ?_
                intro i hi
                obtain rfl : i = 16 := by simpa using hi
                unfold wpOp
                go_simp
                first | refine ⟨anyZ _, ?_⟩ | refine Or.inl ⟨anyZ _, ?_⟩
                refine wpAnyH_done (by kernel_rfl) ?_ _
                go_wp2
                go_ret
                exact ⟨rfl, hb4⟩
end Go.Proofs.YtnchamenhpppdaaDoor
