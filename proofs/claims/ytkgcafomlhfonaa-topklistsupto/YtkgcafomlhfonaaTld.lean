import Derived.Test.YtkgcafomlhfonaaTlc
namespace Go.Proofs.Ytkgcafomlhfonaa.Tk
open Go.ChangeShapes Go.WideShapes Go.ChangeAt Go.RowKit

/-- What has been merged so far. -/
structure Mg (A B : List Ht) (i j : Nat) (O : List Ht) : Prop where
  perm : O.Perm (A.take i ++ B.take j)
  srt : Srt O
  rest : ∀ x ∈ O, ∀ y ∈ A.drop i ++ B.drop j, ¬ Bt y x
theorem mg_zero (A B : List Ht) : Mg A B 0 0 [] := ⟨by simp, List.Pairwise.nil, fun x hx => by cases hx⟩
theorem Mg.stepA {A B : List Ht} {i j : Nat} {O : List Ht} (h : Mg A B i j O) (hA : Srt A) (hB : Srt B) (hi : i < A.length) (hb : ∀ (hj : j < B.length), ¬ Bt B[j] A[i]) : Mg A B (i + 1) j (O ++ [A[i]]) := by
  have hd : A.drop i = A[i] :: A.drop (i + 1) := List.drop_eq_getElem_cons hi
  refine ⟨?_, ?_, ?_⟩
  · rw [List.take_succ_eq_append_getElem hi, List.append_assoc]
    refine (h.perm.append_right _).trans ?_
    rw [List.append_assoc]
    exact (List.perm_append_comm).append_left _
  · unfold Srt
    rw [List.pairwise_append]
    refine ⟨h.srt, by simp, fun x hx y hy => ?_⟩
    rw [List.mem_singleton] at hy
    subst hy
    exact h.rest x hx _ (List.mem_append_left _ (by rw [hd]; exact List.mem_cons_self ..))
  · intro x hx y hy
    rcases List.mem_append.1 hx with q | q
    · refine h.rest x q y ?_
      rcases List.mem_append.1 hy with r | r
      · exact List.mem_append_left _ (by rw [hd]; exact List.mem_cons_of_mem _ r)
      · exact List.mem_append_right _ r
    · rw [List.mem_singleton] at q
      subst q
      rcases List.mem_append.1 hy with r | r
      · have hs := hA
        unfold Srt at hs
        rw [← List.take_append_drop i A, List.pairwise_append] at hs
        have h2 := hs.2.1
        rw [hd] at h2
        exact (List.pairwise_cons.1 h2).1 y r
      · have hj : j < B.length := by
          rcases Nat.lt_or_ge j B.length with z | z
          · exact z
          · rw [List.drop_eq_nil_of_le z] at r; cases r
        have hdB : B.drop j = B[j] :: B.drop (j + 1) := List.drop_eq_getElem_cons hj
        rw [hdB] at r
        rcases List.mem_cons.1 r with e | r
        · rw [e]; exact hb hj
        · have hs := hB
          unfold Srt at hs
          rw [← List.take_append_drop j B, List.pairwise_append, hdB] at hs
          exact nbt_trans ((List.pairwise_cons.1 hs.2.1).1 y r) (hb hj)
theorem Mg.stepB {A B : List Ht} {i j : Nat} {O : List Ht} (h : Mg A B i j O) (hA : Srt A) (hB : Srt B) (hj : j < B.length) (hb : ∀ (hi : i < A.length), Bt B[j] A[i]) : Mg A B i (j + 1) (O ++ [B[j]]) := by
  have hd : B.drop j = B[j] :: B.drop (j + 1) := List.drop_eq_getElem_cons hj
  refine ⟨?_, ?_, ?_⟩
  · rw [List.take_succ_eq_append_getElem hj, ← List.append_assoc]
    exact h.perm.append_right _
  · unfold Srt
    rw [List.pairwise_append]
    refine ⟨h.srt, by simp, fun x hx y hy => ?_⟩
    rw [List.mem_singleton] at hy
    subst hy
    exact h.rest x hx _ (List.mem_append_right _ (by rw [hd]; exact List.mem_cons_self ..))
  · intro x hx y hy
    rcases List.mem_append.1 hx with q | q
    · refine h.rest x q y ?_
      rcases List.mem_append.1 hy with r | r
      · exact List.mem_append_left _ r
      · exact List.mem_append_right _ (by rw [hd]; exact List.mem_cons_of_mem _ r)
    · rw [List.mem_singleton] at q
      subst q
      rcases List.mem_append.1 hy with r | r
      · have hi : i < A.length := by
          rcases Nat.lt_or_ge i A.length with z | z
          · exact z
          · rw [List.drop_eq_nil_of_le z] at r; cases r
        have hdA : A.drop i = A[i] :: A.drop (i + 1) := List.drop_eq_getElem_cons hi
        rw [hdA] at r
        rcases List.mem_cons.1 r with e | r
        · rw [e]; exact bt_asym (hb hi)
        · have hs := hA
          unfold Srt at hs
          rw [← List.take_append_drop i A, List.pairwise_append, hdA] at hs
          exact nbt_trans ((List.pairwise_cons.1 hs.2.1).1 y r) (bt_asym (hb hi))
      · have hs := hB
        unfold Srt at hs
        rw [← List.take_append_drop j B, List.pairwise_append, hd] at hs
        exact (List.pairwise_cons.1 hs.2.1).1 y r
theorem Mg.done {A B l : List Ht} {O : List Ht} (h : Mg A B A.length B.length O) (hp : (A ++ B).Perm l) : O = Tk.srt l := by
  have := h.perm
  rw [List.take_length, List.take_length] at this
  exact srt_of h.srt (this.trans hp)
theorem cut_hits2 {W : World} {a : Option Addr} {c n k : Nat} {l : List Ht} (h : HsAt W a l) (hn : n = l.length) (hc : n ≤ c) (hk : k ≤ n) : ∃ a6 c6, (∀ V, (Instr.sliceAt 26 (.slice a n c) (some (.int .i64 (k : Int))) none none).run Try.prog V = .ok (.slice a6 (n - k) c6) V) ∧ HsAt W a6 (l.drop k) ∧ n - k ≤ c6 := by
  obtain ⟨a6, c6, h1, h2⟩ := cut_hits h hn hc hk
  have hel : Try.prog.underlying 26 = some (.slice (Try.prog.elem 26)) := by rw [elHit]; exact Try.underlying26
  have h3 := h1 W
  rw [run_sliceAt_slice _ _ _ _ _ _ hel, run_slice_l _ _ _ _ _ hel _ _ (by omega) (by omega), elHit, szHit] at h3
  simp only [Result.andThen, sliced, Int.toNat_natCast, Result.ok.injEq, Value.slice.injEq, and_true] at h3
  exact ⟨a6, c6, h1, h2, by omega⟩
set_option maxRecDepth 20000 in
set_option maxHeartbeats 8000000 in
/-- concordref24.Sorted. -/
theorem rsorted_any : ∀ (f : Nat) (l : List Ht) (a : Option Addr) (c : Nat) (w : World), l.length ≤ f → HsAt w a l → l.length ≤ c → l.length ≤ 8796093021952 → Calls Try.prog 33 #[.slice a l.length c] w fun e w' => ∃ a' c', e = .returned (.slice a' l.length c') ∧ RowH w.heap.size w' (.slice a' l.length c') (srt l) ∧ Kept (fun _ => False) w w' := by
  intro f
  induction f with
  | zero =>
    intro l a c w hf ha hc hlim
    have hl : l = [] := List.eq_nil_of_length_eq_zero (by omega)
    subst hl
    have HR := hideT (show RowH w.heap.size (w.alloc (.cells #[] 29)) (.slice (some ⟨w.heap.size, 0, none⟩) 0 0) [] from ⟨rfl, .inr ⟨w.heap.size, 0, #[], rfl, Nat.le_refl _, heap_alloc_new w _, Nat.le_refl _, Nat.zero_le _, rfl, rfl⟩⟩)
    clear hf ha hc hlim
    go_enter Try.func33, Try.ntmps33
    go_upto_region 2 with fail
    go_wp2_with (refine wpList_cat0T rfl _ _ rfl (some ⟨w.heap.size, 0, none⟩) 0 0 [] rfl HR a c rfl ?_)
    go_ret
    exact ⟨_, _, rfl, HR.out, Kept.alloc _ _⟩
  | succ f ih =>
    intro l a c w hf ha hc hlim
    by_cases h2 : l.length < 2
    · have hs : srt l = l := by
        match l, h2 with
        | [], _ => rfl
        | [x], _ => rfl
      have HA := hideT (show HsAt (w.alloc (.cells #[] 29)) a l from ha.same (Kept.alloc _ _))
      have HR := hideT (show RowH w.heap.size (w.alloc (.cells #[] 29)) (.slice (some ⟨w.heap.size, 0, none⟩) 0 0) [] from ⟨rfl, .inr ⟨w.heap.size, 0, #[], rfl, Nat.le_refl _, heap_alloc_new w _, Nat.le_refl _, Nat.zero_le _, rfl, rfl⟩⟩)
      have HB := hideT (show w.heap.size ≤ (w.alloc (.cells #[] 29)).heap.size from (Kept.alloc w _).size)
      have HSE := hideT hs
      obtain ⟨n, hn⟩ : ∃ n, n = l.length := ⟨_, rfl⟩
      have HN := hideT hn
      have HL := hideT (show ([] : List Ht).length + n ≤ 8796093022208 by rw [hn]; simp; omega)
      have H0 := hideT (show 0 = ([] : List Ht).length from rfl)
      rw [← hn] at h2 ⊢
      have h2i : (n : Int) < 2 := by omega
      clear hf ha hc hlim hs hn ih
      go_enter Try.func33, Try.ntmps33
      go_upto_region 2 with fail
      go_wp2_with (refine wpList_catNT rfl _ _ rfl (some ⟨w.heap.size, 0, none⟩) 0 0 [] l rfl H0 HR a n c rfl HA HN HB HL ?_; intro a' c' W5 hR5 hK5 hG5)
      go_ret
      have e : (0 : Nat) + n = n := by omega
      rw [e] at hR5
      refine ⟨a', c', by simp, by rw [HSE.out]; exact hR5.out, (Kept.alloc w (.cells #[] 29)).trans hK5.out (fun i hi => by
        simp only [Value.ownBlock, Option.some.injEq] at hi
        exact .inr (by omega))⟩
    · obtain ⟨n, hn⟩ : ∃ n, n = l.length := ⟨_, rfl⟩
      obtain ⟨h, hh⟩ : ∃ h, h = n / 2 := ⟨_, rfl⟩
      have ehv : (n : Int).tdiv 2 = (h : Int) := by rw [hh]; rfl
      have hhn : h ≤ n := by omega
      have hd := head_hits (k := h) (c := c) ha hn (by omega) hhn
      obtain ⟨a6, c6, ht6, hd6, hc6⟩ := cut_hits2 (k := h) (c := c) ha hn (by omega) hhn
      have hlA : (l.take h).length = h := by rw [List.length_take]; omega
      have hlB : (l.drop h).length = n - h := by rw [List.length_drop]; omega
      obtain ⟨h', hh'⟩ : ∃ h', h' = n - h := ⟨_, rfl⟩
      rw [← hh'] at ht6 hlB hc6
      have TA := hideT (fun W (hW : Kept (fun _ => False) w W) => ih (l.take h) a c W (by omega) (hd.2.same hW) (by omega) (by omega))
      have TB := hideT (fun W (hW : Kept (fun _ => False) w W) => ih (l.drop h) a6 c6 W (by omega) (hd6.same hW) (by omega) (by omega))
      rw [hlA] at TA
      rw [hlB] at TB
      have hs1 := hd.1
      have HLA := hideT (show (srt (l.take h)).length = h by rw [srt_len]; exact hlA)
      have HLB := hideT (show (srt (l.drop h)).length = h' by rw [srt_len]; exact hlB)
      have hsum : h + h' = n := by omega
      have hn2 : ¬ (n : Int) < 2 := by omega
      have HN := hideT hn
      rw [← hn] at hlim ⊢
      obtain ⟨A, hA⟩ : ∃ A, A = srt (l.take h) := ⟨_, rfl⟩
      obtain ⟨B, hB⟩ : ∃ B, B = srt (l.drop h) := ⟨_, rfl⟩
      rw [← hA] at TA HLA
      rw [← hB] at TB HLB
      have HSA := hideT (show Srt A by rw [hA]; exact srt_srt _)
      have HSB := hideT (show Srt B by rw [hB]; exact srt_srt _)
      have HPE := hideT (show (A ++ B).Perm l by rw [hA, hB]; have := (srt_perm (l.take h)).append (srt_perm (l.drop h)); rwa [List.take_append_drop] at this)
      clear hf ha hc ih h2 hn hh hh' hd hd6 hc6 hlA hlB hA hB hhn
      go_enter Try.func33, Try.ntmps33
      go_upto_region 4 with (go_at_call 33; refine (TA.out _ (Kept.refl _ _)).mono ?_; rintro e W1 ⟨a1, c1, rfl, r1, k1⟩)
      go_upto_region 5 with (go_at_call 33; refine (TB.out _ k1).mono ?_; rintro e W2 ⟨a2, c2, rfl, r2, k2⟩)
      have HA2 := hideT (r1.hs.same k2)
      have HB2 := hideT r2.hs
      have KW := hideT (k1.trans k2 (fun _ f => f.elim))
      clear r1 k1 r2 k2
      go_wp2
      clear hs1 ht6
      go_loopw [5, 6, 7] (fun s5 s6 s7 wr => ∃ (i j n5 : Nat) (a5 : Option Addr) (c5 : Nat) (O : List Ht), i ≤ h ∧ j ≤ h' ∧ n5 = i + j ∧ s6 = .int .i64 i ∧ s7 = .int .i64 j ∧ s5 = .slice a5 n5 c5 ∧ Hid (RowH W2.heap.size wr (.slice a5 n5 c5) O) ∧ Hid (Mg A B i j O) ∧ Hid (O.length = n5) ∧ Hid (Kept (fun _ => False) W2 wr)) (fun _ s6 s7 _ => h + h' - ((intOf s6).toNat + (intOf s7).toNat))
      case atStart => exact ⟨0, 0, 0, none, 0, [], by omega, by omega, rfl, by go_num, by go_num, rfl, hideT ⟨rfl, .inl ⟨rfl, rfl⟩⟩, hideT (mg_zero A B), hideT rfl, hideT (Kept.refl _ _)⟩
      case round =>
        obtain ⟨i, j, n5, a5, c5, O, hi, hj, hn5, rfl, rfl, rfl, HR5, HMG, HOL, HW⟩ := hrel
        have HN5 := hideT hn5
        have HL8 := hideT (show O.length + 1 ≤ 8796093022208 by have := HOL.out; omega)
        have hb5 : n5 ≤ 8796093021952 := by omega
        clear hn5
        by_cases hih : i < h
        · have hiA : i < A.length := by rw [HLA.out]; exact hih
          have hii : (i : Int) < (h : Int) := by omega
          obtain ⟨gA, oA, rfl, hcA⟩ := HA2.out (by intro e; rw [e] at hiA; simp at hiA)
          obtain ⟨x, hx⟩ : ∃ x, x = A[i] := ⟨_, rfl⟩
          obtain ⟨x0, x1⟩ := hcA i hiA
          rw [← hx] at x0 x1
          have HXV := hideT (And.intro x0 x1)
          by_cases hjh : j < h'
          · have hjB : j < B.length := by rw [HLB.out]; exact hjh
            have hjj : (j : Int) < (h' : Int) := by omega
            have hjn : ¬ (h' : Int) ≤ (j : Int) := by omega
            obtain ⟨gB, oB, rfl, hcB⟩ := HB2.out (by intro e; rw [e] at hjB; simp at hjB)
            obtain ⟨y, hy⟩ : ∃ y, y = B[j] := ⟨_, rfl⟩
            obtain ⟨y0, y1⟩ := hcB j hjB
            rw [← hy] at y0 y1
            have HYV := hideT (And.intro y0 y1)
            have HSTA := hideT (show ¬ Bt y x → Mg A B (i + 1) j (O ++ [x]) from fun hb => by have := HMG.out.stepA HSA.out HSB.out hiA (fun _ => by rw [← hy, ← hx]; exact hb); rwa [← hx] at this)
            have HSTB := hideT (show Bt y x → Mg A B i (j + 1) (O ++ [y]) from fun hb => by have := HMG.out.stepB HSA.out HSB.out hjB (fun _ => by rw [← hy, ← hx]; exact hb); rwa [← hy] at this)
            have BT := hideT (fun W => rbetter_any y x W)
            obtain ⟨r, hr⟩ : ∃ r, r = decide (Bt y x) := ⟨_, rfl⟩
            have HRB := hideT hr
            rw [← hr] at BT
            clear hcA hcB hx hy x0 x1 y0 y1 hr
            have HXW := hideT (And.intro (HW.out.cell HXV.out.1 (fun f => f)) (HW.out.cell HXV.out.2 (fun f => f)))
            have HYW := hideT (And.intro (HW.out.cell HYV.out.1 (fun f => f)) (HW.out.cell HYV.out.2 (fun f => f)))
            go_upto_region 8 with fail
            have S0 : Gw wr wr.drew := (Gw.refl wr).drew
            refine wp_region_held (S := fun W' => Gw wr W') (by kernel_rfl) ?_
            change wpAnyH _ _ _ _ _ _ _ _ (World.drew _)
            refine wpAnyH_take (i := 0) (v := .int .i64 (j : Nat)) rfl (by kernel_rfl) (by kernel_rfl) (by kernel_rfl) (fun _ _ _ h => h) (Or.inl ⟨by kernel_rfl, fun W' hW => ?_⟩) S0 ?_
            · go_simp
            refine wpAnyH_take (i := 1) (v := .slice (some ⟨gB, oB, none⟩) h' c2) rfl (by kernel_rfl) (by kernel_rfl) (by kernel_rfl) (fun _ _ _ h => h) (Or.inl ⟨by kernel_rfl, fun W' hW => ?_⟩) S0 ?_
            · go_simp
            refine wpAnyH_take (i := 2) (v := .int .i64 (h' : Nat)) rfl (by kernel_rfl) (by kernel_rfl) (by kernel_rfl) (fun _ _ _ h => h) (Or.inl ⟨by kernel_rfl, fun W' hW => ?_⟩) S0 ?_
            · go_simp
            refine wpAnyH_take (i := 3) (v := .bool false) rfl (by kernel_rfl) (by kernel_rfl) (by kernel_rfl) (fun _ _ _ h => h) (Or.inl ⟨by kernel_rfl, fun W' hW => ?_⟩) S0 ?_
            · go_simp
            refine wpAnyH_take (i := 4) (v := .bool false) rfl (by kernel_rfl) (by kernel_rfl) (by kernel_rfl) (fun _ _ _ h => h) (Or.inl ⟨by kernel_rfl, fun W' hW => ?_⟩) S0 ?_
            · go_simp
            refine wpAnyH_take (i := 5) (v := .int .i64 (i : Nat)) rfl (by kernel_rfl) (by kernel_rfl) (by kernel_rfl) (fun _ _ _ h => h) (Or.inl ⟨by kernel_rfl, fun W' hW => ?_⟩) S0 ?_
            · go_simp
            refine wpAnyH_take (i := 6) (v := .slice (some ⟨gA, oA, none⟩) h c1) rfl (by kernel_rfl) (by kernel_rfl) (by kernel_rfl) (fun _ _ _ h => h) (Or.inl ⟨by kernel_rfl, fun W' hW => ?_⟩) S0 ?_
            · go_simp
            refine wpAnyH_take (i := 7) (v := .int .i64 (h : Nat)) rfl (by kernel_rfl) (by kernel_rfl) (by kernel_rfl) (fun _ _ _ h => h) (Or.inl ⟨by kernel_rfl, fun W' hW => ?_⟩) S0 ?_
            · go_simp
            refine wpAnyH_take (i := 8) (v := .bool true) rfl (by kernel_rfl) (by kernel_rfl) (by kernel_rfl) (fun _ _ _ h => h) (Or.inl ⟨by kernel_rfl, fun W' hW => ?_⟩) S0 ?_
            · go_simp
            refine wpAnyH_take (i := 9) (v := .bool true) rfl (by kernel_rfl) (by kernel_rfl) (by kernel_rfl) (fun _ _ _ h => h) (Or.inl ⟨by kernel_rfl, fun W' hW => ?_⟩) S0 ?_
            · go_simp
            refine wpAnyH_take (i := 10) (v := .slice (some ⟨gB, oB, none⟩) h' c2) rfl (by kernel_rfl) (by kernel_rfl) (by kernel_rfl) (fun _ _ _ h => h) (Or.inl ⟨by kernel_rfl, fun W' hW => ?_⟩) S0 ?_
            · go_simp
            refine wpAnyH_take (i := 11) (v := .int .i64 (j : Nat)) rfl (by kernel_rfl) (by kernel_rfl) (by kernel_rfl) (fun _ _ _ h => h) (Or.inl ⟨by kernel_rfl, fun W' hW => ?_⟩) S0 ?_
            · go_simp
            refine wpAnyH_take (i := 12) (v := .pointer (some ⟨gB, oB + j * 2, none⟩)) rfl (by kernel_rfl) (by kernel_rfl) (by kernel_rfl) (fun _ _ _ h => h) (Or.inl ⟨by kernel_rfl, fun W' hW => ?_⟩) S0 ?_
            · go_simp
              all_goals (intro hh; omega)
            refine wpAnyH_take (i := 13) (v := .agg #[.int .i64 y.1, .int .u64 y.2]) rfl (by kernel_rfl) (by kernel_rfl) (by kernel_rfl) (fun _ _ _ h => h) (Or.inl ⟨by kernel_rfl, fun W' hW => ?_⟩) S0 ?_
            · exact load_hit (x := .tmp 48) (b := gB) (off := oB + j * 2) (y := y) rfl (by go_simp) ((gw_kept hW).cell HYW.out.1 (fun f => f)) ((gw_kept hW).cell HYW.out.2 (fun f => f))
            refine wpAnyH_take (i := 14) (v := .slice (some ⟨gA, oA, none⟩) h c1) rfl (by kernel_rfl) (by kernel_rfl) (by kernel_rfl) (fun _ _ _ h => h) (Or.inl ⟨by kernel_rfl, fun W' hW => ?_⟩) S0 ?_
            · go_simp
            refine wpAnyH_take (i := 15) (v := .int .i64 (i : Nat)) rfl (by kernel_rfl) (by kernel_rfl) (by kernel_rfl) (fun _ _ _ h => h) (Or.inl ⟨by kernel_rfl, fun W' hW => ?_⟩) S0 ?_
            · go_simp
            refine wpAnyH_take (i := 16) (v := .pointer (some ⟨gA, oA + i * 2, none⟩)) rfl (by kernel_rfl) (by kernel_rfl) (by kernel_rfl) (fun _ _ _ h => h) (Or.inl ⟨by kernel_rfl, fun W' hW => ?_⟩) S0 ?_
            · go_simp
              all_goals (intro hh; omega)
            refine wpAnyH_take (i := 17) (v := .agg #[.int .i64 x.1, .int .u64 x.2]) rfl (by kernel_rfl) (by kernel_rfl) (by kernel_rfl) (fun _ _ _ h => h) (Or.inl ⟨by kernel_rfl, fun W' hW => ?_⟩) S0 ?_
            · exact load_hit (x := .tmp 52) (b := gA) (off := oA + i * 2) (y := x) rfl (by go_simp) ((gw_kept hW).cell HXW.out.1 (fun f => f)) ((gw_kept hW).cell HXW.out.2 (fun f => f))
            refine wpAnyH_all (rs := [18]) (by kernel_rfl) (by simp) ?_
            intro i hi
            obtain rfl : i = 18 := by simpa using hi
            have E18 := hideT (BT.out wr.drew)
            unfold wpOp
            go_simp
            first | refine E18.out.mono ?_ | refine Or.inl (E18.out.mono ?_)
            rintro e W8 ⟨rfl, h5⟩
            have h5 := S0.trans h5
            first | refine ⟨h5, ?_⟩ | refine Or.inl ⟨h5, ?_⟩
            refine wpAnyH_all (rs := [19]) (by kernel_rfl) (by simp) ?_
            intro i hi
            obtain rfl : i = 19 := by simpa using hi
            unfold wpOp
            go_simp
            first | (change wpAnyH _ _ _ _ _ _ _ _ _) | (refine Or.inl ?_; change wpAnyH _ _ _ _ _ _ _ _ _) | refine Or.inl ⟨h5, ?_⟩ | refine ⟨h5, ?_⟩
            refine wpAnyH_all (rs := [20]) (by kernel_rfl) (by simp) ?_
            intro i hi
            obtain rfl : i = 20 := by simpa using hi
            unfold wpOp
            go_simp
            first | (change wpAnyH _ _ _ _ _ _ _ _ _) | (refine Or.inl ?_; change wpAnyH _ _ _ _ _ _ _ _ _) | refine Or.inl ⟨h5, ?_⟩ | refine ⟨h5, ?_⟩
            refine wpAnyH_all (rs := [21]) (by kernel_rfl) (by simp) ?_
            intro i hi
            obtain rfl : i = 21 := by simpa using hi
            unfold wpOp
            go_simp
            first | (change wpAnyH _ _ _ _ _ _ _ _ _) | (refine Or.inl ?_; change wpAnyH _ _ _ _ _ _ _ _ _) | refine Or.inl ⟨h5, ?_⟩ | refine ⟨h5, ?_⟩
            refine wpAnyH_done (by kernel_rfl) ?_ _
            have HK8 := hideT (HW.out.trans (gw_kept h5) (fun _ f => f.elim))
            have HRA := hideT (HR5.out.same (gw_kept h5) (fun _ _ f => f) : RowH W2.heap.size W8 (.slice a5 n5 c5) O)
            clear h5 S0
            cases r with
            | false =>
              have HMG2 := hideT (HSTA.out (of_decide_eq_false HRB.out.symm))
              have z0 := HK8.out.cell HXV.out.1 (fun f => f)
              have z1 := HK8.out.cell HXV.out.2 (fun f => f)
              have HB3 := hideT (show W2.heap.size ≤ W8.heap.size from HK8.out.size)
              go_upto_region 9 with fail
              go_upto_region 10 with (refine wpList_pushT (B := W2.heap.size) (W := W8) rfl _ _ rfl (.slice a5 n5 c5) O x x.1 x.2 rfl HRA W8.heap.size rfl rfl (hideT ⟨rfl, rfl⟩) HB3 HL8 ?_; intro g3 c3 W3 hR3 hK3 hG3; rw [HOL.out] at hR3 ⊢)
              have HKW3 := hideT (HK8.out.trans hK3.out (fun i hi => .inr (World.ownsRow.lt HRA.out i hi).1))
              have HOL2 := hideT (show (O ++ [x]).length = n5 + 1 by rw [List.length_append, HOL.out]; rfl)
              have hnn : n5 + 1 = (i + 1) + j := by have := HN5.out; omega
              clear z0 z1
              go_wp2
              go_round
              case rel => exact ⟨(i + 1), j, n5 + 1, some ⟨g3, 0, none⟩, c3, O ++ [x], by omega, by omega, hnn, by go_num, by go_num, rfl, hR3, HMG2, HOL2, HKW3⟩
              case measure => simp [intOf]; omega
            | true =>
              have HMG2 := hideT (HSTB.out (of_decide_eq_true HRB.out.symm))
              have z0 := HK8.out.cell HYV.out.1 (fun f => f)
              have z1 := HK8.out.cell HYV.out.2 (fun f => f)
              have HB3 := hideT (show W2.heap.size ≤ W8.heap.size from HK8.out.size)
              go_upto_region 11 with fail
              go_upto_region 12 with (refine wpList_pushT (B := W2.heap.size) (W := W8) rfl _ _ rfl (.slice a5 n5 c5) O y y.1 y.2 rfl HRA W8.heap.size rfl rfl (hideT ⟨rfl, rfl⟩) HB3 HL8 ?_; intro g3 c3 W3 hR3 hK3 hG3; rw [HOL.out] at hR3 ⊢)
              have HKW3 := hideT (HK8.out.trans hK3.out (fun i hi => .inr (World.ownsRow.lt HRA.out i hi).1))
              have HOL2 := hideT (show (O ++ [y]).length = n5 + 1 by rw [List.length_append, HOL.out]; rfl)
              have hnn : n5 + 1 = i + (j + 1) := by have := HN5.out; omega
              clear z0 z1
              go_wp2
              go_round
              case rel => exact ⟨i, (j + 1), n5 + 1, some ⟨g3, 0, none⟩, c3, O ++ [y], by omega, by omega, hnn, by go_num, by go_num, rfl, hR3, HMG2, HOL2, HKW3⟩
              case measure => simp [intOf]; omega
          · obtain rfl : j = h' := by omega
            have hjj : ¬ (j : Int) < (j : Int) := by omega
            have HMG2 := hideT (show Mg A B (i + 1) j (O ++ [x]) from by have := HMG.out.stepA HSA.out HSB.out hiA (fun q => absurd q (by rw [HLB.out]; omega)); rwa [← hx] at this)
            clear hcA hx x0 x1
            go_upto_region 8 with fail
            go_quiet (fail)
            generalize hW8 : World.drewN wr _ = W8
            have HK8 := hideT (show Kept (fun _ => False) W2 W8 by rw [← hW8]; exact HW.out.trans (gw_kept ((Gw.refl wr).drewN _)) (fun _ f => f.elim))
            have HRA := hideT (show RowH W2.heap.size W8 (.slice a5 n5 c5) O by rw [← hW8]; exact HR5.out.same (gw_kept ((Gw.refl wr).drewN _)) (fun _ _ f => f))
            clear hW8
            have z0 := HK8.out.cell HXV.out.1 (fun f => f)
            have z1 := HK8.out.cell HXV.out.2 (fun f => f)
            have HB3 := hideT (show W2.heap.size ≤ W8.heap.size from HK8.out.size)
            go_upto_region 9 with fail
            go_upto_region 10 with (refine wpList_pushT (B := W2.heap.size) (W := W8) rfl _ _ rfl (.slice a5 n5 c5) O x x.1 x.2 rfl HRA W8.heap.size rfl rfl (hideT ⟨rfl, rfl⟩) HB3 HL8 ?_; intro g3 c3 W3 hR3 hK3 hG3; rw [HOL.out] at hR3 ⊢)
            have HKW3 := hideT (HK8.out.trans hK3.out (fun i hi => .inr (World.ownsRow.lt HRA.out i hi).1))
            have HOL2 := hideT (show (O ++ [x]).length = n5 + 1 by rw [List.length_append, HOL.out]; rfl)
            have hnn : n5 + 1 = (i + 1) + j := by have := HN5.out; omega
            clear z0 z1
            go_wp2
            go_round
            case rel => exact ⟨(i + 1), j, n5 + 1, some ⟨g3, 0, none⟩, c3, O ++ [x], by omega, by omega, hnn, by go_num, by go_num, rfl, hR3, HMG2, HOL2, HKW3⟩
            case measure => simp [intOf]; omega
        · obtain rfl : i = h := by omega
          by_cases hjh : j < h'
          · have hjB : j < B.length := by rw [HLB.out]; exact hjh
            have hjj : (j : Int) < (h' : Int) := by omega
            have hjn : ¬ (h' : Int) ≤ (j : Int) := by omega
            have hii : ¬ (i : Int) < (i : Int) := by omega
            obtain ⟨gB, oB, rfl, hcB⟩ := HB2.out (by intro e; rw [e] at hjB; simp at hjB)
            obtain ⟨y, hy⟩ : ∃ y, y = B[j] := ⟨_, rfl⟩
            obtain ⟨y0, y1⟩ := hcB j hjB
            rw [← hy] at y0 y1
            have HYV := hideT (And.intro y0 y1)
            have HMG2 := hideT (show Mg A B i (j + 1) (O ++ [y]) from by have := HMG.out.stepB HSA.out HSB.out hjB (fun q => absurd q (by rw [HLA.out]; omega)); rwa [← hy] at this)
            clear hcB hy y0 y1
            go_upto_region 8 with fail
            go_quiet (fail)
            generalize hW8 : World.drewN wr _ = W8
            have HK8 := hideT (show Kept (fun _ => False) W2 W8 by rw [← hW8]; exact HW.out.trans (gw_kept ((Gw.refl wr).drewN _)) (fun _ f => f.elim))
            have HRA := hideT (show RowH W2.heap.size W8 (.slice a5 n5 c5) O by rw [← hW8]; exact HR5.out.same (gw_kept ((Gw.refl wr).drewN _)) (fun _ _ f => f))
            clear hW8
            have z0 := HK8.out.cell HYV.out.1 (fun f => f)
            have z1 := HK8.out.cell HYV.out.2 (fun f => f)
            have HB3 := hideT (show W2.heap.size ≤ W8.heap.size from HK8.out.size)
            go_upto_region 11 with fail
            go_upto_region 12 with (refine wpList_pushT (B := W2.heap.size) (W := W8) rfl _ _ rfl (.slice a5 n5 c5) O y y.1 y.2 rfl HRA W8.heap.size rfl rfl (hideT ⟨rfl, rfl⟩) HB3 HL8 ?_; intro g3 c3 W3 hR3 hK3 hG3; rw [HOL.out] at hR3 ⊢)
            have HKW3 := hideT (HK8.out.trans hK3.out (fun i hi => .inr (World.ownsRow.lt HRA.out i hi).1))
            have HOL2 := hideT (show (O ++ [y]).length = n5 + 1 by rw [List.length_append, HOL.out]; rfl)
            have hnn : n5 + 1 = i + (j + 1) := by have := HN5.out; omega
            clear z0 z1
            go_wp2
            go_round
            case rel => exact ⟨i, (j + 1), n5 + 1, some ⟨g3, 0, none⟩, c3, O ++ [y], by omega, by omega, hnn, by go_num, by go_num, rfl, hR3, HMG2, HOL2, HKW3⟩
            case measure => simp [intOf]; omega
          · obtain rfl : j = h' := by omega
            have HSO := hideT (show O = srt l from by have := HMG.out; rw [← HLA.out, ← HLB.out] at this; exact this.done HPE.out)
            have HNE := hideT (show n5 = n from by rw [HN5.out]; exact hsum)
            go_wp2
            go_ret
            have hr5 := HR5.out
            rw [HSO.out] at hr5
            exact ⟨a5, c5, by rw [HNE.out]; rfl, by rw [← HNE.out]; exact hr5.older KW.out.size, KW.out.trans HW.out (fun _ f => f.elim)⟩
end Go.Proofs.Ytkgcafomlhfonaa.Tk
