import Derived.Test.YtiemiphlfbaojaaDoorSyf
namespace Go.Proofs.YtiemiphlfbaojaaDoor
open Go.ChangeShapes Go.WideShapes Go.ChangeAt Go.RowKit
variable {w0 w w' : World} {b rc : Nat} {a0 : Option Addr} {R : List Tn} {v : Value} {s : MS}

theorem mc_at {V : World} {x0 x1 x2 x3 x4 x5 x6 x7 : Value} {b : Nat} (hW : V.heap[b]? = some (.cells #[x0, x1, x2, x3, x4, x5, x6, x7] 53 (0, 0))) : V.cell? ⟨b, 4, none⟩ = some x4 ∧ V.cell? ⟨b, 5, none⟩ = some x5 ∧ V.cell? ⟨b, 6, none⟩ = some x6 ∧ V.cell? ⟨b, 7, none⟩ = some x7 := by
  have hc := fun j => cell_of_row V b j _ _ _ hW
  refine ⟨?_, ?_, ?_, ?_⟩ <;> (rw [hc]; rfl)
/-- 'append(s, x)' of a level, as one operation; the block of a machine stays. -/
theorem wp_lvl {W : World} {o : Oper} {act : Act} {K : Act → World → Prop} {Q : Exit → Act → World → Prop} {m : Nat} {L : List Lv} (s x : Operand)
    (ho : o.op = .call { callee := .builtin .append, args := #[s, x], argTypes := #[51, 51] }) (y : Lv) (g : Nat) (hs : act.eval s = v) (hG : W.ownsRow w0.heap.size 50 3 v m (lvv L)) (k0 : Kept (fun _ => False) w0 W) (hx : act.eval x = .slice (some ⟨g, 0, none⟩) 1 1)
    (hc : ∀ j u, (lvC y)[j]? = some u → W.cell? ⟨g, j, none⟩ = some u) (hm : m ≤ 1000000000000)
    (h : ∀ v' W', W'.ownsRow w0.heap.size 50 3 v' (m + 1) (lvv (L ++ [y])) → Kept (fun _ => False) w0 W' → (∀ (b : Nat) cs fz, W.heap[b]? = some (.cells cs 53 fz) → W'.heap[b]? = some (.cells cs 53 fz)) → K (act.put o.dst v') W') : o.wp Tryd.prog act W K Q := by
  obtain ⟨i0, hi, hz0, hz1, hz2⟩ := info_partsL Tryd.infoLv
  have hplain : ∀ j, (⟨g, 0, none⟩ : Addr).add j = ⟨g, j, none⟩ := fun j => by unfold Addr.add; split <;> simp_all
  refine wp_append_own W s x 51 ho w0.heap.size 50 i0 (.agg #[.int .i64 0, .int .i64 0, .bool false]) 3 24 Tryd.underlying51 hi hz0 hz1 hz2 rfl (by decide) v m (lvv L) hs hG ⟨g, 0, none⟩ 1 1 (lvC y) hx rfl (fun j u hu => by rw [hplain]; exact hc j u hu) ?_ (by unfold maxLen; omega) (by omega) k0.size ?_
  · intro u hu
    simp [lvC] at hu
    rcases hu with rfl | rfl | rfl <;> rfl
  · intro v' W' ho2 hg2 _
    refine h v' W' ?_ (k0.trans (Kept.grown hg2) (fun i hi => .inr (hG.lt i hi).1)) (fun b cs fz hb => (Kept.grown hg2).heap hb (fun hk => ?_))
    · rw [lvv_append]
      have e : lvv [y] = lvC y := List.append_nil _
      rw [e]
      exact ho2
    · rcases hG.2 with ⟨hn, _⟩ | ⟨g', cap, cur, e, _, hgg, _⟩
      · rw [hn] at hk; simp [Value.ownBlock] at hk
      · rw [e] at hk
        simp [Value.ownBlock] at hk
        subst hk
        rw [hb] at hgg
        simp at hgg
/-- The innermost level's cells. -/
def S3v (b : Nat) (n t : Nat) (q : Bool) (V : World) : Prop := V.cell? ⟨b, 4, none⟩ = some (.int .i64 (n : Int)) ∧ V.cell? ⟨b, 5, none⟩ = some (.int .i64 (t : Int)) ∧ V.cell? ⟨b, 6, none⟩ = some (.bool q)
theorem s3v (h : Mc w0 w b rc a0 R v s) : S3v b s.top.n s.top.t s.top.s w := by
  obtain ⟨x0, x1, x2, x3, x4, x5, x6, x7⟩ := h.cells
  exact ⟨x4, x5, x6⟩
set_option maxRecDepth 20000 in
set_option maxHeartbeats 4000000 in
theorem open_anyS (h : Mc w0 w b rc a0 R v s) (hm : s.ou.length ≤ 1000000000000) :
    Calls Tryd.prog 31 #[.pointer (some ⟨b, 0, none⟩)] w fun x w' => x = .returned (.tuple #[]) ∧ ∃ v', Mc w0 w' b rc a0 R v' s.open' := by
  have H1 := hideL h
  clear h
  obtain ⟨at0, mi, ne, ⟨tn, tt, ts⟩, ou⟩ := s
  go_enter Tryd.func31, Tryd.ntmps31
  go_wp2_with fail
  refine wp_region_held (S := S3v b tn tt ts) (by kernel_rfl) ?_
  change wpAnyH _ _ _ _ _ _ _ _ (World.drew _)
  have HD := hideL (H1.out.later (Kept.drew w))
  clear H1
  generalize w.drew = V0 at *
  have hS : S3v b tn tt ts V0 := s3v HD.out
  refine takeZ (i := 0) (d := 2) (v := .pointer (some ⟨b, 0, none⟩)) rfl rfl (by kernel_rfl) (by kernel_rfl) (by kernel_rfl) (fun _ _ _ h => h) (Or.inl ⟨by rfl, fun W hW => ?_⟩) hS ?_
  · (go_simp)
  simp only [Act.put, List.setIfInBounds_toArray, List.set_cons_zero, List.set_cons_succ]
  refine takeZ (i := 1) (d := 3) (v := .pointer (some ⟨b, 0, none⟩)) rfl rfl (by kernel_rfl) (by kernel_rfl) (by kernel_rfl) (fun _ _ _ h => h) (Or.inl ⟨by rfl, fun W hW => ?_⟩) hS ?_
  · (go_simp)
  simp only [Act.put, List.setIfInBounds_toArray, List.set_cons_zero, List.set_cons_succ]
  refine takeZ (i := 2) (d := 4) (v := .pointer (some ⟨b, 0, none⟩)) rfl rfl (by kernel_rfl) (by kernel_rfl) (by kernel_rfl) (fun _ _ _ h => h) (Or.inl ⟨by rfl, fun W hW => ?_⟩) hS ?_
  · (go_simp)
  simp only [Act.put, List.setIfInBounds_toArray, List.set_cons_zero, List.set_cons_succ]
  refine takeZ (i := 3) (d := 5) (v := .pointer (some ⟨b, 7, none⟩)) rfl rfl (by kernel_rfl) (by kernel_rfl) (by kernel_rfl) (fun _ _ _ h => h) (Or.inl ⟨by rfl, fun W hW => ?_⟩) hS ?_
  · (go_simp)
  simp only [Act.put, List.setIfInBounds_toArray, List.set_cons_zero, List.set_cons_succ]
  refine takeZ (i := 5) (d := 7) (v := .pointer (some ⟨b, 0, none⟩)) rfl rfl (by kernel_rfl) (by kernel_rfl) (by kernel_rfl) (fun _ _ _ h => h) (Or.inl ⟨by rfl, fun W hW => ?_⟩) hS ?_
  · (go_simp)
  simp only [Act.put, List.setIfInBounds_toArray, List.set_cons_zero, List.set_cons_succ]
  refine takeZ (i := 6) (d := 8) (v := .pointer (some ⟨b, 0, none⟩)) rfl rfl (by kernel_rfl) (by kernel_rfl) (by kernel_rfl) (fun _ _ _ h => h) (Or.inl ⟨by rfl, fun W hW => ?_⟩) hS ?_
  · (go_simp)
  simp only [Act.put, List.setIfInBounds_toArray, List.set_cons_zero, List.set_cons_succ]
  refine takeZ (i := 7) (d := 9) (v := .pointer (some ⟨b, 4, none⟩)) rfl rfl (by kernel_rfl) (by kernel_rfl) (by kernel_rfl) (fun _ _ _ h => h) (Or.inl ⟨by rfl, fun W hW => ?_⟩) hS ?_
  · (go_simp)
  simp only [Act.put, List.setIfInBounds_toArray, List.set_cons_zero, List.set_cons_succ]
  refine takeZ (i := 8) (d := 10) (v := .agg #[.int .i64 (tn : Int), .int .i64 (tt : Int), .bool ts]) rfl rfl (by kernel_rfl) (by kernel_rfl) (by kernel_rfl) (fun _ _ _ h => h) (Or.inl ⟨by rfl, fun W hW => ?_⟩) hS ?_
  · (obtain ⟨x4, x5, x6⟩ := hW; go_simp)
  simp only [Act.put, List.setIfInBounds_toArray, List.set_cons_zero, List.set_cons_succ]
  refine wpAnyH_all (rs := [4, 9]) (by kernel_rfl) (by simp) ?_
  intro i' hi'
  obtain rfl | rfl : i' = 4 ∨ i' = 9 := by simpa using hi'
  · have c7 := HD.out.cells.2.2.2.2.2.2.2
    unfold wpOp
    go_simp
    first | refine Or.inl ⟨hS, ?_⟩ | refine ⟨hS, ?_⟩ | (change wpAnyH _ _ _ _ _ _ _ _ _) | refine Or.inl ?_
    clear c7
    refine wpAnyH_all (rs := [9]) (by kernel_rfl) (by simp) ?_
    intro i' hi'
    obtain rfl : i' = 9 := by simpa using hi'
    unfold wpOp
    go_simp
    have H2 := hideL (HD.out.later (Kept.alloc V0 (.cells #[.int .i64 (tn : Int), .int .i64 (tt : Int), .bool ts] 50)))
    have hS2 : S3v b tn tt ts _ := s3v H2.out
    first | refine Or.inl ⟨hS2, ?_⟩ | refine ⟨hS2, ?_⟩ | (change wpAnyH _ _ _ _ _ _ _ _ _) | refine Or.inl ?_
    have hR : Hid (∀ j u, (lvC ⟨tn, tt, ts⟩)[j]? = some u → (V0.alloc (.cells #[.int .i64 (tn : Int), .int .i64 (tt : Int), .bool ts] 50)).cell? ⟨V0.heap.size, j, none⟩ = some u) := hideL (fun j u hu => by
      rw [World.cell?_alloc_new, ← hu]
      exact List.getElem?_toArray)
    generalize (V0.alloc (.cells #[.int .i64 (tn : Int), .int .i64 (tt : Int), .bool ts] 50)) = V1 at *
    clear HD hS
    refine wpAnyH_all (rs := [10]) (by kernel_rfl) (by simp) ?_
    intro i' hi'
    obtain rfl : i' = 10 := by simpa using hi'
    refine wpOp_inL rfl rfl ?_
    refine wp_lvl (w0 := w0) (.tmp 6) (.tmp 11) rfl ⟨tn, tt, ts⟩ V0.heap.size rfl H2.out.own H2.out.kept rfl hR.out hm ?_
    intro v' V2 ho2 k2 hb2
    have hB := hb2 _ _ _ H2.out.blk
    have hC8 := mc_at hB
    have hS3 : S3v b tn tt ts V2 := ⟨hC8.1, hC8.2.1, hC8.2.2.1⟩
    refine ⟨hS3, ?_⟩
    simp only [Act.put, List.setIfInBounds_toArray]
    refine takeZ (i := 11) (d := 13) (v := .pointer (some ⟨b, 0, none⟩)) rfl rfl (by kernel_rfl) (by kernel_rfl) (by kernel_rfl) (fun _ _ _ h => h) (Or.inl ⟨by rfl, fun W hW => ?_⟩) hS3 ?_
    · (go_simp)
    simp only [Act.put]
    refine takeZ (i := 12) (d := 14) (v := .pointer (some ⟨b, 7, none⟩)) rfl rfl (by kernel_rfl) (by kernel_rfl) (by kernel_rfl) (fun _ _ _ h => h) (Or.inl ⟨by rfl, fun W hW => ?_⟩) hS3 ?_
    · (go_simp)
    simp only [Act.put]
    refine wpAnyH_all (rs := [13]) (by kernel_rfl) (by simp) ?_
    intro i' hi'
    obtain rfl : i' = 13 := by simpa using hi'
    have c7 := hC8.2.2.2
    have f7 : V2.frozen? ⟨b, 7, none⟩ = false := by simp [World.frozen?, hB]
    have hsh : ∃ a' c', v' = .slice a' (ou.length + 1) c' := by
      rcases ho2.2 with ⟨_, e2⟩ | ⟨g, cap, cur, rfl, _⟩
      · omega
      · exact ⟨_, _, rfl⟩
    have hne : v'.ownBlock ≠ some b := by
      intro x
      rcases ho2.2 with ⟨rfl, _⟩ | ⟨g, cap, cur, rfl, _, hg, _⟩
      · simp [Value.ownBlock] at x
      · simp [Value.ownBlock] at x
        subst x
        rw [hB] at hg
        simp at hg
    have HF : Hid (Mc w0 (V2.setCell ⟨b, 7, none⟩ v') b rc a0 R v' ⟨at0, mi, ne, ⟨tn, tt, ts⟩, ⟨tn, tt, ts⟩ :: ou⟩) := hideL ⟨heap_setCell_same V2 b 7 _ _ v' hB, by rw [List.reverse_cons]; exact ownsRow_setCell_other ho2 hne _, k2.trans (Kept.setCell _ _ _) (fun i hi => .inr (by have := H2.out.hb; simp only at hi; omega)), H2.out.hb, H2.out.row, H2.out.ha, H2.out.hr, H2.out.hm⟩
    obtain ⟨a', c', rfl⟩ := hsh
    have hSF : S3v b tn tt ts _ := s3v HF.out
    clear H2 hR ho2 k2 hb2 hS2 hne hC8 hB
    unfold wpOp
    go_simp
    first | refine Or.inl ⟨hSF, ?_⟩ | refine ⟨hSF, ?_⟩ | (change wpAnyH _ _ _ _ _ _ _ _ _) | refine Or.inl ?_
    refine wpAnyH_done (by kernel_rfl) ?_ _
    clear hS3 hSF c7 f7
    generalize V2.setCell ⟨b, 7, none⟩ (.slice a' (ou.length + 1) c') = V3 at *
    obtain ⟨-, -, -, -, x4, x5, x6, -⟩ := HF.out.cells
    have f4 := HF.out.free 4
    have f5 := HF.out.free 5
    have f6 := HF.out.free 6
    have HE := hideL ((((HF.out.setTn 0 0 rfl).setTt 0 0 rfl).setTs false))
    dsimp only at x4 x5 x6
    clear HF
    go_wp2_with fail
    first | go_ret | go_ret2 | go_end0
    exact ⟨rfl, _, HE.out⟩
  · unfold wpOp
    go_simp
    have H2 := hideL (HD.out.later (Kept.alloc V0 (.cells #[.int .i64 (tn : Int), .int .i64 (tt : Int), .bool ts] 50)))
    have hS2 : S3v b tn tt ts _ := s3v H2.out
    first | refine Or.inl ⟨hS2, ?_⟩ | refine ⟨hS2, ?_⟩ | (change wpAnyH _ _ _ _ _ _ _ _ _) | refine Or.inl ?_
    have hR : Hid (∀ j u, (lvC ⟨tn, tt, ts⟩)[j]? = some u → (V0.alloc (.cells #[.int .i64 (tn : Int), .int .i64 (tt : Int), .bool ts] 50)).cell? ⟨V0.heap.size, j, none⟩ = some u) := hideL (fun j u hu => by
      rw [World.cell?_alloc_new, ← hu]
      exact List.getElem?_toArray)
    generalize (V0.alloc (.cells #[.int .i64 (tn : Int), .int .i64 (tt : Int), .bool ts] 50)) = V1 at *
    clear HD hS
    refine wpAnyH_all (rs := [4]) (by kernel_rfl) (by simp) ?_
    intro i' hi'
    obtain rfl : i' = 4 := by simpa using hi'
    have c7 := H2.out.cells.2.2.2.2.2.2.2
    unfold wpOp
    go_simp
    first | refine Or.inl ⟨hS2, ?_⟩ | refine ⟨hS2, ?_⟩ | (change wpAnyH _ _ _ _ _ _ _ _ _) | refine Or.inl ?_
    clear c7
    refine wpAnyH_all (rs := [10]) (by kernel_rfl) (by simp) ?_
    intro i' hi'
    obtain rfl : i' = 10 := by simpa using hi'
    refine wpOp_inL rfl rfl ?_
    refine wp_lvl (w0 := w0) (.tmp 6) (.tmp 11) rfl ⟨tn, tt, ts⟩ V0.heap.size rfl H2.out.own H2.out.kept rfl hR.out hm ?_
    intro v' V2 ho2 k2 hb2
    have hB := hb2 _ _ _ H2.out.blk
    have hC8 := mc_at hB
    have hS3 : S3v b tn tt ts V2 := ⟨hC8.1, hC8.2.1, hC8.2.2.1⟩
    refine ⟨hS3, ?_⟩
    simp only [Act.put, List.setIfInBounds_toArray]
    refine takeZ (i := 11) (d := 13) (v := .pointer (some ⟨b, 0, none⟩)) rfl rfl (by kernel_rfl) (by kernel_rfl) (by kernel_rfl) (fun _ _ _ h => h) (Or.inl ⟨by rfl, fun W hW => ?_⟩) hS3 ?_
    · (go_simp)
    simp only [Act.put]
    refine takeZ (i := 12) (d := 14) (v := .pointer (some ⟨b, 7, none⟩)) rfl rfl (by kernel_rfl) (by kernel_rfl) (by kernel_rfl) (fun _ _ _ h => h) (Or.inl ⟨by rfl, fun W hW => ?_⟩) hS3 ?_
    · (go_simp)
    simp only [Act.put]
    refine wpAnyH_all (rs := [13]) (by kernel_rfl) (by simp) ?_
    intro i' hi'
    obtain rfl : i' = 13 := by simpa using hi'
    have c7 := hC8.2.2.2
    have f7 : V2.frozen? ⟨b, 7, none⟩ = false := by simp [World.frozen?, hB]
    have hsh : ∃ a' c', v' = .slice a' (ou.length + 1) c' := by
      rcases ho2.2 with ⟨_, e2⟩ | ⟨g, cap, cur, rfl, _⟩
      · omega
      · exact ⟨_, _, rfl⟩
    have hne : v'.ownBlock ≠ some b := by
      intro x
      rcases ho2.2 with ⟨rfl, _⟩ | ⟨g, cap, cur, rfl, _, hg, _⟩
      · simp [Value.ownBlock] at x
      · simp [Value.ownBlock] at x
        subst x
        rw [hB] at hg
        simp at hg
    have HF : Hid (Mc w0 (V2.setCell ⟨b, 7, none⟩ v') b rc a0 R v' ⟨at0, mi, ne, ⟨tn, tt, ts⟩, ⟨tn, tt, ts⟩ :: ou⟩) := hideL ⟨heap_setCell_same V2 b 7 _ _ v' hB, by rw [List.reverse_cons]; exact ownsRow_setCell_other ho2 hne _, k2.trans (Kept.setCell _ _ _) (fun i hi => .inr (by have := H2.out.hb; simp only at hi; omega)), H2.out.hb, H2.out.row, H2.out.ha, H2.out.hr, H2.out.hm⟩
    obtain ⟨a', c', rfl⟩ := hsh
    have hSF : S3v b tn tt ts _ := s3v HF.out
    clear H2 hR ho2 k2 hb2 hS2 hne hC8 hB
    unfold wpOp
    go_simp
    first | refine Or.inl ⟨hSF, ?_⟩ | refine ⟨hSF, ?_⟩ | (change wpAnyH _ _ _ _ _ _ _ _ _) | refine Or.inl ?_
    refine wpAnyH_done (by kernel_rfl) ?_ _
    clear hS3 hSF c7 f7
    generalize V2.setCell ⟨b, 7, none⟩ (.slice a' (ou.length + 1) c') = V3 at *
    obtain ⟨-, -, -, -, x4, x5, x6, -⟩ := HF.out.cells
    have f4 := HF.out.free 4
    have f5 := HF.out.free 5
    have f6 := HF.out.free 6
    have HE := hideL ((((HF.out.setTn 0 0 rfl).setTt 0 0 rfl).setTs false))
    dsimp only at x4 x5 x6
    clear HF
    go_wp2_with fail
    first | go_ret | go_ret2 | go_end0
    exact ⟨rfl, _, HE.out⟩
end Go.Proofs.YtiemiphlfbaojaaDoor
