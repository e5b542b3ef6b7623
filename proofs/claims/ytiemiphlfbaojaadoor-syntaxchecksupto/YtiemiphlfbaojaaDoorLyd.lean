import Derived.Test.YtiemiphlfbaojaaDoorLyc
import Derived.Test.YtiemiphlfbaojaaDoorAnyz
namespace Go.Proofs.YtiemiphlfbaojaaDoor
open Go.ChangeShapes Go.WideShapes Go.ChangeAt Go.RowKit

theorem wpOp_inL {P : Program} {ops : Array Oper} {Q : Exit → Act → World → Prop} {i : Nat} {o : Oper} {K : Act → World → Prop} {a : Act} {w : World} (hi : ops[i]? = some o) (hgd : o.guard = none) (h : o.wp P a w K Q) : wpOp P ops Q i K a w := by
  have hw : Region.wanted o (yielded ops a.tmps) = true := by simp [Region.wanted, hgd]
  unfold wpOp
  rw [hi]
  simp only
  rw [if_pos hw]
  exact .inl h
variable {w0 w w' : World} {b : Nat} {l : List UInt8} {p k : Nat} {t : List UInt8} {n : Int} {a e : Nat} {v : Value} {m : Nat} {L : List Lx}
theorem sc_at {V : World} {x0 x1 x2 x3 x4 x5 x6 x7 : Value} (hW : V.heap[b]? = some (.cells #[x0, x1, x2, x3, x4, x5, x6, x7] 67 (0, 0))) : V.cell? ⟨b, 0, none⟩ = some x0 ∧ V.cell? ⟨b, 1, none⟩ = some x1 ∧ V.cell? ⟨b, 2, none⟩ = some x2 ∧ V.cell? ⟨b, 3, none⟩ = some x3 ∧ V.cell? ⟨b, 4, none⟩ = some x4 ∧ V.cell? ⟨b, 5, none⟩ = some x5 ∧ V.cell? ⟨b, 6, none⟩ = some x6 ∧ V.cell? ⟨b, 7, none⟩ = some x7 := by
  have hc := fun j => cell_of_row V b j _ _ _ hW
  refine ⟨?_, ?_, ?_, ?_, ?_, ?_, ?_, ?_⟩ <;> (rw [hc]; rfl)
theorem Tryd.infoLx : (Tryd.prog.info? 59).map (fun i => (i.zero, i.size, i.bytes)) = some (some (.agg #[.int .i64 0, .string ⟨#[]⟩, .int .i64 0, .int .i64 0, .int .i64 0]), 5, 48) := by kernel_rfl
/-- 'append(s, x)' of a token, as one operation; the block of a scanner stays. -/
theorem wp_lex {W : World} {o : Oper} {act : Act} {K : Act → World → Prop} {Q : Exit → Act → World → Prop} (s x : Operand)
    (ho : o.op = .call { callee := .builtin .append, args := #[s, x], argTypes := #[31, 31] }) (y : Lx) (g : Nat) (hs : act.eval s = v) (hG : W.ownsRow w0.heap.size 59 5 v m (lxv L)) (k0 : Kept (fun _ => False) w0 W) (hx : act.eval x = .slice (some ⟨g, 0, none⟩) 1 1)
    (hc : ∀ j u, (lv1 y)[j]? = some u → W.cell? ⟨g, j, none⟩ = some u) (hm : m ≤ 1000000000000)
    (h : ∀ v' W', W'.ownsRow w0.heap.size 59 5 v' (m + 1) (lxv (L ++ [y])) → Kept (fun _ => False) w0 W' → (∀ (b : Nat) cs fz, W.heap[b]? = some (.cells cs 67 fz) → W'.heap[b]? = some (.cells cs 67 fz)) → K (act.put o.dst v') W') : o.wp Tryd.prog act W K Q := by
  obtain ⟨i0, hi, hz0, hz1, hz2⟩ := info_partsL Tryd.infoLx
  have hplain : ∀ j, (⟨g, 0, none⟩ : Addr).add j = ⟨g, j, none⟩ := fun j => by unfold Addr.add; split <;> simp_all
  refine wp_append_own W s x 31 ho w0.heap.size 59 i0 (.agg #[.int .i64 0, .string ⟨#[]⟩, .int .i64 0, .int .i64 0, .int .i64 0]) 5 48 Tryd.underlying31 hi hz0 hz1 hz2 rfl (by decide) v m (lxv L) hs hG ⟨g, 0, none⟩ 1 1 (lv1 y) hx rfl (fun j u hu => by rw [hplain]; exact hc j u hu) ?_ (by unfold maxLen; omega) (by omega) k0.size ?_
  · intro u hu
    simp [lv1] at hu
    rcases hu with rfl | rfl | rfl | rfl | rfl <;> rfl
  · intro v' W' ho2 hg2 _
    refine h v' W' ?_ (k0.trans (Kept.grown hg2) (fun i hi => .inr (hG.lt i hi).1)) (fun b cs fz hb => (Kept.grown hg2).heap hb (fun hk => ?_))
    · rw [lxv_append]
      have e : lxv [y] = lv1 y := List.append_nil _
      rw [e]
      exact ho2
    · rcases hG.2 with ⟨hn, _⟩ | ⟨g', cap, cur, e, _, hgg, _⟩
      · rw [hn] at hk; simp [Value.ownBlock] at hk
      · rw [e] at hk
        simp [Value.ownBlock] at hk
        subst hk
        rw [hb] at hgg
        simp at hgg
/-- The token under way. -/
def S5 (b k : Nat) (t : List UInt8) (n : Int) (a p : Nat) (V : World) : Prop := V.cell? ⟨b, 2, none⟩ = some (.int .i64 (k : Int)) ∧ V.cell? ⟨b, 3, none⟩ = some (.string (bq t)) ∧ V.cell? ⟨b, 4, none⟩ = some (.int .i64 n) ∧ V.cell? ⟨b, 5, none⟩ = some (.int .i64 (a : Int)) ∧ V.cell? ⟨b, 6, none⟩ = some (.int .i64 (p : Int))
theorem s5 (h : Sc w0 w b l p k t n a e v m L) : S5 b k t n a e w := by
  obtain ⟨x0, x1, x2, x3, x4, x5, x6, x7⟩ := h.cells
  exact ⟨x2, x3, x4, x5, x6⟩
set_option maxRecDepth 20000 in
set_option maxHeartbeats 4000000 in
theorem end_any (h : Sc w0 w b l p k t n a e v m L) (hm : m ≤ 1000000000000) :
    Calls Tryd.prog 49 #[.pointer (some ⟨b, 0, none⟩)] w fun x w' => x = .returned (.tuple #[]) ∧ ∃ v', Sc w0 w' b l p k t n a p v' (m + 1) (L ++ [⟨k, t, n, a, p⟩]) := by
  have H1 := hideL (h.setE p (p : Int) rfl)
  obtain ⟨x0, x1, x2, x3, x4, x5, x6, x7⟩ := h.cells
  have f6 := h.free 6
  clear h x0 x2 x3 x4 x5 x7
  go_enter Tryd.func49, Tryd.ntmps49
  go_wp2_with fail
  clear x1 x6 f6
  generalize w.setCell ⟨b, 6, none⟩ (.int .i64 (p : Int)) = W1 at *
  refine wp_region_held (S := S5 b k t n a p) (by kernel_rfl) ?_
  change wpAnyH _ _ _ _ _ _ _ _ (World.drew _)
  have HD := hideL (H1.out.later (Kept.drew W1))
  clear H1
  generalize W1.drew = V0 at *
  have hS := s5 HD.out
  refine takeZ (i := 0) (d := 10) (v := .pointer (some ⟨b, 0, none⟩)) rfl rfl (by kernel_rfl) (by kernel_rfl) (by kernel_rfl) (fun _ _ _ h => h) (Or.inl ⟨by rfl, fun W hW => ?_⟩) hS ?_
  · (go_simp)
  simp only [Act.put, List.setIfInBounds_toArray, List.set_cons_zero, List.set_cons_succ]
  refine takeZ (i := 1) (d := 11) (v := .pointer (some ⟨b, 0, none⟩)) rfl rfl (by kernel_rfl) (by kernel_rfl) (by kernel_rfl) (fun _ _ _ h => h) (Or.inl ⟨by rfl, fun W hW => ?_⟩) hS ?_
  · (go_simp)
  simp only [Act.put, List.setIfInBounds_toArray, List.set_cons_zero, List.set_cons_succ]
  refine takeZ (i := 2) (d := 12) (v := .pointer (some ⟨b, 0, none⟩)) rfl rfl (by kernel_rfl) (by kernel_rfl) (by kernel_rfl) (fun _ _ _ h => h) (Or.inl ⟨by rfl, fun W hW => ?_⟩) hS ?_
  · (go_simp)
  simp only [Act.put, List.setIfInBounds_toArray, List.set_cons_zero, List.set_cons_succ]
  refine takeZ (i := 3) (d := 13) (v := .pointer (some ⟨b, 7, none⟩)) rfl rfl (by kernel_rfl) (by kernel_rfl) (by kernel_rfl) (fun _ _ _ h => h) (Or.inl ⟨by rfl, fun W hW => ?_⟩) hS ?_
  · (go_simp)
  simp only [Act.put, List.setIfInBounds_toArray, List.set_cons_zero, List.set_cons_succ]
  refine takeZ (i := 5) (d := 15) (v := .pointer (some ⟨b, 0, none⟩)) rfl rfl (by kernel_rfl) (by kernel_rfl) (by kernel_rfl) (fun _ _ _ h => h) (Or.inl ⟨by rfl, fun W hW => ?_⟩) hS ?_
  · (go_simp)
  simp only [Act.put, List.setIfInBounds_toArray, List.set_cons_zero, List.set_cons_succ]
  refine takeZ (i := 6) (d := 16) (v := .pointer (some ⟨b, 0, none⟩)) rfl rfl (by kernel_rfl) (by kernel_rfl) (by kernel_rfl) (fun _ _ _ h => h) (Or.inl ⟨by rfl, fun W hW => ?_⟩) hS ?_
  · (go_simp)
  simp only [Act.put, List.setIfInBounds_toArray, List.set_cons_zero, List.set_cons_succ]
  refine takeZ (i := 7) (d := 17) (v := .pointer (some ⟨b, 2, none⟩)) rfl rfl (by kernel_rfl) (by kernel_rfl) (by kernel_rfl) (fun _ _ _ h => h) (Or.inl ⟨by rfl, fun W hW => ?_⟩) hS ?_
  · (go_simp)
  simp only [Act.put, List.setIfInBounds_toArray, List.set_cons_zero, List.set_cons_succ]
  refine takeZ (i := 8) (d := 18) (v := .agg #[.int .i64 (k : Int), .string (bq t), .int .i64 n, .int .i64 (a : Int), .int .i64 (p : Int)]) rfl rfl (by kernel_rfl) (by kernel_rfl) (by kernel_rfl) (fun _ _ _ h => h) (Or.inl ⟨by rfl, fun W hW => ?_⟩) hS ?_
  · (obtain ⟨x2, x3, x4, x5, x6⟩ := hW; go_simp)
  simp only [Act.put, List.setIfInBounds_toArray, List.set_cons_zero, List.set_cons_succ]
  refine wpAnyH_all (rs := [4, 9]) (by kernel_rfl) (by simp) ?_
  intro i' hi'
  obtain rfl | rfl : i' = 4 ∨ i' = 9 := by simpa using hi'
  · have c7 := HD.out.cells.2.2.2.2.2.2.2
    unfold wpOp
    go_simp
    first | refine Or.inl ⟨hS, ?_⟩ | refine ⟨hS, ?_⟩ | (change wpAnyH _ _ _ _ _ _ _ _ _) | refine Or.inl ?_
    clear c7
    refine wpAnyH_all (rs := [9]) (by kernel_rfl) (by simp) ?_
    intro i' hi'
    obtain rfl : i' = 9 := by simpa using hi'
    unfold wpOp
    go_simp
    have H2 := hideL (HD.out.later (Kept.alloc V0 (.cells #[.int .i64 (k : Int), .string (bq t), .int .i64 n, .int .i64 (a : Int), .int .i64 (p : Int)] 59)))
    have hS2 := s5 H2.out
    first | refine Or.inl ⟨hS2, ?_⟩ | refine ⟨hS2, ?_⟩ | (change wpAnyH _ _ _ _ _ _ _ _ _) | refine Or.inl ?_
    have hR : Hid (∀ j u, (lv1 ⟨k, t, n, a, p⟩)[j]? = some u → (V0.alloc (.cells #[.int .i64 (k : Int), .string (bq t), .int .i64 n, .int .i64 (a : Int), .int .i64 (p : Int)] 59)).cell? ⟨V0.heap.size, j, none⟩ = some u) := hideL (fun j u hu => by
      rw [World.cell?_alloc_new, ← hu]
      exact List.getElem?_toArray)
    generalize (V0.alloc (.cells #[.int .i64 (k : Int), .string (bq t), .int .i64 n, .int .i64 (a : Int), .int .i64 (p : Int)] 59)) = V1 at *
    clear HD hS
    refine wpAnyH_all (rs := [10]) (by kernel_rfl) (by simp) ?_
    intro i' hi'
    obtain rfl : i' = 10 := by simpa using hi'
    refine wpOp_inL rfl rfl ?_
    refine wp_lex (w0 := w0) (.tmp 14) (.tmp 19) rfl ⟨k, t, n, a, p⟩ V0.heap.size rfl H2.out.own H2.out.kept rfl hR.out hm ?_
    intro v' V2 ho2 k2 hb2
    have hB := hb2 _ _ _ H2.out.blk
    have hC8 := sc_at hB
    have hS3 : S5 b k t n a p V2 := ⟨hC8.2.2.1, hC8.2.2.2.1, hC8.2.2.2.2.1, hC8.2.2.2.2.2.1, hC8.2.2.2.2.2.2.1⟩
    refine ⟨hS3, ?_⟩
    simp only [Act.put, List.setIfInBounds_toArray]
    refine takeZ (i := 11) (d := 21) (v := .pointer (some ⟨b, 0, none⟩)) rfl rfl (by kernel_rfl) (by kernel_rfl) (by kernel_rfl) (fun _ _ _ h => h) (Or.inl ⟨by rfl, fun W hW => ?_⟩) hS3 ?_
    · (go_simp)
    simp only [Act.put]
    refine takeZ (i := 12) (d := 22) (v := .pointer (some ⟨b, 7, none⟩)) rfl rfl (by kernel_rfl) (by kernel_rfl) (by kernel_rfl) (fun _ _ _ h => h) (Or.inl ⟨by rfl, fun W hW => ?_⟩) hS3 ?_
    · (go_simp)
    simp only [Act.put]
    refine wpAnyH_all (rs := [13]) (by kernel_rfl) (by simp) ?_
    intro i' hi'
    obtain rfl : i' = 13 := by simpa using hi'
    have c7 := hC8.2.2.2.2.2.2.2
    have f7 : V2.frozen? ⟨b, 7, none⟩ = false := by simp [World.frozen?, hB]
    have hne : v'.ownBlock ≠ some b := by
      intro x
      rcases ho2.2 with ⟨rfl, _⟩ | ⟨g, cap, cur, rfl, _, hg, _⟩
      · simp [Value.ownBlock] at x
      · simp [Value.ownBlock] at x
        subst x
        rw [hB] at hg
        simp at hg
    have hsh : ∃ a' c', v' = .slice a' (m + 1) c' := by
      rcases ho2.2 with ⟨_, e2⟩ | ⟨g, cap, cur, rfl, _⟩
      · omega
      · exact ⟨_, _, rfl⟩
    have HF : Hid (Sc w0 (V2.setCell ⟨b, 7, none⟩ v') b l p k t n a p v' (m + 1) (L ++ [⟨k, t, n, a, p⟩])) := hideL ⟨heap_setCell_same V2 b 7 _ _ v' hB, ownsRow_setCell_other ho2 hne _, by rw [List.length_append, H2.out.len]; rfl, k2.trans (Kept.setCell _ _ _) (fun i hi => .inr (by have := H2.out.hb; simp only at hi; omega)), H2.out.hb⟩
    obtain ⟨a', c', rfl⟩ := hsh
    have hSF := s5 HF.out
    clear H2 hR ho2 k2 hb2 hS2 hne hC8 hB
    unfold wpOp
    go_simp
    first | refine Or.inl ⟨hSF, ?_⟩ | refine ⟨hSF, ?_⟩ | (change wpAnyH _ _ _ _ _ _ _ _ _) | refine Or.inl ?_
    refine wpAnyH_done (by kernel_rfl) ?_ _
    go_wp2
    first | go_ret | go_ret2 | go_end0
    exact ⟨rfl, _, HF.out⟩
  · unfold wpOp
    go_simp
    have H2 := hideL (HD.out.later (Kept.alloc V0 (.cells #[.int .i64 (k : Int), .string (bq t), .int .i64 n, .int .i64 (a : Int), .int .i64 (p : Int)] 59)))
    have hS2 := s5 H2.out
    first | refine Or.inl ⟨hS2, ?_⟩ | refine ⟨hS2, ?_⟩ | (change wpAnyH _ _ _ _ _ _ _ _ _) | refine Or.inl ?_
    have hR : Hid (∀ j u, (lv1 ⟨k, t, n, a, p⟩)[j]? = some u → (V0.alloc (.cells #[.int .i64 (k : Int), .string (bq t), .int .i64 n, .int .i64 (a : Int), .int .i64 (p : Int)] 59)).cell? ⟨V0.heap.size, j, none⟩ = some u) := hideL (fun j u hu => by
      rw [World.cell?_alloc_new, ← hu]
      exact List.getElem?_toArray)
    generalize (V0.alloc (.cells #[.int .i64 (k : Int), .string (bq t), .int .i64 n, .int .i64 (a : Int), .int .i64 (p : Int)] 59)) = V1 at *
    clear HD hS
    refine wpAnyH_all (rs := [4]) (by kernel_rfl) (by simp) ?_
    intro i' hi'
    obtain rfl : i' = 4 := by simpa using hi'
    have c7 := H2.out.cells.2.2.2.2.2.2.2
    unfold wpOp
    go_simp
    first | refine Or.inl ⟨hS2, ?_⟩ | refine ⟨hS2, ?_⟩ | (change wpAnyH _ _ _ _ _ _ _ _ _) | refine Or.inl ?_
    clear c7
    refine wpAnyH_all (rs := [10]) (by kernel_rfl) (by simp) ?_
    intro i' hi'
    obtain rfl : i' = 10 := by simpa using hi'
    refine wpOp_inL rfl rfl ?_
    refine wp_lex (w0 := w0) (.tmp 14) (.tmp 19) rfl ⟨k, t, n, a, p⟩ V0.heap.size rfl H2.out.own H2.out.kept rfl hR.out hm ?_
    intro v' V2 ho2 k2 hb2
    have hB := hb2 _ _ _ H2.out.blk
    have hC8 := sc_at hB
    have hS3 : S5 b k t n a p V2 := ⟨hC8.2.2.1, hC8.2.2.2.1, hC8.2.2.2.2.1, hC8.2.2.2.2.2.1, hC8.2.2.2.2.2.2.1⟩
    refine ⟨hS3, ?_⟩
    simp only [Act.put, List.setIfInBounds_toArray]
    refine takeZ (i := 11) (d := 21) (v := .pointer (some ⟨b, 0, none⟩)) rfl rfl (by kernel_rfl) (by kernel_rfl) (by kernel_rfl) (fun _ _ _ h => h) (Or.inl ⟨by rfl, fun W hW => ?_⟩) hS3 ?_
    · (go_simp)
    simp only [Act.put]
    refine takeZ (i := 12) (d := 22) (v := .pointer (some ⟨b, 7, none⟩)) rfl rfl (by kernel_rfl) (by kernel_rfl) (by kernel_rfl) (fun _ _ _ h => h) (Or.inl ⟨by rfl, fun W hW => ?_⟩) hS3 ?_
    · (go_simp)
    simp only [Act.put]
    refine wpAnyH_all (rs := [13]) (by kernel_rfl) (by simp) ?_
    intro i' hi'
    obtain rfl : i' = 13 := by simpa using hi'
    have c7 := hC8.2.2.2.2.2.2.2
    have f7 : V2.frozen? ⟨b, 7, none⟩ = false := by simp [World.frozen?, hB]
    have hne : v'.ownBlock ≠ some b := by
      intro x
      rcases ho2.2 with ⟨rfl, _⟩ | ⟨g, cap, cur, rfl, _, hg, _⟩
      · simp [Value.ownBlock] at x
      · simp [Value.ownBlock] at x
        subst x
        rw [hB] at hg
        simp at hg
    have hsh : ∃ a' c', v' = .slice a' (m + 1) c' := by
      rcases ho2.2 with ⟨_, e2⟩ | ⟨g, cap, cur, rfl, _⟩
      · omega
      · exact ⟨_, _, rfl⟩
    have HF : Hid (Sc w0 (V2.setCell ⟨b, 7, none⟩ v') b l p k t n a p v' (m + 1) (L ++ [⟨k, t, n, a, p⟩])) := hideL ⟨heap_setCell_same V2 b 7 _ _ v' hB, ownsRow_setCell_other ho2 hne _, by rw [List.length_append, H2.out.len]; rfl, k2.trans (Kept.setCell _ _ _) (fun i hi => .inr (by have := H2.out.hb; simp only at hi; omega)), H2.out.hb⟩
    obtain ⟨a', c', rfl⟩ := hsh
    have hSF := s5 HF.out
    clear H2 hR ho2 k2 hb2 hS2 hne hC8 hB
    unfold wpOp
    go_simp
    first | refine Or.inl ⟨hSF, ?_⟩ | refine ⟨hSF, ?_⟩ | (change wpAnyH _ _ _ _ _ _ _ _ _) | refine Or.inl ?_
    refine wpAnyH_done (by kernel_rfl) ?_ _
    go_wp2
    first | go_ret | go_ret2 | go_end0
    exact ⟨rfl, _, HF.out⟩
end Go.Proofs.YtiemiphlfbaojaaDoor
