import Derived.Test.YtiemiphlfbaojaaDoorMrg14
import Derived.Test.YtiemiphlfbaojaaDoorLyd
import Derived.Test.YtiemiphlfbaojaaDoorAua
namespace Go.Proofs.YtiemiphlfbaojaaDoor
open Go.ChangeShapes Go.WideShapes Go.ChangeAt Go.RowKit
variable {w0 w w' : World} {g : Nat}
theorem Tryd.infoNd : (Tryd.prog.info? 39).map (fun i => (i.zero, i.size, i.bytes)) = some (some (.agg #[.int .i64 0, .string ⟨#[]⟩, .string ⟨#[]⟩, .int .i64 0, .bool false, .bool false, .string ⟨#[]⟩, .bool false, .bool false, .string ⟨#[]⟩, .slice none 0 0, .slice none 0 0]), 12, 144) := by kernel_rfl
/-- 'append(nil, x)' of a node, as one operation. -/
theorem wp_node {W : World} {o : Oper} {act : Act} {K : Act → World → Prop} {Q : Exit → Act → World → Prop} (s x : Operand)
    (ho : o.op = .call { callee := .builtin .append, args := #[s, x], argTypes := #[37, 37] }) (g : Nat) (hs : act.eval s = .slice none 0 0) (hx : act.eval x = .slice (some ⟨g, 0, none⟩) 1 1)
    (hc : ∀ j u, ([.int .i64 0, .string ⟨#[]⟩, .string ⟨#[]⟩, .int .i64 0, .bool false, .bool false, .string ⟨#[]⟩, .bool false, .bool false, .string ⟨#[]⟩, .slice none 0 0, .slice none 0 0] : List Value)[j]? = some u → W.cell? ⟨g, j, none⟩ = some u)
    (h : ∀ kb kc W' cur, W.heap.size ≤ kb → W'.heap[kb]? = some (.cells cur 39 (0, 0)) → cur.toList.take 12 = [.int .i64 0, .string ⟨#[]⟩, .string ⟨#[]⟩, .int .i64 0, .bool false, .bool false, .string ⟨#[]⟩, .bool false, .bool false, .string ⟨#[]⟩, .slice none 0 0, .slice none 0 0] → Kept (fun _ => False) W W' → K (act.put o.dst (.slice (some ⟨kb, 0, none⟩) 1 kc)) W') : o.wp Tryd.prog act W K Q := by
  obtain ⟨i0, hi, hz0, hz1, hz2⟩ := info_partsL Tryd.infoNd
  have hplain : ∀ j, (⟨g, 0, none⟩ : Addr).add j = ⟨g, j, none⟩ := fun j => by unfold Addr.add; split <;> simp_all
  refine wp_append_own W s x 37 ho W.heap.size 39 i0 (.agg #[.int .i64 0, .string ⟨#[]⟩, .string ⟨#[]⟩, .int .i64 0, .bool false, .bool false, .string ⟨#[]⟩, .bool false, .bool false, .string ⟨#[]⟩, .slice none 0 0, .slice none 0 0]) 12 144 Tryd.underlying37 hi hz0 hz1 hz2 rfl (by decide) (.slice none 0 0) 0 [] hs ⟨rfl, .inl ⟨rfl, rfl⟩⟩ ⟨g, 0, none⟩ 1 1 [.int .i64 0, .string ⟨#[]⟩, .string ⟨#[]⟩, .int .i64 0, .bool false, .bool false, .string ⟨#[]⟩, .bool false, .bool false, .string ⟨#[]⟩, .slice none 0 0, .slice none 0 0] hx rfl (fun j u hu => by rw [hplain]; exact hc j u hu) ?_ (by unfold maxLen; omega) (by omega) (Nat.le_refl _) ?_
  · intro u hu
    simp at hu
    rcases hu with rfl | rfl | rfl | hu
    · rfl
    · rfl
    · rfl
    · rcases hu with rfl | rfl | rfl | rfl | rfl <;> rfl
  · intro v' W' ho2 hg2 _
    rcases ho2.2 with ⟨_, e2⟩ | ⟨kb, cap, cur, rfl, hbs, hgg, _, _, _, ht⟩
    · omega
    · exact h kb cap W' cur hbs hgg ht ((Kept.grown hg2).mono (fun i hi => .inl (by simp [Value.ownBlock] at hi)))
theorem node_at {W : World} {kb : Nat} {cur : Array Value} {t : TypeId} (h : W.heap[kb]? = some (.cells cur t (0, 0))) (ht : cur.toList.take 12 = [.int .i64 0, .string ⟨#[]⟩, .string ⟨#[]⟩, .int .i64 0, .bool false, .bool false, .string ⟨#[]⟩, .bool false, .bool false, .string ⟨#[]⟩, .slice none 0 0, .slice none 0 0]) : (∀ j u, ([.int .i64 0, .string ⟨#[]⟩, .string ⟨#[]⟩, .int .i64 0, .bool false, .bool false, .string ⟨#[]⟩, .bool false, .bool false, .string ⟨#[]⟩, .slice none 0 0, .slice none 0 0] : List Value)[j]? = some u → W.cell? ⟨kb, j, none⟩ = some u) ∧ (∀ i, W.frozen? ⟨kb, i, none⟩ = false) := by
  refine ⟨fun j u hu => ?_, fun i => by simp [World.frozen?, h]⟩
  rw [cell_of_row W kb j _ _ _ h]
  rw [← ht] at hu
  rw [List.getElem?_take] at hu
  split at hu
  · rw [← Array.getElem?_toList]; exact hu
  · cases hu
/-- The kid under way. -/
def KdS (k9 : Nat) (f t : ByteArray) (V : World) : Prop := V.heap[k9]? = some (.cells #[.int .i64 1, .string f, .string t, .int .i64 0, .bool false, .bool false, .string ⟨#[]⟩, .bool false, .bool false, .string ⟨#[]⟩, .slice none 0 0, .slice none 0 0, .int .i64 0] 75 (0, 0))
set_option maxRecDepth 20000 in
set_option maxHeartbeats 4000000 in
theorem padd_first {x0 x1 x2 x3 x4 x5 x6 x7 x8 x9 x10 : Value} (h : w.heap[g]? = some (.cells #[x0, x1, x2, x3, x4, x5, x6, x7, x8, x9, x10, .slice none 0 0, .int .i64 0] 75 (0, 0))) (f t : ByteArray) :
    Calls Tryd.prog 64 #[.pointer (some ⟨g, 0, none⟩), termP f t] w fun e w' => e = .returned (.tuple #[]) ∧ (∃ kb kc, w'.heap[g]? = some (.cells #[x0, x1, x2, x3, x4, x5, x6, x7, x8, x9, x10, .slice (some ⟨kb, 0, none⟩) 1 kc, .int .i64 0] 75 (0, 0)) ∧ w.heap.size ≤ kb ∧ w'.cell? ⟨kb, 2, none⟩ = some (.string t)) ∧ Kept (fun i => i = g) w w' := by
  have KA := Kept.alloc w (.cells #[.int .i64 1, .string f, .string t, .int .i64 0, .bool false, .bool false, .string ⟨#[]⟩, .bool false, .bool false, .string ⟨#[]⟩, .slice none 0 0, .slice none 0 0, .int .i64 0] 75)
  have hk := heap_alloc_new w (.cells #[.int .i64 1, .string f, .string t, .int .i64 0, .bool false, .bool false, .string ⟨#[]⟩, .bool false, .bool false, .string ⟨#[]⟩, .slice none 0 0, .slice none 0 0, .int .i64 0] 75)
  have hlt : g < w.heap.size := (Array.getElem?_eq_some_iff.mp h).1
  have hx := KA.heap h (fun f => f)
  unfold termP
  clear h
  go_enter Tryd.func64, Tryd.ntmps64
  go_wp2_with fail
  generalize w.alloc (.cells #[.int .i64 1, .string f, .string t, .int .i64 0, .bool false, .bool false, .string ⟨#[]⟩, .bool false, .bool false, .string ⟨#[]⟩, .slice none 0 0, .slice none 0 0, .int .i64 0] 75) = V at *
  generalize hge : w.heap.size = k9 at hk hlt ⊢
  have HG9 : Hid (w.heap.size = k9) := hideL hge
  have HL : Hid (g < k9) := hideL hlt
  clear hge
  refine wp_region_held (S := KdS k9 f t) (by kernel_rfl) ?_
  change wpAnyH _ _ _ _ _ _ _ _ (World.drew _)
  have KD := hideL (KA.trans (Kept.drew V) (fun _ f => f.elim))
  have hS : KdS k9 f t V.drew := (Kept.drew V).heap hk (fun f => f)
  have HX := hideL ((Kept.drew V).heap hx (fun f => f))
  clear KA hk hx
  generalize V.drew = V0 at *
  refine takeZ (i := 0) (d := 4) (v := .pointer (some ⟨g, 0, none⟩)) rfl rfl (by kernel_rfl) (by kernel_rfl) (by kernel_rfl) (fun _ _ _ h => h) (Or.inl ⟨by rfl, fun W hW => ?_⟩) hS ?_
  · (go_simp)
  simp only [Act.put, List.setIfInBounds_toArray, List.set_cons_zero, List.set_cons_succ]
  refine takeZ (i := 1) (d := 5) (v := .pointer (some ⟨g, 0, none⟩)) rfl rfl (by kernel_rfl) (by kernel_rfl) (by kernel_rfl) (fun _ _ _ h => h) (Or.inl ⟨by rfl, fun W hW => ?_⟩) hS ?_
  · (go_simp)
  simp only [Act.put, List.setIfInBounds_toArray, List.set_cons_zero, List.set_cons_succ]
  refine takeZ (i := 2) (d := 6) (v := .pointer (some ⟨g, 0, none⟩)) rfl rfl (by kernel_rfl) (by kernel_rfl) (by kernel_rfl) (fun _ _ _ h => h) (Or.inl ⟨by rfl, fun W hW => ?_⟩) hS ?_
  · (go_simp)
  simp only [Act.put, List.setIfInBounds_toArray, List.set_cons_zero, List.set_cons_succ]
  refine takeZ (i := 3) (d := 7) (v := .pointer (some ⟨g, 11, none⟩)) rfl rfl (by kernel_rfl) (by kernel_rfl) (by kernel_rfl) (fun _ _ _ h => h) (Or.inl ⟨by rfl, fun W hW => ?_⟩) hS ?_
  · (go_simp)
  simp only [Act.put, List.setIfInBounds_toArray, List.set_cons_zero, List.set_cons_succ]
  refine takeZ (i := 5) (d := 9) (v := .pointer (some ⟨k9, 0, none⟩)) rfl rfl (by kernel_rfl) (by kernel_rfl) (by kernel_rfl) (fun _ _ _ h => h) (Or.inl ⟨by rfl, fun W hW => ?_⟩) hS ?_
  · (go_simp)
  simp only [Act.put, List.setIfInBounds_toArray, List.set_cons_zero, List.set_cons_succ]
  refine takeZ (i := 6) (d := 10) (v := .agg #[.int .i64 1, .string f, .string t, .int .i64 0, .bool false, .bool false, .string ⟨#[]⟩, .bool false, .bool false, .string ⟨#[]⟩, .slice none 0 0, .slice none 0 0]) rfl rfl (by kernel_rfl) (by kernel_rfl) (by kernel_rfl) (fun _ _ _ h => h) (Or.inl ⟨by rfl, fun W hW => ?_⟩) hS ?_
  · (obtain ⟨d0, d1, d2, d3, d4, d5, d6, d7, d8, d9, d10, d11, d12, -⟩ := part_cells hW; go_simp)
  simp only [Act.put, List.setIfInBounds_toArray, List.set_cons_zero, List.set_cons_succ]
  refine wpAnyH_all (rs := [4, 8]) (by kernel_rfl) (by simp) ?_
  intro i' hi'
  obtain rfl | rfl : i' = 4 ∨ i' = 8 := by simpa using hi'
  · obtain ⟨-, -, -, -, -, -, -, -, -, -, -, c11, -⟩ := part_cells HX.out
    unfold wpOp
    go_simp
    first | refine Or.inl ⟨hS, ?_⟩ | refine ⟨hS, ?_⟩ | (change wpAnyH _ _ _ _ _ _ _ _ _) | refine Or.inl ?_
    clear c11
    refine takeZ (i := 7) (d := 11) (v := .int .i64 0) rfl rfl (by kernel_rfl) (by kernel_rfl) (by kernel_rfl) (fun _ _ _ h => h) (Or.inl ⟨by rfl, fun W hW => ?_⟩) hS ?_
    · (go_simp)
    simp only [Act.put, List.setIfInBounds_toArray, List.set_cons_zero, List.set_cons_succ]
    refine wpAnyH_all (rs := [8]) (by kernel_rfl) (by simp) ?_
    intro i' hi'
    obtain rfl : i' = 8 := by simpa using hi'
    unfold wpOp
    go_simp
    have kA := Kept.alloc V0 (.cells #[.int .i64 0, .string ⟨#[]⟩, .string ⟨#[]⟩, .int .i64 0, .bool false, .bool false, .string ⟨#[]⟩, .bool false, .bool false, .string ⟨#[]⟩, .slice none 0 0, .slice none 0 0] 39)
    have HX2 := hideL (kA.heap HX.out (fun f => f))
    have hS2 : KdS k9 f t (V0.alloc (.cells #[.int .i64 0, .string ⟨#[]⟩, .string ⟨#[]⟩, .int .i64 0, .bool false, .bool false, .string ⟨#[]⟩, .bool false, .bool false, .string ⟨#[]⟩, .slice none 0 0, .slice none 0 0] 39)) := kA.heap hS (fun f => f)
    first | refine Or.inl ⟨hS2, ?_⟩ | refine ⟨hS2, ?_⟩ | (change wpAnyH _ _ _ _ _ _ _ _ _) | refine Or.inl ?_
    have hR : Hid (∀ j u, ([.int .i64 0, .string ⟨#[]⟩, .string ⟨#[]⟩, .int .i64 0, .bool false, .bool false, .string ⟨#[]⟩, .bool false, .bool false, .string ⟨#[]⟩, .slice none 0 0, .slice none 0 0] : List Value)[j]? = some u → (V0.alloc (.cells #[.int .i64 0, .string ⟨#[]⟩, .string ⟨#[]⟩, .int .i64 0, .bool false, .bool false, .string ⟨#[]⟩, .bool false, .bool false, .string ⟨#[]⟩, .slice none 0 0, .slice none 0 0] 39)).cell? ⟨V0.heap.size, j, none⟩ = some u) := hideL (fun j u hu => by
      rw [World.cell?_alloc_new, ← hu]
      exact List.getElem?_toArray)
    have KD2 := hideL (KD.out.trans kA (fun _ f => f.elim))
    have hz2 : V0.heap.size < (V0.alloc (.cells #[.int .i64 0, .string ⟨#[]⟩, .string ⟨#[]⟩, .int .i64 0, .bool false, .bool false, .string ⟨#[]⟩, .bool false, .bool false, .string ⟨#[]⟩, .slice none 0 0, .slice none 0 0] 39)).heap.size := by simp
    clear kA
    generalize (V0.alloc (.cells #[.int .i64 0, .string ⟨#[]⟩, .string ⟨#[]⟩, .int .i64 0, .bool false, .bool false, .string ⟨#[]⟩, .bool false, .bool false, .string ⟨#[]⟩, .slice none 0 0, .slice none 0 0] 39)) = V1 at *
    clear HX hS KD
    refine wpAnyH_all (rs := [9]) (by kernel_rfl) (by simp) ?_
    intro i' hi'
    obtain rfl : i' = 9 := by simpa using hi'
    refine wpOp_inL rfl rfl ?_
    refine wp_node (.tmp 8) (.tmp 12) rfl V0.heap.size rfl rfl hR.out ?_
    intro kb kc V2 cur hkb hcur hct k2
    have HX3 := hideL (k2.heap HX2.out (fun f => f))
    have hS3 : KdS k9 f t V2 := k2.heap hS2 (fun f => f)
    have KD3 := hideL (KD2.out.trans k2 (fun _ f => f.elim))
    refine ⟨hS3, ?_⟩
    simp only [Act.put, List.setIfInBounds_toArray]
    refine takeZ (i := 10) (d := 14) (v := .pointer (some ⟨kb, 0, none⟩)) rfl rfl (by kernel_rfl) (by kernel_rfl) (by kernel_rfl) (fun _ _ _ h => h) (Or.inl ⟨by rfl, fun W hW => ?_⟩) hS3 ?_
    · (go_simp)
    simp only [Act.put]
    refine takeZ (i := 12) (d := 15) (v := .pointer (some ⟨g, 0, none⟩)) rfl rfl (by kernel_rfl) (by kernel_rfl) (by kernel_rfl) (fun _ _ _ h => h) (Or.inl ⟨by rfl, fun W hW => ?_⟩) hS3 ?_
    · (go_simp)
    simp only [Act.put]
    refine takeZ (i := 13) (d := 16) (v := .pointer (some ⟨g, 0, none⟩)) rfl rfl (by kernel_rfl) (by kernel_rfl) (by kernel_rfl) (fun _ _ _ h => h) (Or.inl ⟨by rfl, fun W hW => ?_⟩) hS3 ?_
    · (go_simp)
    simp only [Act.put]
    refine takeZ (i := 14) (d := 17) (v := .pointer (some ⟨g, 11, none⟩)) rfl rfl (by kernel_rfl) (by kernel_rfl) (by kernel_rfl) (fun _ _ _ h => h) (Or.inl ⟨by rfl, fun W hW => ?_⟩) hS3 ?_
    · (go_simp)
    simp only [Act.put]
    have hl0 := HL.out
    have hgk : ¬ kb = g := by have := HG9.out; have := KD2.out.size; omega
    have hgk' : ¬ g = kb := fun e => hgk e.symm
    have hkk : ¬ k9 = kb := by have := (Array.getElem?_eq_some_iff.mp hS2).1; omega
    have hkg : ¬ k9 = g := by omega
    have hwk : w.heap.size ≤ kb := by have := KD2.out.size; omega
    clear HX2 hS2 KD2 hR k2 hz2
    refine wpAnyH_all (rs := [11, 15]) (by kernel_rfl) (by simp) ?_
    intro i' hi'
    obtain rfl | rfl : i' = 11 ∨ i' = 15 := by simpa using hi'
    · obtain ⟨hca, fa⟩ := node_at hcur hct
      have a0 := hca 0 _ rfl
      have b0 := fa 0
      have a1 := hca 1 _ rfl
      have b1 := fa 1
      have a2 := hca 2 _ rfl
      have b2 := fa 2
      have a3 := hca 3 _ rfl
      have b3 := fa 3
      have a4 := hca 4 _ rfl
      have b4 := fa 4
      have a5 := hca 5 _ rfl
      have b5 := fa 5
      have a6 := hca 6 _ rfl
      have b6 := fa 6
      have a7 := hca 7 _ rfl
      have b7 := fa 7
      have a8 := hca 8 _ rfl
      have b8 := fa 8
      have a9 := hca 9 _ rfl
      have b9 := fa 9
      have a10 := hca 10 _ rfl
      have b10 := fa 10
      have a11 := hca 11 _ rfl
      have b11 := fa 11
      unfold wpOp
      go_simp
      have KP := node_keptG (W := V2) (g := kb) (v0 := (.int .i64 1)) (v1 := (.string f)) (v2 := (.string t)) (v3 := (.int .i64 0)) (v4 := (.bool false)) (v5 := (.bool false)) (v6 := (.string ⟨#[]⟩)) (v7 := (.bool false)) (v8 := (.bool false)) (v9 := (.string ⟨#[]⟩)) (v10 := (.slice none 0 0)) (v11 := (.slice none 0 0))
      have hk2 : ((((((((((((V2.setCell ⟨kb, 0, none⟩ (.int .i64 1)).setCell ⟨kb, 1, none⟩ (.string f)).setCell ⟨kb, 2, none⟩ (.string t)).setCell ⟨kb, 3, none⟩ (.int .i64 0)).setCell ⟨kb, 4, none⟩ (.bool false)).setCell ⟨kb, 5, none⟩ (.bool false)).setCell ⟨kb, 6, none⟩ (.string ⟨#[]⟩)).setCell ⟨kb, 7, none⟩ (.bool false)).setCell ⟨kb, 8, none⟩ (.bool false)).setCell ⟨kb, 9, none⟩ (.string ⟨#[]⟩)).setCell ⟨kb, 10, none⟩ (.slice none 0 0)).setCell ⟨kb, 11, none⟩ (.slice none 0 0)).cell? ⟨kb, 2, none⟩ = some (.string t) := by go_simp
      generalize ((((((((((((V2.setCell ⟨kb, 0, none⟩ (.int .i64 1)).setCell ⟨kb, 1, none⟩ (.string f)).setCell ⟨kb, 2, none⟩ (.string t)).setCell ⟨kb, 3, none⟩ (.int .i64 0)).setCell ⟨kb, 4, none⟩ (.bool false)).setCell ⟨kb, 5, none⟩ (.bool false)).setCell ⟨kb, 6, none⟩ (.string ⟨#[]⟩)).setCell ⟨kb, 7, none⟩ (.bool false)).setCell ⟨kb, 8, none⟩ (.bool false)).setCell ⟨kb, 9, none⟩ (.string ⟨#[]⟩)).setCell ⟨kb, 10, none⟩ (.slice none 0 0)).setCell ⟨kb, 11, none⟩ (.slice none 0 0)) = V3 at *
      have hS4 : KdS k9 f t V3 := KP.heap hS3 hkk
      have HX4 := hideL (KP.heap HX3.out hgk')
      have KD4 := hideL (KD3.out.trans KP (fun i e => .inr (by omega)))
      first | refine Or.inl ⟨hS4, ?_⟩ | refine ⟨hS4, ?_⟩ | (change wpAnyH _ _ _ _ _ _ _ _ _) | refine Or.inl ?_
      clear a0 b0 a1 b1 a2 b2 a3 b3 a4 b4 a5 b5 a6 b6 a7 b7 a8 b8 a9 b9 a10 b10 a11 b11 hca fa
      refine wpAnyH_all (rs := [15]) (by kernel_rfl) (by simp) ?_
      intro i' hi'
      obtain rfl : i' = 15 := by simpa using hi'
      obtain ⟨-, -, -, -, -, -, -, -, -, -, -, c11, c12, cf⟩ := part_cells HX4.out
      have f11 := cf 11
      clear cf c12
      unfold wpOp
      go_simp
      have hX5 : (V3.setCell ⟨g, 11, none⟩ (.slice (some ⟨kb, 0, none⟩) 1 kc)).heap[g]? = some (.cells #[x0, x1, x2, x3, x4, x5, x6, x7, x8, x9, x10, .slice (some ⟨kb, 0, none⟩) 1 kc, .int .i64 0] 75 (0, 0)) := by
        have := heap_setCell_same V3 g 11 _ _ (.slice (some ⟨kb, 0, none⟩) 1 kc) HX4.out
        simpa using this
      have KS5 : Kept (fun i => i = g) V3 (V3.setCell ⟨g, 11, none⟩ (.slice (some ⟨kb, 0, none⟩) 1 kc)) := (Kept.setCell _ _ _).mono (fun i e => .inl e)
      generalize V3.setCell ⟨g, 11, none⟩ (.slice (some ⟨kb, 0, none⟩) 1 kc) = W5 at *
      have hS5 : KdS k9 f t W5 := KS5.heap hS4 hkg
      first | refine Or.inl ⟨hS5, ?_⟩ | refine ⟨hS5, ?_⟩ | (change wpAnyH _ _ _ _ _ _ _ _ _) | refine Or.inl ?_
      clear c11 f11
      refine wpAnyH_done (by kernel_rfl) ?_ _
      have HXE := hideL hX5
      have HKE := hideL ((KD4.out.mono (fun _ f => f.elim)).trans KS5 (fun i e => .inl e))
      have hSE := hS5
      have hk3 := KS5.cell hk2 hgk
      generalize W5 = WE at *
      unfold KdS at hSE
      obtain ⟨-, -, -, -, -, -, -, -, -, -, -, -, c12, cf⟩ := part_cells HXE.out
      have f12 := cf 12
      obtain ⟨-, -, -, -, -, -, -, -, -, -, -, -, q12, -⟩ := part_cells hSE
      clear cf hSE
      go_wp2_with fail
      go_region
      go_wp2_with fail
      first | go_ret | go_ret2 | go_end0
      refine ⟨rfl, ⟨kb, kc, ?_, hwk, ?_⟩, ?_⟩
      · have e1 := heap_setCell_same WE g 12 _ _ (.int .i64 0) HXE.out
        have e2 := heap_setCell_same WE.drew g 12 _ _ (.int .i64 0) ((Kept.drew WE).heap HXE.out (fun f => f))
        simp at e1 e2
        first | exact e1 | exact e2 | exact (Kept.drew _).heap e1 (fun f => f)
      · first
          | exact ((Kept.drew WE).trans (F := fun i => i = g) (Kept.setCell _ _ _) (fun i e => .inl e)).cell hk3 hgk
          | exact ((Kept.refl (fun i => i = g) WE).trans ((Kept.setCell WE ⟨g, 12, none⟩ (.int .i64 0)).mono (fun i e => .inl e)) (fun i e => .inl e)).cell hk3 hgk
          | (simp only [World.cell?] at hk3 ⊢; exact hk3)
      · first
          | exact (HKE.out.trans (Kept.drew WE) (fun _ f => f.elim)).trans (Kept.setCell _ _ _) (fun i e => .inl e)
          | exact (HKE.out.trans (Kept.setCell _ _ _) (fun i e => .inl e)).trans (Kept.drew _) (fun _ f => f.elim)
    · obtain ⟨-, -, -, -, -, -, -, -, -, -, -, c11, c12, cf⟩ := part_cells HX3.out
      have f11 := cf 11
      clear cf c12
      unfold wpOp
      go_simp
      have hX6 : (V2.setCell ⟨g, 11, none⟩ (.slice (some ⟨kb, 0, none⟩) 1 kc)).heap[g]? = some (.cells #[x0, x1, x2, x3, x4, x5, x6, x7, x8, x9, x10, .slice (some ⟨kb, 0, none⟩) 1 kc, .int .i64 0] 75 (0, 0)) := by
        have := heap_setCell_same V2 g 11 _ _ (.slice (some ⟨kb, 0, none⟩) 1 kc) HX3.out
        simpa using this
      have KS6 : Kept (fun i => i = g) V2 (V2.setCell ⟨g, 11, none⟩ (.slice (some ⟨kb, 0, none⟩) 1 kc)) := (Kept.setCell _ _ _).mono (fun i e => .inl e)
      generalize V2.setCell ⟨g, 11, none⟩ (.slice (some ⟨kb, 0, none⟩) 1 kc) = W6 at *
      have hS6 : KdS k9 f t W6 := KS6.heap hS3 hkg
      first | refine Or.inl ⟨hS6, ?_⟩ | refine ⟨hS6, ?_⟩ | (change wpAnyH _ _ _ _ _ _ _ _ _) | refine Or.inl ?_
      clear c11 f11
      refine wpAnyH_all (rs := [11]) (by kernel_rfl) (by simp) ?_
      intro i' hi'
      obtain rfl : i' = 11 := by simpa using hi'
      have hcur6 := KS6.heap hcur hgk
      obtain ⟨hca, fa⟩ := node_at hcur6 hct
      have a0 := hca 0 _ rfl
      have b0 := fa 0
      have a1 := hca 1 _ rfl
      have b1 := fa 1
      have a2 := hca 2 _ rfl
      have b2 := fa 2
      have a3 := hca 3 _ rfl
      have b3 := fa 3
      have a4 := hca 4 _ rfl
      have b4 := fa 4
      have a5 := hca 5 _ rfl
      have b5 := fa 5
      have a6 := hca 6 _ rfl
      have b6 := fa 6
      have a7 := hca 7 _ rfl
      have b7 := fa 7
      have a8 := hca 8 _ rfl
      have b8 := fa 8
      have a9 := hca 9 _ rfl
      have b9 := fa 9
      have a10 := hca 10 _ rfl
      have b10 := fa 10
      have a11 := hca 11 _ rfl
      have b11 := fa 11
      unfold wpOp
      go_simp
      have KP := node_keptG (W := W6) (g := kb) (v0 := (.int .i64 1)) (v1 := (.string f)) (v2 := (.string t)) (v3 := (.int .i64 0)) (v4 := (.bool false)) (v5 := (.bool false)) (v6 := (.string ⟨#[]⟩)) (v7 := (.bool false)) (v8 := (.bool false)) (v9 := (.string ⟨#[]⟩)) (v10 := (.slice none 0 0)) (v11 := (.slice none 0 0))
      have hk2 : ((((((((((((W6.setCell ⟨kb, 0, none⟩ (.int .i64 1)).setCell ⟨kb, 1, none⟩ (.string f)).setCell ⟨kb, 2, none⟩ (.string t)).setCell ⟨kb, 3, none⟩ (.int .i64 0)).setCell ⟨kb, 4, none⟩ (.bool false)).setCell ⟨kb, 5, none⟩ (.bool false)).setCell ⟨kb, 6, none⟩ (.string ⟨#[]⟩)).setCell ⟨kb, 7, none⟩ (.bool false)).setCell ⟨kb, 8, none⟩ (.bool false)).setCell ⟨kb, 9, none⟩ (.string ⟨#[]⟩)).setCell ⟨kb, 10, none⟩ (.slice none 0 0)).setCell ⟨kb, 11, none⟩ (.slice none 0 0)).cell? ⟨kb, 2, none⟩ = some (.string t) := by go_simp
      generalize ((((((((((((W6.setCell ⟨kb, 0, none⟩ (.int .i64 1)).setCell ⟨kb, 1, none⟩ (.string f)).setCell ⟨kb, 2, none⟩ (.string t)).setCell ⟨kb, 3, none⟩ (.int .i64 0)).setCell ⟨kb, 4, none⟩ (.bool false)).setCell ⟨kb, 5, none⟩ (.bool false)).setCell ⟨kb, 6, none⟩ (.string ⟨#[]⟩)).setCell ⟨kb, 7, none⟩ (.bool false)).setCell ⟨kb, 8, none⟩ (.bool false)).setCell ⟨kb, 9, none⟩ (.string ⟨#[]⟩)).setCell ⟨kb, 10, none⟩ (.slice none 0 0)).setCell ⟨kb, 11, none⟩ (.slice none 0 0)) = V7 at *
      have hS7 : KdS k9 f t V7 := KP.heap hS6 hkk
      have hX7 := KP.heap hX6 hgk'
      first | refine Or.inl ⟨hS7, ?_⟩ | refine ⟨hS7, ?_⟩ | (change wpAnyH _ _ _ _ _ _ _ _ _) | refine Or.inl ?_
      clear a0 b0 a1 b1 a2 b2 a3 b3 a4 b4 a5 b5 a6 b6 a7 b7 a8 b8 a9 b9 a10 b10 a11 b11 hca fa
      refine wpAnyH_done (by kernel_rfl) ?_ _
      have HXE := hideL hX7
      have HKE := hideL (((KD3.out.mono (fun _ f => f.elim)).trans KS6 (fun i e => .inl e)).trans KP (fun i e => .inr (by omega)))
      have hSE := hS7
      have hk3 := hk2
      generalize V7 = WE at *
      unfold KdS at hSE
      obtain ⟨-, -, -, -, -, -, -, -, -, -, -, -, c12, cf⟩ := part_cells HXE.out
      have f12 := cf 12
      obtain ⟨-, -, -, -, -, -, -, -, -, -, -, -, q12, -⟩ := part_cells hSE
      clear cf hSE
      go_wp2_with fail
      go_region
      go_wp2_with fail
      first | go_ret | go_ret2 | go_end0
      refine ⟨rfl, ⟨kb, kc, ?_, hwk, ?_⟩, ?_⟩
      · have e1 := heap_setCell_same WE g 12 _ _ (.int .i64 0) HXE.out
        have e2 := heap_setCell_same WE.drew g 12 _ _ (.int .i64 0) ((Kept.drew WE).heap HXE.out (fun f => f))
        simp at e1 e2
        first | exact e1 | exact e2 | exact (Kept.drew _).heap e1 (fun f => f)
      · first
          | exact ((Kept.drew WE).trans (F := fun i => i = g) (Kept.setCell _ _ _) (fun i e => .inl e)).cell hk3 hgk
          | exact ((Kept.refl (fun i => i = g) WE).trans ((Kept.setCell WE ⟨g, 12, none⟩ (.int .i64 0)).mono (fun i e => .inl e)) (fun i e => .inl e)).cell hk3 hgk
          | (simp only [World.cell?] at hk3 ⊢; exact hk3)
      · first
          | exact (HKE.out.trans (Kept.drew WE) (fun _ f => f.elim)).trans (Kept.setCell _ _ _) (fun i e => .inl e)
          | exact (HKE.out.trans (Kept.setCell _ _ _) (fun i e => .inl e)).trans (Kept.drew _) (fun _ f => f.elim)
  · unfold wpOp
    go_simp
    have kA := Kept.alloc V0 (.cells #[.int .i64 0, .string ⟨#[]⟩, .string ⟨#[]⟩, .int .i64 0, .bool false, .bool false, .string ⟨#[]⟩, .bool false, .bool false, .string ⟨#[]⟩, .slice none 0 0, .slice none 0 0] 39)
    have HX2 := hideL (kA.heap HX.out (fun f => f))
    have hS2 : KdS k9 f t (V0.alloc (.cells #[.int .i64 0, .string ⟨#[]⟩, .string ⟨#[]⟩, .int .i64 0, .bool false, .bool false, .string ⟨#[]⟩, .bool false, .bool false, .string ⟨#[]⟩, .slice none 0 0, .slice none 0 0] 39)) := kA.heap hS (fun f => f)
    first | refine Or.inl ⟨hS2, ?_⟩ | refine ⟨hS2, ?_⟩ | (change wpAnyH _ _ _ _ _ _ _ _ _) | refine Or.inl ?_
    have hR : Hid (∀ j u, ([.int .i64 0, .string ⟨#[]⟩, .string ⟨#[]⟩, .int .i64 0, .bool false, .bool false, .string ⟨#[]⟩, .bool false, .bool false, .string ⟨#[]⟩, .slice none 0 0, .slice none 0 0] : List Value)[j]? = some u → (V0.alloc (.cells #[.int .i64 0, .string ⟨#[]⟩, .string ⟨#[]⟩, .int .i64 0, .bool false, .bool false, .string ⟨#[]⟩, .bool false, .bool false, .string ⟨#[]⟩, .slice none 0 0, .slice none 0 0] 39)).cell? ⟨V0.heap.size, j, none⟩ = some u) := hideL (fun j u hu => by
      rw [World.cell?_alloc_new, ← hu]
      exact List.getElem?_toArray)
    have KD2 := hideL (KD.out.trans kA (fun _ f => f.elim))
    have hz2 : V0.heap.size < (V0.alloc (.cells #[.int .i64 0, .string ⟨#[]⟩, .string ⟨#[]⟩, .int .i64 0, .bool false, .bool false, .string ⟨#[]⟩, .bool false, .bool false, .string ⟨#[]⟩, .slice none 0 0, .slice none 0 0] 39)).heap.size := by simp
    clear kA
    generalize (V0.alloc (.cells #[.int .i64 0, .string ⟨#[]⟩, .string ⟨#[]⟩, .int .i64 0, .bool false, .bool false, .string ⟨#[]⟩, .bool false, .bool false, .string ⟨#[]⟩, .slice none 0 0, .slice none 0 0] 39)) = V1 at *
    clear HX hS KD
    refine wpAnyH_all (rs := [4]) (by kernel_rfl) (by simp) ?_
    intro i' hi'
    obtain rfl : i' = 4 := by simpa using hi'
    obtain ⟨-, -, -, -, -, -, -, -, -, -, -, c11, -⟩ := part_cells HX2.out
    unfold wpOp
    go_simp
    first | refine Or.inl ⟨hS2, ?_⟩ | refine ⟨hS2, ?_⟩ | (change wpAnyH _ _ _ _ _ _ _ _ _) | refine Or.inl ?_
    clear c11
    refine takeZ (i := 7) (d := 11) (v := .int .i64 0) rfl rfl (by kernel_rfl) (by kernel_rfl) (by kernel_rfl) (fun _ _ _ h => h) (Or.inl ⟨by rfl, fun W hW => ?_⟩) hS2 ?_
    · (go_simp)
    simp only [Act.put, List.setIfInBounds_toArray, List.set_cons_zero, List.set_cons_succ]
    refine wpAnyH_all (rs := [9]) (by kernel_rfl) (by simp) ?_
    intro i' hi'
    obtain rfl : i' = 9 := by simpa using hi'
    refine wpOp_inL rfl rfl ?_
    refine wp_node (.tmp 8) (.tmp 12) rfl V0.heap.size rfl rfl hR.out ?_
    intro kb kc V2 cur hkb hcur hct k2
    have HX3 := hideL (k2.heap HX2.out (fun f => f))
    have hS3 : KdS k9 f t V2 := k2.heap hS2 (fun f => f)
    have KD3 := hideL (KD2.out.trans k2 (fun _ f => f.elim))
    refine ⟨hS3, ?_⟩
    simp only [Act.put, List.setIfInBounds_toArray]
    refine takeZ (i := 10) (d := 14) (v := .pointer (some ⟨kb, 0, none⟩)) rfl rfl (by kernel_rfl) (by kernel_rfl) (by kernel_rfl) (fun _ _ _ h => h) (Or.inl ⟨by rfl, fun W hW => ?_⟩) hS3 ?_
    · (go_simp)
    simp only [Act.put]
    refine takeZ (i := 12) (d := 15) (v := .pointer (some ⟨g, 0, none⟩)) rfl rfl (by kernel_rfl) (by kernel_rfl) (by kernel_rfl) (fun _ _ _ h => h) (Or.inl ⟨by rfl, fun W hW => ?_⟩) hS3 ?_
    · (go_simp)
    simp only [Act.put]
    refine takeZ (i := 13) (d := 16) (v := .pointer (some ⟨g, 0, none⟩)) rfl rfl (by kernel_rfl) (by kernel_rfl) (by kernel_rfl) (fun _ _ _ h => h) (Or.inl ⟨by rfl, fun W hW => ?_⟩) hS3 ?_
    · (go_simp)
    simp only [Act.put]
    refine takeZ (i := 14) (d := 17) (v := .pointer (some ⟨g, 11, none⟩)) rfl rfl (by kernel_rfl) (by kernel_rfl) (by kernel_rfl) (fun _ _ _ h => h) (Or.inl ⟨by rfl, fun W hW => ?_⟩) hS3 ?_
    · (go_simp)
    simp only [Act.put]
    have hl0 := HL.out
    have hgk : ¬ kb = g := by have := HG9.out; have := KD2.out.size; omega
    have hgk' : ¬ g = kb := fun e => hgk e.symm
    have hkk : ¬ k9 = kb := by have := (Array.getElem?_eq_some_iff.mp hS2).1; omega
    have hkg : ¬ k9 = g := by omega
    have hwk : w.heap.size ≤ kb := by have := KD2.out.size; omega
    clear HX2 hS2 KD2 hR k2 hz2
    refine wpAnyH_all (rs := [11, 15]) (by kernel_rfl) (by simp) ?_
    intro i' hi'
    obtain rfl | rfl : i' = 11 ∨ i' = 15 := by simpa using hi'
    · obtain ⟨hca, fa⟩ := node_at hcur hct
      have a0 := hca 0 _ rfl
      have b0 := fa 0
      have a1 := hca 1 _ rfl
      have b1 := fa 1
      have a2 := hca 2 _ rfl
      have b2 := fa 2
      have a3 := hca 3 _ rfl
      have b3 := fa 3
      have a4 := hca 4 _ rfl
      have b4 := fa 4
      have a5 := hca 5 _ rfl
      have b5 := fa 5
      have a6 := hca 6 _ rfl
      have b6 := fa 6
      have a7 := hca 7 _ rfl
      have b7 := fa 7
      have a8 := hca 8 _ rfl
      have b8 := fa 8
      have a9 := hca 9 _ rfl
      have b9 := fa 9
      have a10 := hca 10 _ rfl
      have b10 := fa 10
      have a11 := hca 11 _ rfl
      have b11 := fa 11
      unfold wpOp
      go_simp
      have KP := node_keptG (W := V2) (g := kb) (v0 := (.int .i64 1)) (v1 := (.string f)) (v2 := (.string t)) (v3 := (.int .i64 0)) (v4 := (.bool false)) (v5 := (.bool false)) (v6 := (.string ⟨#[]⟩)) (v7 := (.bool false)) (v8 := (.bool false)) (v9 := (.string ⟨#[]⟩)) (v10 := (.slice none 0 0)) (v11 := (.slice none 0 0))
      have hk2 : ((((((((((((V2.setCell ⟨kb, 0, none⟩ (.int .i64 1)).setCell ⟨kb, 1, none⟩ (.string f)).setCell ⟨kb, 2, none⟩ (.string t)).setCell ⟨kb, 3, none⟩ (.int .i64 0)).setCell ⟨kb, 4, none⟩ (.bool false)).setCell ⟨kb, 5, none⟩ (.bool false)).setCell ⟨kb, 6, none⟩ (.string ⟨#[]⟩)).setCell ⟨kb, 7, none⟩ (.bool false)).setCell ⟨kb, 8, none⟩ (.bool false)).setCell ⟨kb, 9, none⟩ (.string ⟨#[]⟩)).setCell ⟨kb, 10, none⟩ (.slice none 0 0)).setCell ⟨kb, 11, none⟩ (.slice none 0 0)).cell? ⟨kb, 2, none⟩ = some (.string t) := by go_simp
      generalize ((((((((((((V2.setCell ⟨kb, 0, none⟩ (.int .i64 1)).setCell ⟨kb, 1, none⟩ (.string f)).setCell ⟨kb, 2, none⟩ (.string t)).setCell ⟨kb, 3, none⟩ (.int .i64 0)).setCell ⟨kb, 4, none⟩ (.bool false)).setCell ⟨kb, 5, none⟩ (.bool false)).setCell ⟨kb, 6, none⟩ (.string ⟨#[]⟩)).setCell ⟨kb, 7, none⟩ (.bool false)).setCell ⟨kb, 8, none⟩ (.bool false)).setCell ⟨kb, 9, none⟩ (.string ⟨#[]⟩)).setCell ⟨kb, 10, none⟩ (.slice none 0 0)).setCell ⟨kb, 11, none⟩ (.slice none 0 0)) = V3 at *
      have hS4 : KdS k9 f t V3 := KP.heap hS3 hkk
      have HX4 := hideL (KP.heap HX3.out hgk')
      have KD4 := hideL (KD3.out.trans KP (fun i e => .inr (by omega)))
      first | refine Or.inl ⟨hS4, ?_⟩ | refine ⟨hS4, ?_⟩ | (change wpAnyH _ _ _ _ _ _ _ _ _) | refine Or.inl ?_
      clear a0 b0 a1 b1 a2 b2 a3 b3 a4 b4 a5 b5 a6 b6 a7 b7 a8 b8 a9 b9 a10 b10 a11 b11 hca fa
      refine wpAnyH_all (rs := [15]) (by kernel_rfl) (by simp) ?_
      intro i' hi'
      obtain rfl : i' = 15 := by simpa using hi'
      obtain ⟨-, -, -, -, -, -, -, -, -, -, -, c11, c12, cf⟩ := part_cells HX4.out
      have f11 := cf 11
      clear cf c12
      unfold wpOp
      go_simp
      have hX5 : (V3.setCell ⟨g, 11, none⟩ (.slice (some ⟨kb, 0, none⟩) 1 kc)).heap[g]? = some (.cells #[x0, x1, x2, x3, x4, x5, x6, x7, x8, x9, x10, .slice (some ⟨kb, 0, none⟩) 1 kc, .int .i64 0] 75 (0, 0)) := by
        have := heap_setCell_same V3 g 11 _ _ (.slice (some ⟨kb, 0, none⟩) 1 kc) HX4.out
        simpa using this
      have KS5 : Kept (fun i => i = g) V3 (V3.setCell ⟨g, 11, none⟩ (.slice (some ⟨kb, 0, none⟩) 1 kc)) := (Kept.setCell _ _ _).mono (fun i e => .inl e)
      generalize V3.setCell ⟨g, 11, none⟩ (.slice (some ⟨kb, 0, none⟩) 1 kc) = W5 at *
      have hS5 : KdS k9 f t W5 := KS5.heap hS4 hkg
      first | refine Or.inl ⟨hS5, ?_⟩ | refine ⟨hS5, ?_⟩ | (change wpAnyH _ _ _ _ _ _ _ _ _) | refine Or.inl ?_
      clear c11 f11
      refine wpAnyH_done (by kernel_rfl) ?_ _
      have HXE := hideL hX5
      have HKE := hideL ((KD4.out.mono (fun _ f => f.elim)).trans KS5 (fun i e => .inl e))
      have hSE := hS5
      have hk3 := KS5.cell hk2 hgk
      generalize W5 = WE at *
      unfold KdS at hSE
      obtain ⟨-, -, -, -, -, -, -, -, -, -, -, -, c12, cf⟩ := part_cells HXE.out
      have f12 := cf 12
      obtain ⟨-, -, -, -, -, -, -, -, -, -, -, -, q12, -⟩ := part_cells hSE
      clear cf hSE
      go_wp2_with fail
      go_region
      go_wp2_with fail
      first | go_ret | go_ret2 | go_end0
      refine ⟨rfl, ⟨kb, kc, ?_, hwk, ?_⟩, ?_⟩
      · have e1 := heap_setCell_same WE g 12 _ _ (.int .i64 0) HXE.out
        have e2 := heap_setCell_same WE.drew g 12 _ _ (.int .i64 0) ((Kept.drew WE).heap HXE.out (fun f => f))
        simp at e1 e2
        first | exact e1 | exact e2 | exact (Kept.drew _).heap e1 (fun f => f)
      · first
          | exact ((Kept.drew WE).trans (F := fun i => i = g) (Kept.setCell _ _ _) (fun i e => .inl e)).cell hk3 hgk
          | exact ((Kept.refl (fun i => i = g) WE).trans ((Kept.setCell WE ⟨g, 12, none⟩ (.int .i64 0)).mono (fun i e => .inl e)) (fun i e => .inl e)).cell hk3 hgk
          | (simp only [World.cell?] at hk3 ⊢; exact hk3)
      · first
          | exact (HKE.out.trans (Kept.drew WE) (fun _ f => f.elim)).trans (Kept.setCell _ _ _) (fun i e => .inl e)
          | exact (HKE.out.trans (Kept.setCell _ _ _) (fun i e => .inl e)).trans (Kept.drew _) (fun _ f => f.elim)
    · obtain ⟨-, -, -, -, -, -, -, -, -, -, -, c11, c12, cf⟩ := part_cells HX3.out
      have f11 := cf 11
      clear cf c12
      unfold wpOp
      go_simp
      have hX6 : (V2.setCell ⟨g, 11, none⟩ (.slice (some ⟨kb, 0, none⟩) 1 kc)).heap[g]? = some (.cells #[x0, x1, x2, x3, x4, x5, x6, x7, x8, x9, x10, .slice (some ⟨kb, 0, none⟩) 1 kc, .int .i64 0] 75 (0, 0)) := by
        have := heap_setCell_same V2 g 11 _ _ (.slice (some ⟨kb, 0, none⟩) 1 kc) HX3.out
        simpa using this
      have KS6 : Kept (fun i => i = g) V2 (V2.setCell ⟨g, 11, none⟩ (.slice (some ⟨kb, 0, none⟩) 1 kc)) := (Kept.setCell _ _ _).mono (fun i e => .inl e)
      generalize V2.setCell ⟨g, 11, none⟩ (.slice (some ⟨kb, 0, none⟩) 1 kc) = W6 at *
      have hS6 : KdS k9 f t W6 := KS6.heap hS3 hkg
      first | refine Or.inl ⟨hS6, ?_⟩ | refine ⟨hS6, ?_⟩ | (change wpAnyH _ _ _ _ _ _ _ _ _) | refine Or.inl ?_
      clear c11 f11
      refine wpAnyH_all (rs := [11]) (by kernel_rfl) (by simp) ?_
      intro i' hi'
      obtain rfl : i' = 11 := by simpa using hi'
      have hcur6 := KS6.heap hcur hgk
      obtain ⟨hca, fa⟩ := node_at hcur6 hct
      have a0 := hca 0 _ rfl
      have b0 := fa 0
      have a1 := hca 1 _ rfl
      have b1 := fa 1
      have a2 := hca 2 _ rfl
      have b2 := fa 2
      have a3 := hca 3 _ rfl
      have b3 := fa 3
      have a4 := hca 4 _ rfl
      have b4 := fa 4
      have a5 := hca 5 _ rfl
      have b5 := fa 5
      have a6 := hca 6 _ rfl
      have b6 := fa 6
      have a7 := hca 7 _ rfl
      have b7 := fa 7
      have a8 := hca 8 _ rfl
      have b8 := fa 8
      have a9 := hca 9 _ rfl
      have b9 := fa 9
      have a10 := hca 10 _ rfl
      have b10 := fa 10
      have a11 := hca 11 _ rfl
      have b11 := fa 11
      unfold wpOp
      go_simp
      have KP := node_keptG (W := W6) (g := kb) (v0 := (.int .i64 1)) (v1 := (.string f)) (v2 := (.string t)) (v3 := (.int .i64 0)) (v4 := (.bool false)) (v5 := (.bool false)) (v6 := (.string ⟨#[]⟩)) (v7 := (.bool false)) (v8 := (.bool false)) (v9 := (.string ⟨#[]⟩)) (v10 := (.slice none 0 0)) (v11 := (.slice none 0 0))
      have hk2 : ((((((((((((W6.setCell ⟨kb, 0, none⟩ (.int .i64 1)).setCell ⟨kb, 1, none⟩ (.string f)).setCell ⟨kb, 2, none⟩ (.string t)).setCell ⟨kb, 3, none⟩ (.int .i64 0)).setCell ⟨kb, 4, none⟩ (.bool false)).setCell ⟨kb, 5, none⟩ (.bool false)).setCell ⟨kb, 6, none⟩ (.string ⟨#[]⟩)).setCell ⟨kb, 7, none⟩ (.bool false)).setCell ⟨kb, 8, none⟩ (.bool false)).setCell ⟨kb, 9, none⟩ (.string ⟨#[]⟩)).setCell ⟨kb, 10, none⟩ (.slice none 0 0)).setCell ⟨kb, 11, none⟩ (.slice none 0 0)).cell? ⟨kb, 2, none⟩ = some (.string t) := by go_simp
      generalize ((((((((((((W6.setCell ⟨kb, 0, none⟩ (.int .i64 1)).setCell ⟨kb, 1, none⟩ (.string f)).setCell ⟨kb, 2, none⟩ (.string t)).setCell ⟨kb, 3, none⟩ (.int .i64 0)).setCell ⟨kb, 4, none⟩ (.bool false)).setCell ⟨kb, 5, none⟩ (.bool false)).setCell ⟨kb, 6, none⟩ (.string ⟨#[]⟩)).setCell ⟨kb, 7, none⟩ (.bool false)).setCell ⟨kb, 8, none⟩ (.bool false)).setCell ⟨kb, 9, none⟩ (.string ⟨#[]⟩)).setCell ⟨kb, 10, none⟩ (.slice none 0 0)).setCell ⟨kb, 11, none⟩ (.slice none 0 0)) = V7 at *
      have hS7 : KdS k9 f t V7 := KP.heap hS6 hkk
      have hX7 := KP.heap hX6 hgk'
      first | refine Or.inl ⟨hS7, ?_⟩ | refine ⟨hS7, ?_⟩ | (change wpAnyH _ _ _ _ _ _ _ _ _) | refine Or.inl ?_
      clear a0 b0 a1 b1 a2 b2 a3 b3 a4 b4 a5 b5 a6 b6 a7 b7 a8 b8 a9 b9 a10 b10 a11 b11 hca fa
      refine wpAnyH_done (by kernel_rfl) ?_ _
      have HXE := hideL hX7
      have HKE := hideL (((KD3.out.mono (fun _ f => f.elim)).trans KS6 (fun i e => .inl e)).trans KP (fun i e => .inr (by omega)))
      have hSE := hS7
      have hk3 := hk2
      generalize V7 = WE at *
      unfold KdS at hSE
      obtain ⟨-, -, -, -, -, -, -, -, -, -, -, -, c12, cf⟩ := part_cells HXE.out
      have f12 := cf 12
      obtain ⟨-, -, -, -, -, -, -, -, -, -, -, -, q12, -⟩ := part_cells hSE
      clear cf hSE
      go_wp2_with fail
      go_region
      go_wp2_with fail
      first | go_ret | go_ret2 | go_end0
      refine ⟨rfl, ⟨kb, kc, ?_, hwk, ?_⟩, ?_⟩
      · have e1 := heap_setCell_same WE g 12 _ _ (.int .i64 0) HXE.out
        have e2 := heap_setCell_same WE.drew g 12 _ _ (.int .i64 0) ((Kept.drew WE).heap HXE.out (fun f => f))
        simp at e1 e2
        first | exact e1 | exact e2 | exact (Kept.drew _).heap e1 (fun f => f)
      · first
          | exact ((Kept.drew WE).trans (F := fun i => i = g) (Kept.setCell _ _ _) (fun i e => .inl e)).cell hk3 hgk
          | exact ((Kept.refl (fun i => i = g) WE).trans ((Kept.setCell WE ⟨g, 12, none⟩ (.int .i64 0)).mono (fun i e => .inl e)) (fun i e => .inl e)).cell hk3 hgk
          | (simp only [World.cell?] at hk3 ⊢; exact hk3)
      · first
          | exact (HKE.out.trans (Kept.drew WE) (fun _ f => f.elim)).trans (Kept.setCell _ _ _) (fun i e => .inl e)
          | exact (HKE.out.trans (Kept.setCell _ _ _) (fun i e => .inl e)).trans (Kept.drew _) (fun _ f => f.elim)
end Go.Proofs.YtiemiphlfbaojaaDoor
namespace Go.Proofs.YtiemiphlfbaojaaDoor
open Go.ChangeShapes Go.WideShapes Go.ChangeAt Go.RowKit
variable {w0 w w' : World} {b rc : Nat} {a0 : Option Addr} {R : List Tn} {p d : Nat}
theorem isEd_other {y : Tn} {k : Nat} (h : isK k y = true) (hj : k ≠ 20) : isEd y = false := by
  unfold isK at h
  unfold isEd
  simp only [beq_iff_eq] at h
  have e : (y.k == 20) = false := by simp only [beq_eq_false_iff_ne]; omega
  rw [e]
  rfl
/-- A list of one kid, as it lies. -/
structure Li1 (w : World) (ob kb : Nat) (o : Int) (t : ByteArray) : Prop where
  occ : w.cell? ⟨ob, 0, none⟩ = some (.int .i64 o)
  txt : w.cell? ⟨kb, 2, none⟩ = some (.string t)
def plPost (w0 w : World) (b rc : Nat) (a0 : Option Addr) (R : List Tn) (p d : Nat) (e : Ending) (w' : World) : Prop := ∃ ob oc kb kc, e = .returned (.agg #[.int .i64 9, .string ⟨#[]⟩, .string ⟨#[]⟩, .int .i64 0, .bool false, .bool false, .string ⟨#[]⟩, .bool false, .bool false, .string ⟨#[]⟩, .slice (some ⟨ob, 0, none⟩) 1 oc, .slice (some ⟨kb, 0, none⟩) 1 kc, .int .i64 0]) ∧ Li1 w' ob kb 1 (tkA R (p + 1)).t ∧ Pr w0 w' b rc a0 R (p + 1 + 1) d ∧ Kept (fun i => i = b) w w' ∧ w.heap.size ≤ ob ∧ w.heap.size ≤ kb
set_option maxRecDepth 20000 in
set_option maxHeartbeats 4000000 in
theorem plist_plus (h : Pr w0 w b rc a0 R p d) (hk : isK 15 (tkA R p) = true) (h1 : isK 1 (tkA R (p + 1)) = true) (hp : p + 1 + 1 < R.length) (hz : isK 0 (tkA R (p + 1 + 1)) = true) :
    Calls Tryd.prog 43 #[.pointer (some ⟨b, 0, none⟩), .string ⟨#[]⟩] w (plPost w0 w b rc a0 R p d) := by
  have KA := Kept.alloc w (.cells #[.int .i64 0, .string ⟨#[]⟩, .string ⟨#[]⟩, .int .i64 0, .bool false, .bool false, .string ⟨#[]⟩, .bool false, .bool false, .string ⟨#[]⟩, .slice none 0 0, .slice none 0 0, .int .i64 0] 75)
  have KB := Kept.alloc (w.alloc (.cells #[.int .i64 0, .string ⟨#[]⟩, .string ⟨#[]⟩, .int .i64 0, .bool false, .bool false, .string ⟨#[]⟩, .bool false, .bool false, .string ⟨#[]⟩, .slice none 0 0, .slice none 0 0, .int .i64 0] 75)) (.cells #[.int .i64 9, .string ⟨#[]⟩, .string ⟨#[]⟩, .int .i64 0, .bool false, .bool false, .string ⟨#[]⟩, .bool false, .bool false, .string ⟨#[]⟩, .slice none 0 0, .slice none 0 0, .int .i64 0] 75)
  have hg := KB.heap (heap_alloc_new w (.cells #[.int .i64 0, .string ⟨#[]⟩, .string ⟨#[]⟩, .int .i64 0, .bool false, .bool false, .string ⟨#[]⟩, .bool false, .bool false, .string ⟨#[]⟩, .slice none 0 0, .slice none 0 0, .int .i64 0] 75)) (fun f => f)
  have hl : ((w.alloc (.cells #[.int .i64 0, .string ⟨#[]⟩, .string ⟨#[]⟩, .int .i64 0, .bool false, .bool false, .string ⟨#[]⟩, .bool false, .bool false, .string ⟨#[]⟩, .slice none 0 0, .slice none 0 0, .int .i64 0] 75)).alloc (.cells #[.int .i64 9, .string ⟨#[]⟩, .string ⟨#[]⟩, .int .i64 0, .bool false, .bool false, .string ⟨#[]⟩, .bool false, .bool false, .string ⟨#[]⟩, .slice none 0 0, .slice none 0 0, .int .i64 0] 75)).heap[w.heap.size + 1]? = some (.cells #[.int .i64 9, .string ⟨#[]⟩, .string ⟨#[]⟩, .int .i64 0, .bool false, .bool false, .string ⟨#[]⟩, .bool false, .bool false, .string ⟨#[]⟩, .slice none 0 0, .slice none 0 0, .int .i64 0] 75 (0, 0)) := by
    have := heap_alloc_new (w.alloc (.cells #[.int .i64 0, .string ⟨#[]⟩, .string ⟨#[]⟩, .int .i64 0, .bool false, .bool false, .string ⟨#[]⟩, .bool false, .bool false, .string ⟨#[]⟩, .slice none 0 0, .slice none 0 0, .int .i64 0] 75)) (.cells #[.int .i64 9, .string ⟨#[]⟩, .string ⟨#[]⟩, .int .i64 0, .bool false, .bool false, .string ⟨#[]⟩, .bool false, .bool false, .string ⟨#[]⟩, .slice none 0 0, .slice none 0 0, .int .i64 0] 75)
    simpa using this
  have KAB := KA.trans KB (fun _ f => f.elim)
  have hbw := h.lt
  have hw0 := h.hb
  have C1 := hideL (psign_plus (h.later KAB) hk (by omega))
  have C2 := hideL (fun W (hW : Pr w0 W b rc a0 R (p + 1) d) => punary_word hW h1 hp (isEd_other hz (by omega)) (isK_other hz (by omega)) (isK_other hz (by omega)) (isK_other hz (by omega)))
  have C4 := hideL (fun W (hW : Pr w0 W b rc a0 R (p + 1 + 1) d) => pis_any hW 0)
  rw [hz] at C4
  have HG := hideL hg
  have HL := hideL hl
  have HK := hideL KAB
  have HP : Hid (∀ ob oc kb kc w', Li1 w' ob kb 1 (tkA R (p + 1)).t → Pr w0 w' b rc a0 R (p + 1 + 1) d → Kept (fun i => i = b) w w' → w.heap.size ≤ ob → w.heap.size ≤ kb → plPost w0 w b rc a0 R p d (.returned (.agg #[.int .i64 9, .string ⟨#[]⟩, .string ⟨#[]⟩, .int .i64 0, .bool false, .bool false, .string ⟨#[]⟩, .bool false, .bool false, .string ⟨#[]⟩, .slice (some ⟨ob, 0, none⟩) 1 oc, .slice (some ⟨kb, 0, none⟩) 1 kc, .int .i64 0])) w') := hideL (fun ob oc kb kc w' x y z m n => ⟨ob, oc, kb, kc, rfl, x, y, z, m, n⟩)
  generalize plPost w0 w b rc a0 R p d = QQ at *
  generalize (tkA R (p + 1)).t = T at *
  clear h KA KB KAB hg hl hk h1 hp hz
  go_enter Tryd.func43, Tryd.ntmps43
  go_wp2_with fail
  generalize ((w.alloc (.cells #[.int .i64 0, .string ⟨#[]⟩, .string ⟨#[]⟩, .int .i64 0, .bool false, .bool false, .string ⟨#[]⟩, .bool false, .bool false, .string ⟨#[]⟩, .slice none 0 0, .slice none 0 0, .int .i64 0] 75)).alloc (.cells #[.int .i64 9, .string ⟨#[]⟩, .string ⟨#[]⟩, .int .i64 0, .bool false, .bool false, .string ⟨#[]⟩, .bool false, .bool false, .string ⟨#[]⟩, .slice none 0 0, .slice none 0 0, .int .i64 0] 75)) = WB at *
  generalize hge : w.heap.size = g9 at HG HL hbw hw0 ⊢
  have HG9 : Hid (w.heap.size = g9) := hideL hge
  clear hge
  refine wp_loop_once ?_
  go_wp2_with (go_at_call 63; refine Stp13.go ?_)
  refine ⟨?_⟩
  refine C1.out.mono ?_
  rintro e W1 ⟨rfl, h1, k1⟩
  have hgb : ¬ g9 = b := by omega
  have hlb : ¬ g9 + 1 = b := by omega
  have G1 := hideL (k1.heap HG.out hgb)
  have L1 := hideL (k1.heap HL.out hlb)
  have H1 := hideL h1
  have K1 := hideL ((HK.out.mono (fun _ f => f.elim)).trans k1 (fun _ f => .inl f))
  have hs1 : g9 + 1 < W1.heap.size := (Array.getElem?_eq_some_iff.mp L1.out).1
  have hb1 : b < W1.heap.size := h1.lt
  clear k1 h1 HG HL HK C1
  have N0 : Hid (Gro W1 W1 3 1 (.slice none 0 0) 0 (iv [])) := hideL (gro_nil W1 _ _)
  obtain ⟨l9, hl9⟩ : ∃ l9, l9 = g9 + 1 := ⟨_, rfl⟩
  rw [← hl9] at L1 hlb hs1 ⊢
  have HL9 := hideL hl9
  clear hl9
  obtain ⟨d0, d1, d2, d3, d4, d5, d6, d7, d8, d9, d10, d11, d12, df⟩ := part_cells L1.out
  have f0 := df 0
  have f1 := df 1
  have f2 := df 2
  have f3 := df 3
  have f4 := df 4
  have f5 := df 5
  have f6 := df 6
  have f7 := df 7
  have f8 := df 8
  have f9 := df 9
  have f10 := df 10
  have f11 := df 11
  have f12 := df 12
  clear df
  go_wp2_with (first
    | (at_builtin; refine wpList_pushI rfl _ _ rfl _ 0 _ (1 : Int) rfl N0 _ (by first | rfl | simp) rfl (by omega) ?_; intro a4 c4 W4 G4; clear N0 d0 d1 d2 d3 d4 d5 d6 d7 d8 d9 d10 d11 d12 f0 f1 f2 f3 f4 f5 f6 f7 f8 f9 f10 f11 f12; have L4 := hideL (G4.out.kept.heap L1.out (fun f => f)); obtain ⟨-, -, -, -, -, -, -, -, -, -, d10, -, -, df⟩ := part_cells L4.out; have f10 := df 10; clear df)
    | (go_at_call 66; refine Stp13.go ?_))
  refine ⟨?_⟩
  clear d10 f10
  obtain ⟨ob, rfl, hob, hoc⟩ := G4.out.cell (by omega)
  have hoc := hoc 0 _ rfl
  have HLO : Hid ((W4.setCell ⟨l9, 10, none⟩ (.slice (some ⟨ob, 0, none⟩) 1 c4)).heap[l9]? = some (.cells #[.int .i64 9, .string ⟨#[]⟩, .string ⟨#[]⟩, .int .i64 0, .bool false, .bool false, .string ⟨#[]⟩, .bool false, .bool false, .string ⟨#[]⟩, .slice (some ⟨ob, 0, none⟩) 1 c4, .slice none 0 0, .int .i64 0] 75 (0, 0))) := hideL (by
    have := heap_setCell_same W4 l9 10 _ _ (.slice (some ⟨ob, 0, none⟩) 1 c4) L4.out
    simpa using this)
  have KS : Kept (fun i => i = l9) W4 (W4.setCell ⟨l9, 10, none⟩ (.slice (some ⟨ob, 0, none⟩) 1 c4)) := (Kept.setCell _ _ _).mono (fun i e => .inl e)
  have kg := G4.out.kept
  have hol : ¬ ob = l9 := by omega
  have hob2 : ¬ ob = b := by omega
  have hgl : ¬ g9 = l9 := by have := HL9.out; omega
  have hog : ¬ ob = g9 := by have := HL9.out; omega
  have hlw : w0.heap.size ≤ l9 := by have := HL9.out; omega
  have hww : w.heap.size ≤ l9 := by have := HL9.out; have := HG9.out; omega
  have o5 := KS.cell hoc hol
  have G5 := hideL (KS.heap (kg.heap G1.out (fun f => f)) hgl)
  have H5 := hideL ((H1.out.later kg).past KS (fun e => hlb e.symm) (fun i e => by omega))
  have K5 := hideL ((K1.out.trans kg (fun _ f => f.elim)).trans KS (fun i e => .inr (by omega)))
  have O5 := hideL o5
  have hs5 : W1.heap.size ≤ (W4.setCell ⟨l9, 10, none⟩ (.slice (some ⟨ob, 0, none⟩) 1 c4)).heap.size := by have := kg.size; have := KS.size; omega
  clear G4 L4 KS kg hoc o5 G1 L1 H1 K1
  generalize W4.setCell ⟨l9, 10, none⟩ (.slice (some ⟨ob, 0, none⟩) 1 c4) = W5 at *
  refine (C2.out W5 H5.out).mono ?_
  rintro e W6 ⟨rfl, h6, k6⟩
  have G6 := hideL (k6.heap G5.out hgb)
  have L6 := hideL (k6.heap HLO.out hlb)
  have H6 := hideL h6
  have O6 := hideL (k6.cell O5.out hob2)
  have K6 := hideL (K5.out.trans k6 (fun _ f => .inl f))
  have hs6 : W1.heap.size ≤ W6.heap.size := by have := k6.size; omega
  clear k6 h6 G5 HLO H5 O5 K5 C2 hs5
  have C3 := hideL (padd_first L6.out ⟨#[]⟩ T)
  go_wp2_with (go_at_call 64; refine Stp13.go ?_)
  refine ⟨?_⟩
  refine C3.out.mono ?_
  rintro e W7 ⟨rfl, ⟨kb, kc, hl7, hkb, ht7⟩, k7⟩
  have G7 := hideL (k7.heap G6.out hgl)
  have L7 := hideL hl7
  have H7 := hideL (H6.out.past k7 (fun e => hlb e.symm) (fun i e => by omega))
  have O7 := hideL (k7.cell O6.out hol)
  have T7 := hideL ht7
  have K7 := hideL (K6.out.trans k7 (fun i e => .inr (by omega)))
  have hkg : ¬ kb = g9 := by have := HL9.out; omega
  have hnn : Hid (w.heap.size ≤ ob ∧ w.heap.size ≤ kb) := hideL (by have := HL9.out; have := HG9.out; omega)
  clear k7 hl7 ht7 G6 L6 H6 O6 K6 C3
  go_wp2_with (go_at_call 67; refine Stp13.go ?_)
  refine ⟨?_⟩
  refine (C4.out _ H7.out).mono ?_
  rintro e W8 ⟨rfl, k8⟩
  have G8 := hideL (k8.heap G7.out (fun f => f))
  have L8 := hideL (k8.heap L7.out (fun f => f))
  have H8 := hideL (H7.out.later k8)
  have O8 := hideL (k8.cell O7.out (fun f => f))
  have T8 := hideL (k8.cell T7.out (fun f => f))
  have K8 := hideL (K7.out.trans k8 (fun _ f => f.elim))
  clear k8 G7 L7 H7 O7 T7 K7 C4
  obtain ⟨d0, d1, d2, d3, d4, d5, d6, d7, d8, d9, d10, d11, d12, df⟩ := part_cells L8.out
  have f0 := df 0
  have f1 := df 1
  have f2 := df 2
  have f3 := df 3
  have f4 := df 4
  have f5 := df 5
  have f6 := df 6
  have f7 := df 7
  have f8 := df 8
  have f9 := df 9
  have f10 := df 10
  have f11 := df 11
  have f12 := df 12
  clear df
  obtain ⟨c0, c1, c2, c3, c4, c5, c6, c7, c8, c9, c10, c11, c12, cf⟩ := part_cells G8.out
  have e0 := cf 0
  have e1 := cf 1
  have e2 := cf 2
  have e3 := cf 3
  have e4 := cf 4
  have e5 := cf 5
  have e6 := cf 6
  have e7 := cf 7
  have e8 := cf 8
  have e9 := cf 9
  have e10 := cf 10
  have e11 := cf 11
  have e12 := cf 12
  clear cf
  go_wp2_with fail
  refine bodyPost_ret (results_cellS rfl _ _ _ g9 _ rfl (load_part (by exact part_put G8.out))) rfl ?_
  have hgw := HG9.out
  refine HP.out ob _ kb kc _ ⟨part_keptG.cell O8.out hog, part_keptG.cell T8.out hkg⟩ (H8.out.past part_keptG (fun e => hgb e.symm) (fun i e => by omega)) (K8.out.trans part_keptG (fun i e => .inr (by omega))) hnn.out.1 hnn.out.2
end Go.Proofs.YtiemiphlfbaojaaDoor
namespace Go.Proofs.YtiemiphlfbaojaaDoor
open Go.ChangeShapes Go.WideShapes Go.ChangeAt Go.RowKit
variable {w0 w w' : World} {b rc : Nat} {a0 : Option Addr} {R : List Tn} {p d : Nat}
set_option maxRecDepth 20000 in
set_option maxHeartbeats 4000000 in
theorem ptake_last (h : Pr w0 w b rc a0 R p d) (k : Nat) (hk : isK k (tkA R p) = true) :
    Calls Tryd.prog 45 #[.pointer (some ⟨b, 0, none⟩), .int .i64 (k : Int)] w fun e w' => e = .returned (.bool true) ∧ Kept (fun i => i = b) w w' := by
  have C1 := hideL (pis_any h k)
  rw [hk] at C1
  have H0 := hideL h
  have hr := h.hr
  have hp := h.hp
  have hpb : p ≤ 500000000000 := by omega
  clear h hk hp
  go_enter Tryd.func45, Tryd.ntmps45
  go_wp2_with (go_at_call 67; refine C1.out.mono ?_; clear C1; rintro e W1 ⟨rfl, k1⟩; have H1 := hideL (H0.out.later k1); have K1 := hideL k1; have x1 := H1.out.cells.2.1; have f1 := H1.out.free 1; clear k1 H0)
  go_ret
  exact ⟨rfl, (K1.out.mono (fun _ f => f.elim)).trans (Kept.setCell _ _ _) (fun i e => .inl e)⟩
set_option maxRecDepth 20000 in
set_option maxHeartbeats 4000000 in
theorem plain_signed (ob oc kb kc : Nat) (w : World) (ho : w.cell? ⟨ob, 0, none⟩ = some (.int .i64 1)) :
    Calls Tryd.prog 46 #[.agg #[.int .i64 9, .string ⟨#[]⟩, .string ⟨#[]⟩, .int .i64 0, .bool false, .bool false, .string ⟨#[]⟩, .bool false, .bool false, .string ⟨#[]⟩, .slice (some ⟨ob, 0, none⟩) 1 oc, .slice (some ⟨kb, 0, none⟩) 1 kc]] w fun e w' => e = .returned (.agg #[.int .i64 9, .string ⟨#[]⟩, .string ⟨#[]⟩, .int .i64 0, .bool false, .bool false, .string ⟨#[]⟩, .bool false, .bool false, .string ⟨#[]⟩, .slice (some ⟨ob, 0, none⟩) 1 oc, .slice (some ⟨kb, 0, none⟩) 1 kc]) ∧ Kept (fun _ => False) w w' := by
  have KA := Kept.alloc w (.cells #[.int .i64 9, .string ⟨#[]⟩, .string ⟨#[]⟩, .int .i64 0, .bool false, .bool false, .string ⟨#[]⟩, .bool false, .bool false, .string ⟨#[]⟩, .slice (some ⟨ob, 0, none⟩) 1 oc, .slice (some ⟨kb, 0, none⟩) 1 kc] 39)
  have KB := Kept.alloc (w.alloc (.cells #[.int .i64 9, .string ⟨#[]⟩, .string ⟨#[]⟩, .int .i64 0, .bool false, .bool false, .string ⟨#[]⟩, .bool false, .bool false, .string ⟨#[]⟩, .slice (some ⟨ob, 0, none⟩) 1 oc, .slice (some ⟨kb, 0, none⟩) 1 kc] 39)) (.cells #[.int .i64 0, .string ⟨#[]⟩, .string ⟨#[]⟩, .int .i64 0, .bool false, .bool false, .string ⟨#[]⟩, .bool false, .bool false, .string ⟨#[]⟩, .slice none 0 0, .slice none 0 0] 39)
  have hg := KB.heap (heap_alloc_new w (.cells #[.int .i64 9, .string ⟨#[]⟩, .string ⟨#[]⟩, .int .i64 0, .bool false, .bool false, .string ⟨#[]⟩, .bool false, .bool false, .string ⟨#[]⟩, .slice (some ⟨ob, 0, none⟩) 1 oc, .slice (some ⟨kb, 0, none⟩) 1 kc] 39)) (fun f => f)
  have hl : ((w.alloc (.cells #[.int .i64 9, .string ⟨#[]⟩, .string ⟨#[]⟩, .int .i64 0, .bool false, .bool false, .string ⟨#[]⟩, .bool false, .bool false, .string ⟨#[]⟩, .slice (some ⟨ob, 0, none⟩) 1 oc, .slice (some ⟨kb, 0, none⟩) 1 kc] 39)).alloc (.cells #[.int .i64 0, .string ⟨#[]⟩, .string ⟨#[]⟩, .int .i64 0, .bool false, .bool false, .string ⟨#[]⟩, .bool false, .bool false, .string ⟨#[]⟩, .slice none 0 0, .slice none 0 0] 39)).heap[w.heap.size + 1]? = some (.cells #[.int .i64 0, .string ⟨#[]⟩, .string ⟨#[]⟩, .int .i64 0, .bool false, .bool false, .string ⟨#[]⟩, .bool false, .bool false, .string ⟨#[]⟩, .slice none 0 0, .slice none 0 0] 39 (0, 0)) := by
    have := heap_alloc_new (w.alloc (.cells #[.int .i64 9, .string ⟨#[]⟩, .string ⟨#[]⟩, .int .i64 0, .bool false, .bool false, .string ⟨#[]⟩, .bool false, .bool false, .string ⟨#[]⟩, .slice (some ⟨ob, 0, none⟩) 1 oc, .slice (some ⟨kb, 0, none⟩) 1 kc] 39)) (.cells #[.int .i64 0, .string ⟨#[]⟩, .string ⟨#[]⟩, .int .i64 0, .bool false, .bool false, .string ⟨#[]⟩, .bool false, .bool false, .string ⟨#[]⟩, .slice none 0 0, .slice none 0 0] 39)
    simpa using this
  have KAB := KA.trans KB (fun _ f => f.elim)
  have x0 := KAB.cell ho (fun f => f)
  have HG := hideL hg
  have HL := hideL hl
  have HK := hideL KAB
  clear KA KB KAB hg hl ho
  go_enter Tryd.func46, Tryd.ntmps46
  go_wp2_with fail
  have hfin := heap_alloc_new (w.alloc (.cells #[.int .i64 9, .string ⟨#[]⟩, .string ⟨#[]⟩, .int .i64 0, .bool false, .bool false, .string ⟨#[]⟩, .bool false, .bool false, .string ⟨#[]⟩, .slice (some ⟨ob, 0, none⟩) 1 oc, .slice (some ⟨kb, 0, none⟩) 1 kc] 39)) (.cells #[.int .i64 9, .string ⟨#[]⟩, .string ⟨#[]⟩, .int .i64 0, .bool false, .bool false, .string ⟨#[]⟩, .bool false, .bool false, .string ⟨#[]⟩, .slice (some ⟨ob, 0, none⟩) 1 oc, .slice (some ⟨kb, 0, none⟩) 1 kc] 39)
  have hsz : (w.alloc (.cells #[.int .i64 9, .string ⟨#[]⟩, .string ⟨#[]⟩, .int .i64 0, .bool false, .bool false, .string ⟨#[]⟩, .bool false, .bool false, .string ⟨#[]⟩, .slice (some ⟨ob, 0, none⟩) 1 oc, .slice (some ⟨kb, 0, none⟩) 1 kc] 39)).heap.size = w.heap.size + 1 := by simp
  rw [hsz] at hfin
  refine bodyPost_ret (results_cellS rfl _ _ _ (w.heap.size + 1) _ rfl (load_node (by exact hfin))) rfl ?_
  exact ⟨rfl, (Kept.alloc w _).trans (Kept.alloc _ _) (fun _ f => f.elim)⟩
def pqPost (w : World) (b : Nat) (t : ByteArray) (e : Ending) (w' : World) : Prop := ∃ ob oc kb kc, e = .returned (.agg #[.int .i64 9, .string ⟨#[]⟩, .string ⟨#[]⟩, .int .i64 0, .bool false, .bool false, .string ⟨#[]⟩, .bool false, .bool false, .string ⟨#[]⟩, .slice (some ⟨ob, 0, none⟩) 1 oc, .slice (some ⟨kb, 0, none⟩) 1 kc]) ∧ Li1 w' ob kb 1 t ∧ Kept (fun i => i = b) w w' ∧ w.heap.size ≤ ob ∧ w.heap.size ≤ kb
theorem Li1.past {F : Nat → Prop} {ob kb : Nat} {o : Int} {t : ByteArray} (h : Li1 w ob kb o t) (k : Kept F w w') (h1 : ¬ F ob) (h2 : ¬ F kb) : Li1 w' ob kb o t := ⟨k.cell h.occ h1, k.cell h.txt h2⟩
theorem Li1.lt {ob kb : Nat} {o : Int} {t : ByteArray} (h : Li1 w ob kb o t) : ob < w.heap.size ∧ kb < w.heap.size := ⟨World.block_lt_of_cell? w _ h.occ, World.block_lt_of_cell? w _ h.txt⟩
set_option maxRecDepth 20000 in
set_option maxHeartbeats 4000000 in
theorem pquery_plus (h : Pr w0 w b rc a0 R p d) (hk : isK 15 (tkA R p) = true) (h1 : isK 1 (tkA R (p + 1)) = true) (hp : p + 1 + 1 < R.length) (hz : isK 0 (tkA R (p + 1 + 1)) = true) :
    Calls Tryd.prog 23 #[.pointer (some ⟨b, 0, none⟩)] w (pqPost w b (tkA R (p + 1)).t) := by
  have KA := Kept.alloc w (.cells #[.int .i64 0, .string ⟨#[]⟩, .string ⟨#[]⟩, .int .i64 0, .bool false, .bool false, .string ⟨#[]⟩, .bool false, .bool false, .string ⟨#[]⟩, .slice none 0 0, .slice none 0 0] 39)
  have hg := heap_alloc_new w (.cells #[.int .i64 0, .string ⟨#[]⟩, .string ⟨#[]⟩, .int .i64 0, .bool false, .bool false, .string ⟨#[]⟩, .bool false, .bool false, .string ⟨#[]⟩, .slice none 0 0, .slice none 0 0] 39)
  have hbw := h.lt
  have hw0 := h.hb
  have C1 := hideL (plist_plus (h.later KA) hk h1 hp hz)
  have C2 := hideL (fun W (hW : Pr w0 W b rc a0 R (p + 1 + 1) d) => ptake_last hW 0 hz)
  have HP : Hid (∀ ob oc kb kc w', Li1 w' ob kb 1 (tkA R (p + 1)).t → Kept (fun i => i = b) w w' → w.heap.size ≤ ob → w.heap.size ≤ kb → pqPost w b (tkA R (p + 1)).t (.returned (.agg #[.int .i64 9, .string ⟨#[]⟩, .string ⟨#[]⟩, .int .i64 0, .bool false, .bool false, .string ⟨#[]⟩, .bool false, .bool false, .string ⟨#[]⟩, .slice (some ⟨ob, 0, none⟩) 1 oc, .slice (some ⟨kb, 0, none⟩) 1 kc])) w') := hideL (fun ob oc kb kc w' x z m n => ⟨ob, oc, kb, kc, rfl, x, z, m, n⟩)
  unfold plPost at C1
  generalize pqPost w b (tkA R (p + 1)).t = QQ at *
  generalize (tkA R (p + 1)).t = T at *
  have HG := hideL hg
  have HK := hideL KA
  have hsA : (w.alloc (.cells #[.int .i64 0, .string ⟨#[]⟩, .string ⟨#[]⟩, .int .i64 0, .bool false, .bool false, .string ⟨#[]⟩, .bool false, .bool false, .string ⟨#[]⟩, .slice none 0 0, .slice none 0 0] 39)).heap.size = w.heap.size + 1 := by simp
  have HSA := hideL hsA
  clear h KA hg hk h1 hp hz hsA
  go_enter Tryd.func23, Tryd.ntmps23
  go_wp2_with (go_at_call 43; refine Stp13.go ?_)
  generalize hge : w.heap.size = g9 at HG hbw ⊢
  have HG9 : Hid (w.heap.size = g9) := hideL hge
  clear hge
  generalize w.alloc (.cells #[.int .i64 0, .string ⟨#[]⟩, .string ⟨#[]⟩, .int .i64 0, .bool false, .bool false, .string ⟨#[]⟩, .bool false, .bool false, .string ⟨#[]⟩, .slice none 0 0, .slice none 0 0] 39) = WA at *
  refine ⟨?_⟩
  refine C1.out.mono ?_
  rintro e W1 ⟨ob, oc, kb, kc, rfl, l1, h1, k1, n1, n2⟩
  have hgb : ¬ g9 = b := by omega
  have KL := Kept.alloc W1 (.cells #[.int .i64 9, .string ⟨#[]⟩, .string ⟨#[]⟩, .int .i64 0, .bool false, .bool false, .string ⟨#[]⟩, .bool false, .bool false, .string ⟨#[]⟩, .slice (some ⟨ob, 0, none⟩) 1 oc, .slice (some ⟨kb, 0, none⟩) 1 kc, .int .i64 0] 75)
  have hn := heap_alloc_new W1 (.cells #[.int .i64 9, .string ⟨#[]⟩, .string ⟨#[]⟩, .int .i64 0, .bool false, .bool false, .string ⟨#[]⟩, .bool false, .bool false, .string ⟨#[]⟩, .slice (some ⟨ob, 0, none⟩) 1 oc, .slice (some ⟨kb, 0, none⟩) 1 kc, .int .i64 0] 75)
  have G1 := hideL (KL.heap (k1.heap HG.out hgb) (fun f => f))
  have H1 := hideL (h1.later KL)
  have L1 := hideL (l1.past KL (fun f => f) (fun f => f))
  have K1 := hideL (((HK.out.mono (fun _ f => f.elim)).trans k1 (fun _ f => .inl f)).trans KL (fun _ f => f.elim))
  have N1 := hideL hn
  have hs1 : g9 < W1.heap.size := (Array.getElem?_eq_some_iff.mp (k1.heap HG.out hgb)).1
  have hb1 := h1.lt
  have hnb : ¬ W1.heap.size = b := by omega
  have hng : ¬ W1.heap.size = g9 := by omega
  clear k1 h1 l1 HG HK C1 KL hn
  go_wp2_with (go_at_call 45; refine Stp13.go ?_)
  refine ⟨?_⟩
  generalize W1.alloc (.cells #[.int .i64 9, .string ⟨#[]⟩, .string ⟨#[]⟩, .int .i64 0, .bool false, .bool false, .string ⟨#[]⟩, .bool false, .bool false, .string ⟨#[]⟩, .slice (some ⟨ob, 0, none⟩) 1 oc, .slice (some ⟨kb, 0, none⟩) 1 kc, .int .i64 0] 75) = W2 at *
  generalize W1.heap.size = n9 at *
  refine (C2.out W2 H1.out).mono ?_
  rintro e W3 ⟨rfl, k3⟩
  have G3 := hideL (k3.heap G1.out hgb)
  have N3 := hideL (k3.heap N1.out hnb)
  have hnz : Hid (¬ ob = b ∧ ¬ kb = b ∧ ¬ ob = g9 ∧ ¬ kb = g9) := hideL (by have := HSA.out; have := HG9.out; omega)
  have L3 := hideL (L1.out.past k3 hnz.out.1 hnz.out.2.1)
  have K3 := hideL (K1.out.trans k3 (fun _ f => .inl f))
  clear k3 G1 N1 H1 L1 K1 C2
  go_wp2_with (first
    | (go_at_call 44; refine (need_yes _ _).mono ?_; rintro e W4 ⟨rfl, e4⟩; obtain rfl := e4.symm; obtain ⟨d0, d1, d2, d3, d4, d5, d6, d7, d8, d9, d10, d11, d12, df⟩ := part_cells N3.out; clear df)
    | (go_at_call 46; refine Stp13.go ?_))
  refine ⟨?_⟩
  clear d0 d1 d2 d3 d4 d5 d6 d7 d8 d9 d10 d11 d12
  refine (plain_signed ob oc kb kc _ L3.out.occ).mono ?_
  rintro e W5 ⟨rfl, k5⟩
  have G5 := hideL (k5.heap G3.out (fun f => f))
  have L5 := hideL (L3.out.past k5 (fun f => f) (fun f => f))
  have K5 := hideL (K3.out.trans k5 (fun _ f => f.elim))
  clear k5 G3 N3 L3 K3
  obtain ⟨d0, d1, d2, d3, d4, d5, d6, d7, d8, d9, d10, d11, df⟩ := node_cells G5.out
  have f0 := df 0
  have f1 := df 1
  have f2 := df 2
  have f3 := df 3
  have f4 := df 4
  have f5 := df 5
  have f6 := df 6
  have f7 := df 7
  have f8 := df 8
  have f9 := df 9
  have f10 := df 10
  have f11 := df 11
  clear df
  go_wp2_with fail
  refine bodyPost_ret (results_cellS rfl _ _ _ g9 _ rfl (load_node (by exact node_put12 G5.out))) rfl ?_
  have hgw := HG9.out
  exact HP.out ob _ kb kc _ (L5.out.past node_keptG hnz.out.2.2.1 hnz.out.2.2.2) (K5.out.trans node_keptG (fun i e => .inr (by omega))) (by have := HSA.out; omega) (by have := HSA.out; omega)
end Go.Proofs.YtiemiphlfbaojaaDoor
