import Derived.Test.YtiemiphlfbaojaaDoorMrg3
namespace Go.Proofs.YtiemiphlfbaojaaDoor
open Go.ChangeShapes Go.WideShapes Go.ChangeAt Go.RowKit
variable {w : World}
def StW (g h : Nat) (r x : Array Value) (V : World) : Prop := V.heap[g]? = some (.cells r 57 (0, 0)) ∧ V.heap[h]? = some (.cells x 59 (0, 0))
theorem StW.later {g h : Nat} {r x : Array Value} {V V' : World} (s : StW g h r x V) (k : Kept (fun _ => False) V V') : StW g h r x V' := ⟨k.heap s.1 (fun f => f), k.heap s.2 (fun f => f)⟩
set_option maxRecDepth 20000 in
set_option maxHeartbeats 4000000 in
theorem step_3 (sg : Bool) (op : List Bool) (y : Tn) (oa : Option Addr) (on oc : Nat) (w : World) : Calls Tryd.prog 21 #[.agg #[.int .i64 3, .bool sg, .slice oa on oc], .agg (lxC y)] w (rwPost w (.slice oa on oc) op y (stepF ⟨3, sg, op⟩ y)) := by
  have CS := hideL (fun W => isStarR_any y W)
  have HPS : Hid (∀ w', Kept (fun _ => False) w w' → rwPost w (.slice oa on oc) op y (some ⟨9, sg, op⟩) (.returned (.tuple #[.agg #[.int .i64 9, .bool sg, .slice oa on oc], .bool true])) w') := hideL (fun w' k => rw_same k rfl)
  have HPN : Hid (∀ w', Kept (fun _ => False) w w' → rwPost w (.slice oa on oc) op y none (.returned (.tuple #[.agg #[.int .i64 9, .bool sg, .slice oa on oc], .bool false])) w') := hideL (fun w' k => rw_none k)
  rw [show stepF ⟨3, sg, op⟩ y = if isSt y then some ⟨9, sg, op⟩ else none from rfl]
  generalize rwPost w (.slice oa on oc) op y = QQ at *
  cases qs : isSt y
  all_goals
    rw [qs] at CS
    first | rw [if_pos rfl] | rw [if_neg (by decide)]
    clear qs
    rcases tok_class y with ⟨b20, hEd, hSl⟩ | ⟨b20, m1, ge, hEd, hSl⟩ | ⟨b20, m1, n1, ge, hEd, hSl⟩ | ⟨b20, m1, n1, n2, ge, hEd, hSl⟩ | ⟨b20, m1, n1, n2, ge, hEd, hSl⟩ | ⟨b20, m1, n1, n2, ge, hEd, hSl⟩
    all_goals
      obtain ⟨k, t, n, ya, e⟩ := y
      unfold lxC at *
      dsimp only at *
      obtain ⟨KB, h0, h1, h2, hz⟩ := boxes3 w #[.int .i64 9, .bool sg, .slice oa on oc] #[.int .i64 k, .string t, .int .i64 n, .int .i64 ya, .int .i64 e] #[.int .i64 0, .bool false, .slice none 0 0] 57 59 57
      have HK := hideL KB
      have H01 : Hid (StW w.heap.size (w.heap.size + 1) #[.int .i64 9, .bool sg, .slice oa on oc] #[.int .i64 k, .string t, .int .i64 n, .int .i64 ya, .int .i64 e] _) := hideL ⟨h0, h1⟩
      have H2 := hideL h2
      clear hEd hSl KB h0 h1 h2 hz
      go_enter Tryd.func21, Tryd.ntmps21
      go_wp2_with fail
      generalize ((w.alloc (.cells #[.int .i64 9, .bool sg, .slice oa on oc] 57)).alloc (.cells #[.int .i64 k, .string t, .int .i64 n, .int .i64 ya, .int .i64 e] 59)).alloc (.cells #[.int .i64 0, .bool false, .slice none 0 0] 57) = WB at *
      generalize hge : w.heap.size = g9 at H01 H2 ⊢
      have HG9 : Hid (w.heap.size = g9) := hideL hge
      clear hge
      refine wp_region_held (S := StW g9 (g9 + 1) #[.int .i64 9, .bool sg, .slice oa on oc] #[.int .i64 k, .string t, .int .i64 n, .int .i64 ya, .int .i64 e]) (by kernel_rfl) ?_
      change wpAnyH _ _ _ _ _ _ _ _ (World.drew _)
      have hS := H01.out.later (Kept.drew WB)
      have HK2 := hideL (HK.out.trans (Kept.drew WB) (fun _ f => f.elim))
      have H22 := hideL ((Kept.drew WB).heap H2.out (fun f => f))
      clear HK H2 H01
      generalize WB.drew = V0 at *
      refine takeZ (i := 0) (d := 68) (v := .agg #[.int .i64 9, .bool sg, .slice oa on oc]) rfl rfl (by kernel_rfl) (by kernel_rfl) (by kernel_rfl) (fun _ _ _ h => h) (Or.inl ⟨by rfl, fun W hW => ?_⟩) hS ?_
      · (obtain ⟨c0, c1, c2, -⟩ := row3_cells hW.1; go_simp)
      simp only [Act.put, List.setIfInBounds_toArray, List.set_cons_zero, List.set_cons_succ]
      refine takeZ (i := 1) (d := 69) (v := .agg #[.int .i64 k, .string t, .int .i64 n, .int .i64 ya, .int .i64 e]) rfl rfl (by kernel_rfl) (by kernel_rfl) (by kernel_rfl) (fun _ _ _ h => h) (Or.inl ⟨by rfl, fun W hW => ?_⟩) hS ?_
      · (obtain ⟨x0, x1, x2, x3, x4, -⟩ := rowS_cells5 hW.2; go_simp)
      simp only [Act.put, List.setIfInBounds_toArray, List.set_cons_zero, List.set_cons_succ]
      refine wpAnyH_all (rs := [2]) (by kernel_rfl) (by simp) ?_
      intro i' hi'
      obtain rfl : i' = 2 := by simpa using hi'
      unfold wpOp
      go_simp
      first | refine (CS.out _).mono ?_ | refine Or.inl ((CS.out _).mono ?_)
      clear CS
      rintro x V2 ⟨rfl, k2⟩
      have hS2 := hS.later k2
      have H3 := hideL (k2.heap H22.out (fun f => f))
      have K3 := hideL (HK2.out.trans k2 (fun _ f => f.elim))
      clear H22 HK2 k2 hS
      refine ⟨hS2, ?_⟩
      refine wpAnyH_all (rs := [3]) (by kernel_rfl) (by simp) ?_
      intro i' hi'
      obtain rfl : i' = 3 := by simpa using hi'
      obtain ⟨d0, d1, d2, df⟩ := row3_cells H3.out
      have e0 := df 0
      have e1 := df 1
      have e2 := df 2
      clear df
      unfold wpOp
      go_simp
      have hE := row3_put (v0 := .int .i64 9) (v1 := .bool sg) (v2 := .slice oa on oc) H3.out
      have KE := row3_keptG (W := V2) (g := g9 + 2) (v0 := .int .i64 9) (v1 := .bool sg) (v2 := .slice oa on oc)
      have hS3 : StW g9 (g9 + 1) #[.int .i64 9, .bool sg, .slice oa on oc] #[.int .i64 k, .string t, .int .i64 n, .int .i64 ya, .int .i64 e] _ := ⟨KE.heap hS2.1 (by omega), KE.heap hS2.2 (by omega)⟩
      first | refine Or.inl ⟨hS3, ?_⟩ | refine ⟨hS3, ?_⟩ | (change wpAnyH _ _ _ _ _ _ _ _ _) | refine Or.inl ?_
      clear d0 d1 d2 e0 e1 e2
      refine wpAnyH_all (rs := [4]) (by kernel_rfl) (by simp) ?_
      intro i' hi'
      obtain rfl : i' = 4 := by simpa using hi'
      unfold wpOp
      go_simp
      first | refine Or.inl ⟨hS3, ?_⟩ | refine ⟨hS3, ?_⟩ | (change wpAnyH _ _ _ _ _ _ _ _ _) | refine Or.inl ?_
      refine wpAnyH_done (by kernel_rfl) ?_ _
      go_wp2_with fail
      refine bodyPost_ret (results_cellW rfl _ _ _ (g9 + 1 + 1) _ rfl (load_row3 (by exact hE))) rfl ?_
      first | exact HPS.out _ (K3.out.trans KE (fun i e => .inr (by have := HG9.out; omega))) | exact HPN.out _ (K3.out.trans KE (fun i e => .inr (by have := HG9.out; omega)))
end Go.Proofs.YtiemiphlfbaojaaDoor
