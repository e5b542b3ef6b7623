import Derived.Test.YtjmmdklgkcbihaaDoorHne
namespace Go.Proofs.YtjmmdklgkcbihaaDoor
open Go.ChangeShapes Go.WideShapes Go.ChangeAt Go.RowKit

set_option maxRecDepth 20000 in
set_option maxHeartbeats 4000000 in
/-- A copy with marked spare room. -/
theorem handB_any (p : List Int) (a : Option Addr) (n c : Nat) (w : World) (hn : n = p.length) (hB : BytesAt w a p) (ha : a = none → c = 0) (hl : n ≤ 35184372088832) :
    Calls Tryd.prog 13 #[.slice a n c] w fun e w' => ∃ hb f cf q cq, e = .returned (.pointer (some ⟨hb, 0, none⟩)) ∧ Hd w' hb f cf q cq n (p ++ hrm 80) ∧ w.heap.size ≤ hb ∧ w.heap.size ≤ f ∧ w.heap.size ≤ q ∧ Kept (fun _ => False) w w' := by
  obtain ⟨V0, hV0⟩ : ∃ V0, V0 = w.alloc (.cells #[.slice none 0 0, .slice none 0 0, .int .i64 n] 82) := ⟨_, rfl⟩
  have k0 : Kept (fun _ => False) w V0 := by rw [hV0]; exact Kept.alloc w _
  have o0 : V0.heap[w.heap.size]? = some (.cells #[.slice none 0 0, .slice none 0 0, .int .i64 n] 82 (0, 0)) := by rw [hV0]; exact heap_alloc_new w _
  have s0 : w.heap.size < V0.heap.size := lt_of_block o0
  have c0 : V0.cell? ⟨w.heap.size, 0, none⟩ = some (.slice none 0 0) := by rw [cell_of_row _ _ _ _ _ _ o0]; rfl
  have HO0 : Hid (V0.ownsRow V0.heap.size 5 1 (.slice none 0 0) 0 (bs [])) := hideH ⟨rfl, .inl ⟨rfl, rfl⟩⟩
  have HB0 : Hid (BytesAt V0 a p) := hideH (fun hne => by
    obtain ⟨b, off, e, hc⟩ := hB hne
    exact ⟨b, off, e, fun j hj => k0.cell (hc j hj) (fun f => f)⟩)
  have HA := hideH ha
  have HNp := hideH hn
  have HK0 := hideH k0
  have HOb := hideH o0
  have HVe := hideH hV0
  rw [hV0] at c0
  clear hB ha hn k0 o0
  go_enter Tryd.func13, Tryd.ntmps13
  go_wp2_with (at_builtin; refine StpH.go ?_)
  rw [← HVe.out]
  refine ⟨?_⟩
  refine wpList_catH (base := V0.heap.size) rfl _ _ rfl (.slice none 0 0) 0 [] p rfl HO0 a n c rfl HNp HB0 HA (by omega) (hideH (Nat.le_refl _)) ?_
  intro a1 c1 V1 O1 K1
  rw [Nat.zero_add, List.nil_append] at O1
  rw [Nat.zero_add]
  have k1 : Kept (fun _ => False) V0 V1 := K1.out.mono (fun i e => by cases e)
  have o1 := k1.heap HOb.out (fun f => f)
  have hs01 : V0.heap.size ≤ V1.heap.size := k1.size
  have x1 : V1.cell? ⟨w.heap.size, 0, none⟩ = some (.slice none 0 0) := by rw [cell_of_row _ _ _ _ _ _ o1]; rfl
  have f1 : V1.frozen? ⟨w.heap.size, 0, none⟩ = false := by simp [World.frozen?, o1]
  have ks := Kept.setCell V1 ⟨w.heap.size, 0, none⟩ (.slice a1 n c1)
  have HO2 : Hid ((V1.setCell ⟨w.heap.size, 0, none⟩ (.slice a1 n c1)).ownsRow V0.heap.size 5 1 (.slice a1 n c1) n (bs p)) := hideH (ks.row O1.out (fun k e f => by have e1 := (O1.out.lt k e).1; have e2 : k = w.heap.size := f; omega))
  have HS2 : Hid ((V1.setCell ⟨w.heap.size, 0, none⟩ (.slice a1 n c1)).heap[w.heap.size]? = some (.cells #[.slice a1 n c1, .slice none 0 0, .int .i64 n] 82 (0, 0))) := hideH (heap_setCell_same V1 w.heap.size 0 _ _ _ o1)
  have HK2 : Hid (Kept (fun _ => False) w (V1.setCell ⟨w.heap.size, 0, none⟩ (.slice a1 n c1))) := hideH ((HK0.out.trans k1 (fun _ f => f.elim)).trans ks (fun k e => .inr (by have e2 : k = w.heap.size := e; omega)))
  have hVw : w.heap.size ≤ V0.heap.size := HK0.out.size
  clear O1 K1 k1 o1 ks HO0 HB0 HA HOb HVe c0 hV0 HK0
  go_wp2_with fail
  go_loopw [4] (fun s4 wr => ∃ (k m : Nat) (af : Option Addr) (cf : Nat), k ≤ 80 ∧ m = n + k ∧ s4 = .int .i64 k ∧ Hid (wr.heap[w.heap.size]? = some (.cells #[.slice af m cf, .slice none 0 0, .int .i64 n] 82 (0, 0))) ∧ Hid (wr.ownsRow V0.heap.size 5 1 (.slice af m cf) m (bs (p ++ hrm k))) ∧ Hid (Kept (fun _ => False) w wr) ∧ V0.heap.size ≤ wr.heap.size) (fun s4 _ => 80 - (intOf s4).toNat)
  case atStart => exact ⟨0, n, a1, c1, by omega, rfl, rfl, HS2, hideH (by have := HO2.out; simp only [hrm, List.range_zero, List.map_nil, List.append_nil]; exact this), HK2, by simpa using hs01⟩
  case round =>
  obtain ⟨k, m, af, cf, hk, hm, rfl, HH, HO, HKr, hsz⟩ := hrel
  subst hm
  clear HO2 HS2 HK2
  by_cases hlt : k < 80
  · have x0 : wr.cell? ⟨w.heap.size, 0, none⟩ = some (.slice af (n + k) cf) := by rw [cell_of_row _ _ _ _ _ _ HH.out]; rfl
    have ka := Kept.alloc wr (.cells #[.int .u8 (((201 + 7 * (k : Int)) % 256))] 5)
    have HO1 := hideH (ka.row HO.out (fun _ _ f => f))
    have o1 := ka.heap HH.out (fun f => f)
    have HB1 : Hid (BytesAt (wr.alloc (.cells #[.int .u8 (((201 + 7 * (k : Int)) % 256))] 5)) (some ⟨wr.heap.size, 0, none⟩) [((201 + 7 * (k : Int)) % 256)]) := hideH (fun _ => ⟨wr.heap.size, 0, rfl, fun j hj => by
      have hj0 : j = 0 := by simp at hj; omega
      subst hj0
      rw [Nat.zero_add, cell_of_row _ _ _ _ _ _ (heap_alloc_new wr _)]
      rfl⟩)
    have HE : Hid ((p ++ hrm k) ++ [((201 + 7 * (k : Int)) % 256)] = p ++ hrm (k + 1)) := hideH (by rw [hrm_succ, List.append_assoc])
    have HOo := hideH o1
    have HKa := hideH (HKr.out.trans ka (fun _ f => f.elim))
    have hsz1 : V0.heap.size ≤ (wr.alloc (.cells #[.int .u8 (((201 + 7 * (k : Int)) % 256))] 5)).heap.size := Nat.le_trans hsz ka.size
    have w1 : IntKind.i64.wrap (7 * (k : Int)) = 7 * (k : Int) := by rw [IntKind.wrap_i64]; omega
    have w2 : IntKind.i64.wrap (201 + 7 * (k : Int)) = 201 + 7 * (k : Int) := by rw [IntKind.wrap_i64]; omega
    have i1 : (k : Int) < 80 := by omega
    have hhbl : w.heap.size < V0.heap.size := s0
    clear HO HH HKr ka o1
    go_wp2_with (at_builtin; refine StpH.go ?_)
    refine ⟨?_⟩
    refine wpList_catH (base := V0.heap.size) rfl _ _ rfl (.slice af (n + k) cf) (n + k) (p ++ hrm k) [(201 + 7 * (k : Int)) % 256] rfl HO1 (some ⟨wr.heap.size, 0, none⟩) 1 1 rfl (hideH rfl) HB1 (hideH (fun e => by cases e)) (by omega) (hideH hsz1) ?_
    intro a2 c2 V2 O2 K2
    rw [HE.out] at O2
    have hne : ∀ i, (Value.slice af (n + k) cf).ownBlock = some i → i ≠ w.heap.size := fun i e f => by have := (HO1.out.lt i e).1; omega
    have o2 := K2.out.heap HOo.out (fun e => hne w.heap.size e rfl)
    have x2 : V2.cell? ⟨w.heap.size, 0, none⟩ = some (.slice af (n + k) cf) := by rw [cell_of_row _ _ _ _ _ _ o2]; rfl
    have f2 : V2.frozen? ⟨w.heap.size, 0, none⟩ = false := by simp [World.frozen?, o2]
    have ks := Kept.setCell V2 ⟨w.heap.size, 0, none⟩ (.slice a2 (n + k + 1) c2)
    have HO3 : Hid ((V2.setCell ⟨w.heap.size, 0, none⟩ (.slice a2 (n + k + 1) c2)).ownsRow V0.heap.size 5 1 (.slice a2 (n + k + 1) c2) (n + k + 1) (bs (p ++ hrm (k + 1)))) := hideH (ks.row O2.out (fun i e f => by have e1 := (O2.out.lt i e).1; have e2 : i = w.heap.size := f; omega))
    have HH3 : Hid ((V2.setCell ⟨w.heap.size, 0, none⟩ (.slice a2 (n + k + 1) c2)).heap[w.heap.size]? = some (.cells #[.slice a2 (n + k + 1) c2, .slice none 0 0, .int .i64 n] 82 (0, 0))) := hideH (heap_setCell_same V2 w.heap.size 0 _ _ _ o2)
    have HK3 : Hid (Kept (fun _ => False) w (V2.setCell ⟨w.heap.size, 0, none⟩ (.slice a2 (n + k + 1) c2))) := hideH ((HKa.out.trans K2.out (fun i e => .inr (by have := (HO1.out.lt i e).1; omega))).trans ks (fun i e => .inr (by have e2 : i = w.heap.size := e; omega)))
    have hsz3 : V0.heap.size ≤ (V2.setCell ⟨w.heap.size, 0, none⟩ (.slice a2 (n + k + 1) c2)).heap.size := Nat.le_trans hsz1 (Nat.le_trans K2.out.size ks.size)
    clear O2 K2 hne o2 ks HO1 HOo HKa HB1
    go_wp2_with fail
    go_roundw
    case rel => exact ⟨k + 1, n + k + 1, a2, c2, by omega, by omega, by go_num, HH3, HO3, HK3, hsz3⟩
    case measure => simp [intOf]; omega
  · obtain rfl : k = 80 := by omega
    have i1 : ¬ ((80 : Nat) : Int) < 80 := by omega
    obtain ⟨i0, hi0, hz0, hz1, hz2⟩ := info_parts Tryd.infoB
    obtain ⟨f, rfl⟩ : ∃ f, af = some ⟨f, 0, none⟩ := by
      rcases HO.out.2 with ⟨e, e2⟩ | ⟨g, cap, cur, e, _⟩
      · omega
      · simp only [Value.slice.injEq] at e
        exact ⟨g, e.1⟩
    have HLb : Hid ((bs (p ++ hrm 80)).length = (n + 80) * 1) := hideH (by rw [bs_length, List.length_append, hrm_length, ← HNp.out, Nat.mul_one])
    have HCl : Hid (∀ j u, (bs (p ++ hrm 80))[j]? = some u → wr.drew.cell? ((⟨f, 0, none⟩ : Addr).add j) = some u) := hideH (fun j u hu => ((Kept.drew wr).row HO.out (fun _ _ f => f)).cells (g := f) rfl j u hu)
    have hS : wr.drew.cell? ⟨w.heap.size, 0, none⟩ = some (.slice (some ⟨f, 0, none⟩) (n + 80) cf) := by rw [cell_of_row _ _ _ _ _ _ ((Kept.drew wr).heap HH.out (fun f => f))]; rfl
    have y1 : wr.drew.cell? ⟨w.heap.size, 1, none⟩ = some (.slice none 0 0) := by rw [cell_of_row _ _ _ _ _ _ ((Kept.drew wr).heap HH.out (fun f => f))]; rfl
    clear hlt hk
    go_wp2_with fail
    refine wp_region_held (S := fun W' => W'.cell? ⟨w.heap.size, 0, none⟩ = some (.slice (some ⟨f, 0, none⟩) (n + 80) cf)) (by kernel_rfl) ?_
    change wpAnyH _ _ _ _ _ _ _ _ (World.drew _)
    refine takeYH (i := 0) (d := 35) (v := .pointer (some ⟨w.heap.size, 0, none⟩)) rfl rfl (by kernel_rfl) (by kernel_rfl) (by kernel_rfl) (fun _ _ _ h => h) (Or.inl ⟨by rfl, fun W hW => ?_⟩) hS ?_
    · (go_simp)
    simp only [Act.put, List.setIfInBounds_toArray, List.set_cons_zero, List.set_cons_succ]
    refine takeYH (i := 1) (d := 36) (v := .pointer (some ⟨w.heap.size, 0, none⟩)) rfl rfl (by kernel_rfl) (by kernel_rfl) (by kernel_rfl) (fun _ _ _ h => h) (Or.inl ⟨by rfl, fun W hW => ?_⟩) hS ?_
    · (go_simp)
    simp only [Act.put, List.setIfInBounds_toArray, List.set_cons_zero, List.set_cons_succ]
    refine takeYH (i := 2) (d := 37) (v := .pointer (some ⟨w.heap.size, 0, none⟩)) rfl rfl (by kernel_rfl) (by kernel_rfl) (by kernel_rfl) (fun _ _ _ h => h) (Or.inl ⟨by rfl, fun W hW => ?_⟩) hS ?_
    · (go_simp)
    simp only [Act.put, List.setIfInBounds_toArray, List.set_cons_zero, List.set_cons_succ]
    refine takeYH (i := 3) (d := 38) (v := .pointer (some ⟨w.heap.size, 1, none⟩)) rfl rfl (by kernel_rfl) (by kernel_rfl) (by kernel_rfl) (fun _ _ _ h => h) (Or.inl ⟨by rfl, fun W hW => ?_⟩) hS ?_
    · (go_simp)
    simp only [Act.put, List.setIfInBounds_toArray, List.set_cons_zero, List.set_cons_succ]
    refine takeYH (i := 5) (d := 40) (v := .pointer (some ⟨w.heap.size, 0, none⟩)) rfl rfl (by kernel_rfl) (by kernel_rfl) (by kernel_rfl) (fun _ _ _ h => h) (Or.inl ⟨by rfl, fun W hW => ?_⟩) hS ?_
    · (go_simp)
    simp only [Act.put, List.setIfInBounds_toArray, List.set_cons_zero, List.set_cons_succ]
    refine takeYH (i := 6) (d := 41) (v := .pointer (some ⟨w.heap.size, 0, none⟩)) rfl rfl (by kernel_rfl) (by kernel_rfl) (by kernel_rfl) (fun _ _ _ h => h) (Or.inl ⟨by rfl, fun W hW => ?_⟩) hS ?_
    · (go_simp)
    simp only [Act.put, List.setIfInBounds_toArray, List.set_cons_zero, List.set_cons_succ]
    refine takeYH (i := 7) (d := 42) (v := .pointer (some ⟨w.heap.size, 0, none⟩)) rfl rfl (by kernel_rfl) (by kernel_rfl) (by kernel_rfl) (fun _ _ _ h => h) (Or.inl ⟨by rfl, fun W hW => ?_⟩) hS ?_
    · (go_simp)
    simp only [Act.put, List.setIfInBounds_toArray, List.set_cons_zero, List.set_cons_succ]
    refine takeYH (i := 8) (d := 43) (v := .slice (some ⟨f, 0, none⟩) (n + 80) cf) rfl rfl (by kernel_rfl) (by kernel_rfl) (by kernel_rfl) (fun _ _ _ h => h) (Or.inl ⟨by rfl, fun W hW => ?_⟩) hS ?_
    · (go_simp)
    simp only [Act.put, List.setIfInBounds_toArray, List.set_cons_zero, List.set_cons_succ]
    refine wpAnyH_all (rs := [4]) (by kernel_rfl) (by simp) ?_
    intro i' hi'
    obtain rfl : i' = 4 := by simpa using hi'
    unfold wpOp
    go_simp
    first | refine Or.inl ⟨hS, ?_⟩ | refine ⟨hS, ?_⟩ | (change wpAnyH _ _ _ _ _ _ _ _ _) | refine Or.inl ?_
    refine wpAnyH_all (rs := [9]) (by kernel_rfl) (by simp) ?_
    intro i' hi'
    obtain rfl : i' = 9 := by simpa using hi'
    refine wpOp_inH rfl rfl ?_
    refine wp_append_lies wr.drew (.tmp 39) (.tmp 43) 26 rfl wr.drew.heap.size 5 i0 (.int .u8 0) 1 1 Tryd.underlying26 hi0 hz0 hz1 hz2 rfl (by decide) (.slice none 0 0) 0 [] rfl (World.ownsRow_nil _ _ _ _) ⟨f, 0, none⟩ (n + 80) cf (bs (p ++ hrm 80)) rfl HLb.out HCl.out (bs_one _) (by omega) (by unfold maxLen; omega) (by omega) (Nat.le_refl _) _ rfl ?_
    intro q cq V2 hO hG hat hql
    rw [List.nil_append, Nat.zero_add] at hO
    rw [Nat.zero_add]
    have kg : Kept (fun _ => False) wr.drew V2 := (Kept.grown hG).mono (fun _ e => by cases e)
    have k2 : Kept (fun _ => False) wr V2 := (Kept.drew wr).trans kg (fun _ f => f.elim)
    have hq : q = wr.heap.size := by
      rcases hat with e | e
      · cases e
      · exact e
    have hS2 : V2.cell? ⟨w.heap.size, 0, none⟩ = some (.slice (some ⟨f, 0, none⟩) (n + 80) cf) := k2.cell (by rw [cell_of_row _ _ _ _ _ _ HH.out]; rfl) (fun f => f)
    have o2 := k2.heap HH.out (fun f => f)
    have r2 := k2.row HO.out (fun _ _ f => f)
    refine ⟨hS2, ?_⟩
    simp only [Act.put, List.setIfInBounds_toArray]
    have x2 : V2.cell? ⟨w.heap.size, 1, none⟩ = some (.slice none 0 0) := by rw [cell_of_row _ _ _ _ _ _ o2]; rfl
    have f2 : V2.frozen? ⟨w.heap.size, 1, none⟩ = false := by simp [World.frozen?, o2]
    have ks := Kept.setCell V2 ⟨w.heap.size, 1, none⟩ (.slice (some ⟨q, 0, none⟩) (n + 80) cq)
    have hfin : Hd (V2.setCell ⟨w.heap.size, 1, none⟩ (.slice (some ⟨q, 0, none⟩) (n + 80) cq)) w.heap.size f cf q cq n (p ++ hrm 80) := by
      have hbf : w.heap.size ≠ f := by have := (HO.out.lt f rfl).1; omega
      have hbq : w.heap.size ≠ q := by have := lt_of_block HH.out; omega
      refine ⟨heap_setCell_same V2 w.heap.size 1 _ _ _ o2, (Lib.of_own r2).kept ks (fun k e g => ?_), (Lib.of_own hO).kept ks (fun k e g => ?_), ?_, hbf, hbq, ?_⟩
      · have e2 : f = k := Option.some.inj e
        have e3 : k = w.heap.size := g
        omega
      · have e2 : q = k := Option.some.inj e
        have e3 : k = w.heap.size := g
        omega
      · rw [List.length_append, hrm_length, ← HNp.out]
      · have := (HO.out.lt f rfl).2
        omega
    have hS3 : (V2.setCell ⟨w.heap.size, 1, none⟩ (.slice (some ⟨q, 0, none⟩) (n + 80) cq)).cell? ⟨w.heap.size, 0, none⟩ = some (.slice (some ⟨f, 0, none⟩) (n + 80) cf) := hfin.cells.1
    have HF := hideH hfin
    have HKF : Hid (Kept (fun _ => False) w (V2.setCell ⟨w.heap.size, 1, none⟩ (.slice (some ⟨q, 0, none⟩) (n + 80) cq))) := hideH ((HKr.out.trans k2 (fun _ f => f.elim)).trans ks (fun k e => .inr (by have e2 : k = w.heap.size := e; omega)))
    have hqw : w.heap.size ≤ q := by have := HKr.out.size; omega
    have hfw : w.heap.size ≤ f := by have := (HO.out.lt f rfl).1; omega
    have hbw : w.heap.size ≤ w.heap.size := by omega
    clear hfin ks k2 o2 r2 hO hG hat hql hq kg
    refine takeYH (i := 10) (d := 45) (v := .pointer (some ⟨w.heap.size, 0, none⟩)) rfl rfl (by kernel_rfl) (by kernel_rfl) (by kernel_rfl) (fun _ _ _ h => h) (Or.inl ⟨by rfl, fun W hW => ?_⟩) hS2 ?_
    · (go_simp)
    simp only [Act.put]
    refine takeYH (i := 11) (d := 46) (v := .pointer (some ⟨w.heap.size, 1, none⟩)) rfl rfl (by kernel_rfl) (by kernel_rfl) (by kernel_rfl) (fun _ _ _ h => h) (Or.inl ⟨by rfl, fun W hW => ?_⟩) hS2 ?_
    · (go_simp)
    simp only [Act.put]
    refine wpAnyH_all (rs := [12]) (by kernel_rfl) (by simp) ?_
    intro i' hi'
    obtain rfl : i' = 12 := by simpa using hi'
    unfold wpOp
    go_simp
    first | refine Or.inl ⟨hS3, ?_⟩ | refine ⟨hS3, ?_⟩ | (change wpAnyH _ _ _ _ _ _ _ _ _) | refine Or.inl ?_
    refine wpAnyH_done (by kernel_rfl) ?_ _
    go_wp2
    go_ret
    exact ⟨w.heap.size, f, cf, q, cq, rfl, HF.out, hbw, hfw, hqw, HKF.out⟩
end Go.Proofs.YtjmmdklgkcbihaaDoor
