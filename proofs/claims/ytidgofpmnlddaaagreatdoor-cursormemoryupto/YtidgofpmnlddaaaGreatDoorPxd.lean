import Derived.Test.YtidgofpmnlddaaaGreatDoorPxc
namespace Go.Proofs.YtidgofpmnlddaaaGreatDoor
open Go.ChangeShapes Go.WideShapes Go.ChangeAt Go.RowKit

/-- The document's reader at its block. -/
def RdX (W : World) (rb : Nat) (a : Option Addr) (n c p : Nat) (bd : Bool) : Prop := W.heap[rb]? = some (.cells #[.slice a n c, .int .i64 (p : Nat), .bool bd] 68 (0, 0))
theorem row3 {W : World} {b : Nat} {x0 x1 x2 : Value} {T : TypeId} (h : W.heap[b]? = some (.cells #[x0, x1, x2] T (0, 0))) :
    (W.cell? ⟨b, 0, none⟩ = some x0 ∧ W.cell? ⟨b, 1, none⟩ = some x1 ∧ W.cell? ⟨b, 2, none⟩ = some x2) ∧ (∀ j, W.frozen? ⟨b, j, none⟩ = false) := by
  have hc := fun j => cell_of_row W b j _ _ _ h
  refine ⟨⟨?_, ?_, ?_⟩, fun j => ?_⟩
  · rw [hc]; rfl
  · rw [hc]; rfl
  · rw [hc]; rfl
  · simp [World.frozen?, h]
theorem RdX.kept {W W' : World} {rb : Nat} {a : Option Addr} {n c p : Nat} {bd : Bool} (h : RdX W rb a n c p bd) (k : Kept (fun _ => False) W W') : RdX W' rb a n c p bd := k.heap h (fun f => f)
theorem RdX.bad {W : World} {rb : Nat} {a : Option Addr} {n c p : Nat} {bd : Bool} (h : RdX W rb a n c p bd) : RdX (W.setCell ⟨rb, 2, none⟩ (.bool true)) rb a n c p true := heap_setCell_same W rb 2 _ _ _ h
theorem RdX.at {W : World} {rb : Nat} {a : Option Addr} {n c p : Nat} {bd : Bool} (h : RdX W rb a n c p bd) (q : Nat) : RdX (W.setCell ⟨rb, 1, none⟩ (.int .i64 (q : Nat))) rb a n c q bd := heap_setCell_same W rb 1 _ _ _ h
theorem pkn_len {l xs : List Int} {p q : Nat} (h : pkn 16 l p = some (xs, q)) : xs.length ≤ 16 := by
  unfold pkn at h
  split at h
  · cases h
  · rename_i m q1 hu
    split at h
    · cases h
    · rename_i ys k hr
      have hm : (m : Int) ≤ 16 := by
        unfold upn at hu
        split at hu
        · cases hu
        · split at hu
          · rename_i hle
            injection hu with hu
            injection hu with h1 h2
            omega
          · cases hu
      have hy : ys.length = m := by
        unfold rdp at hr
        split at hr
        · rename_i h0
          injection hr with hr
          injection hr with h1 h2
          rw [← h1, h0]
          rfl
        · split at hr
          · cases hr
          · split at hr
            · cases hr
            · split at hr
              · cases hr
              · split at hr
                · injection hr with hr
                  injection hr with h1 h2
                  rw [← h1, unp_length]
                · cases hr
      injection h with h
      injection h with h1 h2
      rw [← h1]
      omega
/-- What number leaves. -/
def nmP (W : World) (rb : Nat) (a : Option Addr) (n c p : Nat) (e : Ending) (w' : World) : Option (Nat × Nat) → Prop
  | none => e = .returned (.int .i64 0) ∧ RdX w' rb a n c p true ∧ Kept (fun i => i = rb) W w'
  | some (x, q) => e = .returned (.int .i64 (x : Nat)) ∧ RdX w' rb a n c q false ∧ Kept (fun i => i = rb) W w'
/-- What packed leaves. -/
def pcP (W : World) (rb : Nat) (a : Option Addr) (n c p : Nat) (e : Ending) (w' : World) : Option (List Int × Nat) → Prop
  | none => e = .returned (.slice none 0 0) ∧ RdX w' rb a n c p true ∧ Kept (fun i => i = rb) W w'
  | some (xs, q) => ∃ (ga : Option Addr) (gc : Nat), e = .returned (.slice ga xs.length gc) ∧ IntsAt w' ga xs ∧ Newb W ga ∧ RdX w' rb a n c q false ∧ Kept (fun i => i = rb) W w'
theorem gq_two {p : Nat} {e : Ending} {o : Option (Nat × Nat)} (h : gqP p e o) : ∃ x q code : Int, e = .returned (.tuple #[.int .i64 x, .int .i64 q, .int .i64 code]) := by
  cases o with
  | none => obtain ⟨code, _, rfl⟩ := h; exact ⟨_, _, _, rfl⟩
  | some y => exact ⟨_, _, _, h⟩
theorem gkp_two {W w' : World} {e : Ending} {o : Option (List Int × Nat)} (h : gkP W e w' o) : ∃ (ga : Option Addr) (gn gc : Nat) (q code : Int), e = .returned (.tuple #[.slice ga gn gc, .int .i64 q, .int .i64 code]) ∧ Kept (fun _ => False) W w' := by
  cases o with
  | none => obtain ⟨a, c, z, code, _, rfl, k⟩ := h; exact ⟨_, _, _, _, _, rfl, k⟩
  | some y => obtain ⟨a, c, rfl, _, _, k⟩ := h; exact ⟨_, _, _, _, _, rfl, k⟩
set_option maxRecDepth 20000 in
set_option maxHeartbeats 8000000 in
theorem num8_ok (l : List Int) (a : Option Addr) (n c p rb : Nat) (W : World) (hR : RdX W rb a n c p false) (hn : n = l.length) (hB : BytesAt W a l) (hI : IsBytes l) (hp : p ≤ l.length) (hl : l.length ≤ 1073741824) :
    Calls Tryz.prog 30 #[.pointer (some ⟨rb, 0, none⟩), .int .i64 9223372036854775807] W fun e w' => nmP W rb a n c p e w' (dnu l p) := by
  have HR := hideP hR
  obtain ⟨⟨c0, c1, c2⟩, gz⟩ := row3 hR
  have HC : Hid (∀ V, Kept (fun _ => False) W V → V.cell? ⟨rb, 0, none⟩ = some (.slice a n c) ∧ V.cell? ⟨rb, 1, none⟩ = some (.int .i64 (p : Nat))) := hideP (fun V k => ⟨k.cell c0 (fun f => f), k.cell c1 (fun f => f)⟩)
  have hS6 : Kept (fun _ => False) W W.drew := Kept.drew W
  have CU := hideP (rgetq_any 9223372036854775807 l a n c p W.drew hn (hB.kept hS6) hI hp (by omega) (by decide))
  rw [show ((9223372036854775807 : Nat) : Int) = 9223372036854775807 from rfl] at CU
  unfold dnu
  clear hR hB hI hn hl hp c0 c1
  cases hu : upn 9223372036854775807 l p with
  | none =>
    rw [hu] at CU
    clear hu
    go_enter Tryz.func30, Tryz.ntmps30
    go_wp2_with fail
    refine wp_region_held (S := fun V => Kept (fun _ => False) W V) (by kernel_rfl) ?_
    change wpAnyH _ _ _ _ _ _ _ _ (World.drew _)
    refine takeZ (i := 0) (d := 9) (v := .pointer (some ⟨rb, 0, none⟩)) rfl rfl (by kernel_rfl) (by kernel_rfl) (by kernel_rfl) (fun _ _ _ h => h) (Or.inl ⟨by rfl, fun W hW => ?_⟩) hS6 ?_
    · (go_simp)
    simp only [Act.put, List.setIfInBounds_toArray, List.set_cons_zero, List.set_cons_succ]
    refine takeZ (i := 1) (d := 10) (v := .pointer (some ⟨rb, 0, none⟩)) rfl rfl (by kernel_rfl) (by kernel_rfl) (by kernel_rfl) (fun _ _ _ h => h) (Or.inl ⟨by rfl, fun W hW => ?_⟩) hS6 ?_
    · (go_simp)
    simp only [Act.put, List.setIfInBounds_toArray, List.set_cons_zero, List.set_cons_succ]
    refine takeZ (i := 2) (d := 11) (v := .pointer (some ⟨rb, 0, none⟩)) rfl rfl (by kernel_rfl) (by kernel_rfl) (by kernel_rfl) (fun _ _ _ h => h) (Or.inl ⟨by rfl, fun W hW => ?_⟩) hS6 ?_
    · (go_simp)
    simp only [Act.put, List.setIfInBounds_toArray, List.set_cons_zero, List.set_cons_succ]
    refine takeZ (i := 3) (d := 12) (v := .slice a n c) rfl rfl (by kernel_rfl) (by kernel_rfl) (by kernel_rfl) (fun _ _ _ h => h) (Or.inl ⟨by rfl, fun W hW => ?_⟩) hS6 ?_
    · (have q1 := (HC.out _ hW).1; go_simp)
    simp only [Act.put, List.setIfInBounds_toArray, List.set_cons_zero, List.set_cons_succ]
    refine takeZ (i := 4) (d := 13) (v := .pointer (some ⟨rb, 0, none⟩)) rfl rfl (by kernel_rfl) (by kernel_rfl) (by kernel_rfl) (fun _ _ _ h => h) (Or.inl ⟨by rfl, fun W hW => ?_⟩) hS6 ?_
    · (go_simp)
    simp only [Act.put, List.setIfInBounds_toArray, List.set_cons_zero, List.set_cons_succ]
    refine takeZ (i := 5) (d := 14) (v := .pointer (some ⟨rb, 0, none⟩)) rfl rfl (by kernel_rfl) (by kernel_rfl) (by kernel_rfl) (fun _ _ _ h => h) (Or.inl ⟨by rfl, fun W hW => ?_⟩) hS6 ?_
    · (go_simp)
    simp only [Act.put, List.setIfInBounds_toArray, List.set_cons_zero, List.set_cons_succ]
    refine takeZ (i := 6) (d := 15) (v := .pointer (some ⟨rb, 1, none⟩)) rfl rfl (by kernel_rfl) (by kernel_rfl) (by kernel_rfl) (fun _ _ _ h => h) (Or.inl ⟨by rfl, fun W hW => ?_⟩) hS6 ?_
    · (go_simp)
    simp only [Act.put, List.setIfInBounds_toArray, List.set_cons_zero, List.set_cons_succ]
    refine takeZ (i := 7) (d := 16) (v := .int .i64 (p : Nat)) rfl rfl (by kernel_rfl) (by kernel_rfl) (by kernel_rfl) (fun _ _ _ h => h) (Or.inl ⟨by rfl, fun W hW => ?_⟩) hS6 ?_
    · (have q1 := (HC.out _ hW).2; go_simp)
    simp only [Act.put, List.setIfInBounds_toArray, List.set_cons_zero, List.set_cons_succ]
    refine takeZ (i := 8) (d := 17) (v := .int .i64 9223372036854775807) rfl rfl (by kernel_rfl) (by kernel_rfl) (by kernel_rfl) (fun _ _ _ h => h) (Or.inl ⟨by rfl, fun W hW => ?_⟩) hS6 ?_
    · (go_simp)
    simp only [Act.put, List.setIfInBounds_toArray, List.set_cons_zero, List.set_cons_succ]
    refine wpAnyH_all (rs := [9]) (by kernel_rfl) (by simp) ?_
    intro i hi
    obtain rfl : i = 9 := by simpa using hi
    unfold wpOp
    go_simp
    first | refine CU.out.mono ?_ | refine Or.inl (CU.out.mono ?_)
    clear CU
    rintro e V1 ⟨⟨code, hc, rfl⟩, hV⟩
    have K8 : Kept (fun _ => False) W V1 := by rw [hV]; exact hS6
    refine ⟨K8, ?_⟩
    have g1 : (code != 0) = true := by simp [hc]
    clear hV c2
    refine takeZ (i := 10) (d := 8) (v := .tuple #[.int .i64 0, .int .i64 (p : Nat), .int .i64 code]) rfl rfl (by kernel_rfl) (by kernel_rfl) (by kernel_rfl) (fun _ _ _ h => h) (Or.inl ⟨by rfl, fun W hW => ?_⟩) K8 ?_
    · (go_simp)
    simp only [Act.put, List.setIfInBounds_toArray, List.set_cons_zero, List.set_cons_succ]
    refine takeZ (i := 11) (d := 19) (v := .int .i64 0) rfl rfl (by kernel_rfl) (by kernel_rfl) (by kernel_rfl) (fun _ _ _ h => h) (Or.inl ⟨by rfl, fun W hW => ?_⟩) K8 ?_
    · (go_simp)
    simp only [Act.put, List.setIfInBounds_toArray, List.set_cons_zero, List.set_cons_succ]
    refine takeZ (i := 12) (d := 20) (v := .int .i64 (p : Nat)) rfl rfl (by kernel_rfl) (by kernel_rfl) (by kernel_rfl) (fun _ _ _ h => h) (Or.inl ⟨by rfl, fun W hW => ?_⟩) K8 ?_
    · (go_simp)
    simp only [Act.put, List.setIfInBounds_toArray, List.set_cons_zero, List.set_cons_succ]
    refine takeZ (i := 13) (d := 21) (v := .int .i64 code) rfl rfl (by kernel_rfl) (by kernel_rfl) (by kernel_rfl) (fun _ _ _ h => h) (Or.inl ⟨by rfl, fun W hW => ?_⟩) K8 ?_
    · (go_simp)
    simp only [Act.put, List.setIfInBounds_toArray, List.set_cons_zero, List.set_cons_succ]
    refine takeZ (i := 14) (d := 5) (v := .int .i64 0) rfl rfl (by kernel_rfl) (by kernel_rfl) (by kernel_rfl) (fun _ _ _ h => h) (Or.inl ⟨by rfl, fun W hW => ?_⟩) K8 ?_
    · (go_simp)
    simp only [Act.put, List.setIfInBounds_toArray, List.set_cons_zero, List.set_cons_succ]
    refine takeZ (i := 15) (d := 6) (v := .int .i64 (p : Nat)) rfl rfl (by kernel_rfl) (by kernel_rfl) (by kernel_rfl) (fun _ _ _ h => h) (Or.inl ⟨by rfl, fun W hW => ?_⟩) K8 ?_
    · (go_simp)
    simp only [Act.put, List.setIfInBounds_toArray, List.set_cons_zero, List.set_cons_succ]
    refine takeZ (i := 16) (d := 7) (v := .int .i64 code) rfl rfl (by kernel_rfl) (by kernel_rfl) (by kernel_rfl) (fun _ _ _ h => h) (Or.inl ⟨by rfl, fun W hW => ?_⟩) K8 ?_
    · (go_simp)
    simp only [Act.put, List.setIfInBounds_toArray, List.set_cons_zero, List.set_cons_succ]
    refine wpAnyH_done (by kernel_rfl) ?_ _
    have HR1 := hideP (HR.out.kept K8)
    have HKS := hideP (((K8.mono (fun _ f => f.elim)).trans (Kept.setCell V1 ⟨rb, 2, none⟩ (.bool true)) (fun i hi => .inl hi) : Kept (fun i => i = rb) W (V1.setCell ⟨rb, 2, none⟩ (.bool true))))
    have HRB := hideP HR1.out.bad
    obtain ⟨⟨d0, d1, d2⟩, dz⟩ := row3 HR1.out
    have dz2 := dz 2
    clear K8 hS6 dz d0 d1
    go_wp2
    go_ret
    exact ⟨rfl, HRB.out, HKS.out⟩
  | some xq =>
    obtain ⟨x, q⟩ := xq
    rw [hu] at CU
    clear hu
    go_enter Tryz.func30, Tryz.ntmps30
    go_wp2_with fail
    refine wp_region_held (S := fun V => Kept (fun _ => False) W V) (by kernel_rfl) ?_
    change wpAnyH _ _ _ _ _ _ _ _ (World.drew _)
    refine takeZ (i := 0) (d := 9) (v := .pointer (some ⟨rb, 0, none⟩)) rfl rfl (by kernel_rfl) (by kernel_rfl) (by kernel_rfl) (fun _ _ _ h => h) (Or.inl ⟨by rfl, fun W hW => ?_⟩) hS6 ?_
    · (go_simp)
    simp only [Act.put, List.setIfInBounds_toArray, List.set_cons_zero, List.set_cons_succ]
    refine takeZ (i := 1) (d := 10) (v := .pointer (some ⟨rb, 0, none⟩)) rfl rfl (by kernel_rfl) (by kernel_rfl) (by kernel_rfl) (fun _ _ _ h => h) (Or.inl ⟨by rfl, fun W hW => ?_⟩) hS6 ?_
    · (go_simp)
    simp only [Act.put, List.setIfInBounds_toArray, List.set_cons_zero, List.set_cons_succ]
    refine takeZ (i := 2) (d := 11) (v := .pointer (some ⟨rb, 0, none⟩)) rfl rfl (by kernel_rfl) (by kernel_rfl) (by kernel_rfl) (fun _ _ _ h => h) (Or.inl ⟨by rfl, fun W hW => ?_⟩) hS6 ?_
    · (go_simp)
    simp only [Act.put, List.setIfInBounds_toArray, List.set_cons_zero, List.set_cons_succ]
    refine takeZ (i := 3) (d := 12) (v := .slice a n c) rfl rfl (by kernel_rfl) (by kernel_rfl) (by kernel_rfl) (fun _ _ _ h => h) (Or.inl ⟨by rfl, fun W hW => ?_⟩) hS6 ?_
    · (have q1 := (HC.out _ hW).1; go_simp)
    simp only [Act.put, List.setIfInBounds_toArray, List.set_cons_zero, List.set_cons_succ]
    refine takeZ (i := 4) (d := 13) (v := .pointer (some ⟨rb, 0, none⟩)) rfl rfl (by kernel_rfl) (by kernel_rfl) (by kernel_rfl) (fun _ _ _ h => h) (Or.inl ⟨by rfl, fun W hW => ?_⟩) hS6 ?_
    · (go_simp)
    simp only [Act.put, List.setIfInBounds_toArray, List.set_cons_zero, List.set_cons_succ]
    refine takeZ (i := 5) (d := 14) (v := .pointer (some ⟨rb, 0, none⟩)) rfl rfl (by kernel_rfl) (by kernel_rfl) (by kernel_rfl) (fun _ _ _ h => h) (Or.inl ⟨by rfl, fun W hW => ?_⟩) hS6 ?_
    · (go_simp)
    simp only [Act.put, List.setIfInBounds_toArray, List.set_cons_zero, List.set_cons_succ]
    refine takeZ (i := 6) (d := 15) (v := .pointer (some ⟨rb, 1, none⟩)) rfl rfl (by kernel_rfl) (by kernel_rfl) (by kernel_rfl) (fun _ _ _ h => h) (Or.inl ⟨by rfl, fun W hW => ?_⟩) hS6 ?_
    · (go_simp)
    simp only [Act.put, List.setIfInBounds_toArray, List.set_cons_zero, List.set_cons_succ]
    refine takeZ (i := 7) (d := 16) (v := .int .i64 (p : Nat)) rfl rfl (by kernel_rfl) (by kernel_rfl) (by kernel_rfl) (fun _ _ _ h => h) (Or.inl ⟨by rfl, fun W hW => ?_⟩) hS6 ?_
    · (have q1 := (HC.out _ hW).2; go_simp)
    simp only [Act.put, List.setIfInBounds_toArray, List.set_cons_zero, List.set_cons_succ]
    refine takeZ (i := 8) (d := 17) (v := .int .i64 9223372036854775807) rfl rfl (by kernel_rfl) (by kernel_rfl) (by kernel_rfl) (fun _ _ _ h => h) (Or.inl ⟨by rfl, fun W hW => ?_⟩) hS6 ?_
    · (go_simp)
    simp only [Act.put, List.setIfInBounds_toArray, List.set_cons_zero, List.set_cons_succ]
    refine wpAnyH_all (rs := [9]) (by kernel_rfl) (by simp) ?_
    intro i hi
    obtain rfl : i = 9 := by simpa using hi
    unfold wpOp
    go_simp
    first | refine CU.out.mono ?_ | refine Or.inl (CU.out.mono ?_)
    clear CU
    rintro e V1 ⟨h, hV⟩
    unfold gqP at h
    subst h
    have K8 : Kept (fun _ => False) W V1 := by rw [hV]; exact hS6
    refine ⟨K8, ?_⟩
    clear hV c2
    refine takeZ (i := 10) (d := 8) (v := .tuple #[.int .i64 (x : Nat), .int .i64 (q : Nat), .int .i64 0]) rfl rfl (by kernel_rfl) (by kernel_rfl) (by kernel_rfl) (fun _ _ _ h => h) (Or.inl ⟨by rfl, fun W hW => ?_⟩) K8 ?_
    · (go_simp)
    simp only [Act.put, List.setIfInBounds_toArray, List.set_cons_zero, List.set_cons_succ]
    refine takeZ (i := 11) (d := 19) (v := .int .i64 (x : Nat)) rfl rfl (by kernel_rfl) (by kernel_rfl) (by kernel_rfl) (fun _ _ _ h => h) (Or.inl ⟨by rfl, fun W hW => ?_⟩) K8 ?_
    · (go_simp)
    simp only [Act.put, List.setIfInBounds_toArray, List.set_cons_zero, List.set_cons_succ]
    refine takeZ (i := 12) (d := 20) (v := .int .i64 (q : Nat)) rfl rfl (by kernel_rfl) (by kernel_rfl) (by kernel_rfl) (fun _ _ _ h => h) (Or.inl ⟨by rfl, fun W hW => ?_⟩) K8 ?_
    · (go_simp)
    simp only [Act.put, List.setIfInBounds_toArray, List.set_cons_zero, List.set_cons_succ]
    refine takeZ (i := 13) (d := 21) (v := .int .i64 0) rfl rfl (by kernel_rfl) (by kernel_rfl) (by kernel_rfl) (fun _ _ _ h => h) (Or.inl ⟨by rfl, fun W hW => ?_⟩) K8 ?_
    · (go_simp)
    simp only [Act.put, List.setIfInBounds_toArray, List.set_cons_zero, List.set_cons_succ]
    refine takeZ (i := 14) (d := 5) (v := .int .i64 (x : Nat)) rfl rfl (by kernel_rfl) (by kernel_rfl) (by kernel_rfl) (fun _ _ _ h => h) (Or.inl ⟨by rfl, fun W hW => ?_⟩) K8 ?_
    · (go_simp)
    simp only [Act.put, List.setIfInBounds_toArray, List.set_cons_zero, List.set_cons_succ]
    refine takeZ (i := 15) (d := 6) (v := .int .i64 (q : Nat)) rfl rfl (by kernel_rfl) (by kernel_rfl) (by kernel_rfl) (fun _ _ _ h => h) (Or.inl ⟨by rfl, fun W hW => ?_⟩) K8 ?_
    · (go_simp)
    simp only [Act.put, List.setIfInBounds_toArray, List.set_cons_zero, List.set_cons_succ]
    refine takeZ (i := 16) (d := 7) (v := .int .i64 0) rfl rfl (by kernel_rfl) (by kernel_rfl) (by kernel_rfl) (fun _ _ _ h => h) (Or.inl ⟨by rfl, fun W hW => ?_⟩) K8 ?_
    · (go_simp)
    simp only [Act.put, List.setIfInBounds_toArray, List.set_cons_zero, List.set_cons_succ]
    refine wpAnyH_done (by kernel_rfl) ?_ _
    have HR1 := hideP (HR.out.kept K8)
    have HKS : Hid (Kept (fun i => i = rb) W (V1.setCell ⟨rb, 1, none⟩ (.int .i64 (q : Nat)))) := hideP ((K8.mono (fun _ f => f.elim)).trans (Kept.setCell V1 ⟨rb, 1, none⟩ (.int .i64 (q : Nat))) (fun i hi => .inl hi))
    have HRB := hideP (HR1.out.at q)
    obtain ⟨⟨d0, d1, d2⟩, dz⟩ := row3 HR1.out
    have dz2 := dz 1
    clear K8 hS6 dz d0
    go_wp2
    go_ret
    exact ⟨rfl, HRB.out, HKS.out⟩
set_option maxRecDepth 20000 in
set_option maxHeartbeats 8000000 in
theorem num8_bad (l : List Int) (a : Option Addr) (n c p rb : Nat) (W : World) (hR : RdX W rb a n c p true) (hn : n = l.length) (hB : BytesAt W a l) (hI : IsBytes l) (hp : p ≤ l.length) (hl : l.length ≤ 1073741824) :
    Calls Tryz.prog 30 #[.pointer (some ⟨rb, 0, none⟩), .int .i64 9223372036854775807] W fun e w' => nmP W rb a n c p e w' none := by
  have HR := hideP hR
  obtain ⟨⟨c0, c1, c2⟩, gz⟩ := row3 hR
  have HC : Hid (∀ V, Kept (fun _ => False) W V → V.cell? ⟨rb, 0, none⟩ = some (.slice a n c) ∧ V.cell? ⟨rb, 1, none⟩ = some (.int .i64 (p : Nat))) := hideP (fun V k => ⟨k.cell c0 (fun f => f), k.cell c1 (fun f => f)⟩)
  have hS6 : Kept (fun _ => False) W W.drew := Kept.drew W
  have CU := hideP (rgetq_any 9223372036854775807 l a n c p W.drew hn (hB.kept hS6) hI hp (by omega) (by decide))
  rw [show ((9223372036854775807 : Nat) : Int) = 9223372036854775807 from rfl] at CU
  clear hR hB hI hn hl hp c0 c1
  go_enter Tryz.func30, Tryz.ntmps30
  go_wp2_with fail
  refine wp_region_held (S := fun V => Kept (fun _ => False) W V) (by kernel_rfl) ?_
  change wpAnyH _ _ _ _ _ _ _ _ (World.drew _)
  refine takeZ (i := 0) (d := 9) (v := .pointer (some ⟨rb, 0, none⟩)) rfl rfl (by kernel_rfl) (by kernel_rfl) (by kernel_rfl) (fun _ _ _ h => h) (Or.inl ⟨by rfl, fun W hW => ?_⟩) hS6 ?_
  · (go_simp)
  simp only [Act.put, List.setIfInBounds_toArray, List.set_cons_zero, List.set_cons_succ]
  refine takeZ (i := 1) (d := 10) (v := .pointer (some ⟨rb, 0, none⟩)) rfl rfl (by kernel_rfl) (by kernel_rfl) (by kernel_rfl) (fun _ _ _ h => h) (Or.inl ⟨by rfl, fun W hW => ?_⟩) hS6 ?_
  · (go_simp)
  simp only [Act.put, List.setIfInBounds_toArray, List.set_cons_zero, List.set_cons_succ]
  refine takeZ (i := 2) (d := 11) (v := .pointer (some ⟨rb, 0, none⟩)) rfl rfl (by kernel_rfl) (by kernel_rfl) (by kernel_rfl) (fun _ _ _ h => h) (Or.inl ⟨by rfl, fun W hW => ?_⟩) hS6 ?_
  · (go_simp)
  simp only [Act.put, List.setIfInBounds_toArray, List.set_cons_zero, List.set_cons_succ]
  refine takeZ (i := 3) (d := 12) (v := .slice a n c) rfl rfl (by kernel_rfl) (by kernel_rfl) (by kernel_rfl) (fun _ _ _ h => h) (Or.inl ⟨by rfl, fun W hW => ?_⟩) hS6 ?_
  · (have q1 := (HC.out _ hW).1; go_simp)
  simp only [Act.put, List.setIfInBounds_toArray, List.set_cons_zero, List.set_cons_succ]
  refine takeZ (i := 4) (d := 13) (v := .pointer (some ⟨rb, 0, none⟩)) rfl rfl (by kernel_rfl) (by kernel_rfl) (by kernel_rfl) (fun _ _ _ h => h) (Or.inl ⟨by rfl, fun W hW => ?_⟩) hS6 ?_
  · (go_simp)
  simp only [Act.put, List.setIfInBounds_toArray, List.set_cons_zero, List.set_cons_succ]
  refine takeZ (i := 5) (d := 14) (v := .pointer (some ⟨rb, 0, none⟩)) rfl rfl (by kernel_rfl) (by kernel_rfl) (by kernel_rfl) (fun _ _ _ h => h) (Or.inl ⟨by rfl, fun W hW => ?_⟩) hS6 ?_
  · (go_simp)
  simp only [Act.put, List.setIfInBounds_toArray, List.set_cons_zero, List.set_cons_succ]
  refine takeZ (i := 6) (d := 15) (v := .pointer (some ⟨rb, 1, none⟩)) rfl rfl (by kernel_rfl) (by kernel_rfl) (by kernel_rfl) (fun _ _ _ h => h) (Or.inl ⟨by rfl, fun W hW => ?_⟩) hS6 ?_
  · (go_simp)
  simp only [Act.put, List.setIfInBounds_toArray, List.set_cons_zero, List.set_cons_succ]
  refine takeZ (i := 7) (d := 16) (v := .int .i64 (p : Nat)) rfl rfl (by kernel_rfl) (by kernel_rfl) (by kernel_rfl) (fun _ _ _ h => h) (Or.inl ⟨by rfl, fun W hW => ?_⟩) hS6 ?_
  · (have q1 := (HC.out _ hW).2; go_simp)
  simp only [Act.put, List.setIfInBounds_toArray, List.set_cons_zero, List.set_cons_succ]
  refine takeZ (i := 8) (d := 17) (v := .int .i64 9223372036854775807) rfl rfl (by kernel_rfl) (by kernel_rfl) (by kernel_rfl) (fun _ _ _ h => h) (Or.inl ⟨by rfl, fun W hW => ?_⟩) hS6 ?_
  · (go_simp)
  simp only [Act.put, List.setIfInBounds_toArray, List.set_cons_zero, List.set_cons_succ]
  refine wpAnyH_all (rs := [9]) (by kernel_rfl) (by simp) ?_
  intro i hi
  obtain rfl : i = 9 := by simpa using hi
  unfold wpOp
  go_simp
  first | refine CU.out.mono ?_ | refine Or.inl (CU.out.mono ?_)
  clear CU
  rintro e V1 ⟨h, hV⟩
  obtain ⟨x, q, code, rfl⟩ := gq_two h
  have K8 : Kept (fun _ => False) W V1 := by rw [hV]; exact hS6
  refine ⟨K8, ?_⟩
  clear hV h c2
  refine takeZ (i := 10) (d := 8) (v := .tuple #[.int .i64 x, .int .i64 q, .int .i64 code]) rfl rfl (by kernel_rfl) (by kernel_rfl) (by kernel_rfl) (fun _ _ _ h => h) (Or.inl ⟨by rfl, fun W hW => ?_⟩) K8 ?_
  · (go_simp)
  simp only [Act.put, List.setIfInBounds_toArray, List.set_cons_zero, List.set_cons_succ]
  refine takeZ (i := 11) (d := 19) (v := .int .i64 x) rfl rfl (by kernel_rfl) (by kernel_rfl) (by kernel_rfl) (fun _ _ _ h => h) (Or.inl ⟨by rfl, fun W hW => ?_⟩) K8 ?_
  · (go_simp)
  simp only [Act.put, List.setIfInBounds_toArray, List.set_cons_zero, List.set_cons_succ]
  refine takeZ (i := 12) (d := 20) (v := .int .i64 q) rfl rfl (by kernel_rfl) (by kernel_rfl) (by kernel_rfl) (fun _ _ _ h => h) (Or.inl ⟨by rfl, fun W hW => ?_⟩) K8 ?_
  · (go_simp)
  simp only [Act.put, List.setIfInBounds_toArray, List.set_cons_zero, List.set_cons_succ]
  refine takeZ (i := 13) (d := 21) (v := .int .i64 code) rfl rfl (by kernel_rfl) (by kernel_rfl) (by kernel_rfl) (fun _ _ _ h => h) (Or.inl ⟨by rfl, fun W hW => ?_⟩) K8 ?_
  · (go_simp)
  simp only [Act.put, List.setIfInBounds_toArray, List.set_cons_zero, List.set_cons_succ]
  refine takeZ (i := 14) (d := 5) (v := .int .i64 x) rfl rfl (by kernel_rfl) (by kernel_rfl) (by kernel_rfl) (fun _ _ _ h => h) (Or.inl ⟨by rfl, fun W hW => ?_⟩) K8 ?_
  · (go_simp)
  simp only [Act.put, List.setIfInBounds_toArray, List.set_cons_zero, List.set_cons_succ]
  refine takeZ (i := 15) (d := 6) (v := .int .i64 q) rfl rfl (by kernel_rfl) (by kernel_rfl) (by kernel_rfl) (fun _ _ _ h => h) (Or.inl ⟨by rfl, fun W hW => ?_⟩) K8 ?_
  · (go_simp)
  simp only [Act.put, List.setIfInBounds_toArray, List.set_cons_zero, List.set_cons_succ]
  refine takeZ (i := 16) (d := 7) (v := .int .i64 code) rfl rfl (by kernel_rfl) (by kernel_rfl) (by kernel_rfl) (fun _ _ _ h => h) (Or.inl ⟨by rfl, fun W hW => ?_⟩) K8 ?_
  · (go_simp)
  simp only [Act.put, List.setIfInBounds_toArray, List.set_cons_zero, List.set_cons_succ]
  refine wpAnyH_done (by kernel_rfl) ?_ _
  by_cases hc : code = 0
  · have g1 : (code != 0) = false := by simp [hc]
    have HCo := hideP hc
    clear hc
    have HR1 := hideP (HR.out.kept K8)
    have HKS := hideP (((K8.mono (fun _ f => f.elim)).trans (Kept.setCell V1 ⟨rb, 2, none⟩ (.bool true)) (fun i hi => .inl hi) : Kept (fun i => i = rb) W (V1.setCell ⟨rb, 2, none⟩ (.bool true))))
    have HRB := hideP HR1.out.bad
    obtain ⟨⟨d0, d1, d2⟩, dz⟩ := row3 HR1.out
    have dz2 := dz 2
    clear K8 hS6 dz d0 d1
    go_wp2
    go_ret
    exact ⟨rfl, HRB.out, HKS.out⟩
  · have g1 : (code != 0) = true := by simp [hc]
    have HR1 := hideP (HR.out.kept K8)
    have HKS := hideP (((K8.mono (fun _ f => f.elim)).trans (Kept.setCell V1 ⟨rb, 2, none⟩ (.bool true)) (fun i hi => .inl hi) : Kept (fun i => i = rb) W (V1.setCell ⟨rb, 2, none⟩ (.bool true))))
    have HRB := hideP HR1.out.bad
    obtain ⟨⟨d0, d1, d2⟩, dz⟩ := row3 HR1.out
    have dz2 := dz 2
    clear K8 hS6 dz d0 d1
    go_wp2
    go_ret
    exact ⟨rfl, HRB.out, HKS.out⟩
set_option maxRecDepth 20000 in
set_option maxHeartbeats 8000000 in
theorem pak8_ok (k : Nat) (l : List Int) (a : Option Addr) (n c p rb : Nat) (W : World) (hR : RdX W rb a n c p false) (hn : n = l.length) (hB : BytesAt W a l) (hI : IsBytes l) (hp : p ≤ l.length) (hl : l.length ≤ 1073741824) :
    Calls Tryz.prog 51 #[.pointer (some ⟨rb, 0, none⟩), .int .i64 (k : Nat)] W fun e w' => pcP W rb a n c p e w' (dpa l k p) := by
  have HR := hideP hR
  obtain ⟨⟨c0, c1, c2⟩, gz⟩ := row3 hR
  have HC : Hid (∀ V, Kept (fun _ => False) W V → V.cell? ⟨rb, 0, none⟩ = some (.slice a n c) ∧ V.cell? ⟨rb, 1, none⟩ = some (.int .i64 (p : Nat))) := hideP (fun V k => ⟨k.cell c0 (fun f => f), k.cell c1 (fun f => f)⟩)
  have hS6 : Kept (fun _ => False) W W.drew := Kept.drew W
  have CU := hideP (gpk_any l a n c p W.drew hn (hB.kept hS6) hI hp hl)
  have HLn : Hid (∀ xs q, pkn 16 l p = some (xs, q) → xs.length ≤ 16) := hideP (fun xs q h => pkn_len h)
  unfold dpa
  clear hR hB hI hn hl hp c0 c1
  cases hu : pkn 16 l p with
  | none =>
    rw [hu] at CU
    clear hu
    simp only
    go_enter Tryz.func51, Tryz.ntmps51
    go_wp2_with fail
    refine wp_region_held (S := fun V => Kept (fun _ => False) W V) (by kernel_rfl) ?_
    change wpAnyH _ _ _ _ _ _ _ _ (World.drew _)
    refine takeZ (i := 0) (d := 9) (v := .pointer (some ⟨rb, 0, none⟩)) rfl rfl (by kernel_rfl) (by kernel_rfl) (by kernel_rfl) (fun _ _ _ h => h) (Or.inl ⟨by rfl, fun W hW => ?_⟩) hS6 ?_
    · (go_simp)
    simp only [Act.put, List.setIfInBounds_toArray, List.set_cons_zero, List.set_cons_succ]
    refine takeZ (i := 1) (d := 10) (v := .pointer (some ⟨rb, 0, none⟩)) rfl rfl (by kernel_rfl) (by kernel_rfl) (by kernel_rfl) (fun _ _ _ h => h) (Or.inl ⟨by rfl, fun W hW => ?_⟩) hS6 ?_
    · (go_simp)
    simp only [Act.put, List.setIfInBounds_toArray, List.set_cons_zero, List.set_cons_succ]
    refine takeZ (i := 2) (d := 11) (v := .pointer (some ⟨rb, 0, none⟩)) rfl rfl (by kernel_rfl) (by kernel_rfl) (by kernel_rfl) (fun _ _ _ h => h) (Or.inl ⟨by rfl, fun W hW => ?_⟩) hS6 ?_
    · (go_simp)
    simp only [Act.put, List.setIfInBounds_toArray, List.set_cons_zero, List.set_cons_succ]
    refine takeZ (i := 3) (d := 12) (v := .slice a n c) rfl rfl (by kernel_rfl) (by kernel_rfl) (by kernel_rfl) (fun _ _ _ h => h) (Or.inl ⟨by rfl, fun W hW => ?_⟩) hS6 ?_
    · (have q1 := (HC.out _ hW).1; go_simp)
    simp only [Act.put, List.setIfInBounds_toArray, List.set_cons_zero, List.set_cons_succ]
    refine takeZ (i := 4) (d := 13) (v := .pointer (some ⟨rb, 0, none⟩)) rfl rfl (by kernel_rfl) (by kernel_rfl) (by kernel_rfl) (fun _ _ _ h => h) (Or.inl ⟨by rfl, fun W hW => ?_⟩) hS6 ?_
    · (go_simp)
    simp only [Act.put, List.setIfInBounds_toArray, List.set_cons_zero, List.set_cons_succ]
    refine takeZ (i := 5) (d := 14) (v := .pointer (some ⟨rb, 0, none⟩)) rfl rfl (by kernel_rfl) (by kernel_rfl) (by kernel_rfl) (fun _ _ _ h => h) (Or.inl ⟨by rfl, fun W hW => ?_⟩) hS6 ?_
    · (go_simp)
    simp only [Act.put, List.setIfInBounds_toArray, List.set_cons_zero, List.set_cons_succ]
    refine takeZ (i := 6) (d := 15) (v := .pointer (some ⟨rb, 1, none⟩)) rfl rfl (by kernel_rfl) (by kernel_rfl) (by kernel_rfl) (fun _ _ _ h => h) (Or.inl ⟨by rfl, fun W hW => ?_⟩) hS6 ?_
    · (go_simp)
    simp only [Act.put, List.setIfInBounds_toArray, List.set_cons_zero, List.set_cons_succ]
    refine takeZ (i := 7) (d := 16) (v := .int .i64 (p : Nat)) rfl rfl (by kernel_rfl) (by kernel_rfl) (by kernel_rfl) (fun _ _ _ h => h) (Or.inl ⟨by rfl, fun W hW => ?_⟩) hS6 ?_
    · (have q1 := (HC.out _ hW).2; go_simp)
    simp only [Act.put, List.setIfInBounds_toArray, List.set_cons_zero, List.set_cons_succ]
    refine wpAnyH_all (rs := [8]) (by kernel_rfl) (by simp) ?_
    intro i hi
    obtain rfl : i = 8 := by simpa using hi
    unfold wpOp
    go_simp
    first | refine CU.out.mono ?_ | refine Or.inl (CU.out.mono ?_)
    clear CU
    rintro e V1 ⟨ga, gc, z, code, hc, rfl, hV⟩
    have K8 : Kept (fun _ => False) W V1 := hS6.trans hV (fun _ f => f.elim)
    refine ⟨K8, ?_⟩
    have g1 : (code != 0) = true := by simp [hc]
    clear hV c2
    refine takeZ (i := 9) (d := 8) (v := .tuple #[.slice ga 0 gc, .int .i64 z, .int .i64 code]) rfl rfl (by kernel_rfl) (by kernel_rfl) (by kernel_rfl) (fun _ _ _ h => h) (Or.inl ⟨by rfl, fun W hW => ?_⟩) K8 ?_
    · (go_simp)
    simp only [Act.put, List.setIfInBounds_toArray, List.set_cons_zero, List.set_cons_succ]
    refine takeZ (i := 10) (d := 18) (v := .slice ga 0 gc) rfl rfl (by kernel_rfl) (by kernel_rfl) (by kernel_rfl) (fun _ _ _ h => h) (Or.inl ⟨by rfl, fun W hW => ?_⟩) K8 ?_
    · (go_simp)
    simp only [Act.put, List.setIfInBounds_toArray, List.set_cons_zero, List.set_cons_succ]
    refine takeZ (i := 11) (d := 19) (v := .int .i64 z) rfl rfl (by kernel_rfl) (by kernel_rfl) (by kernel_rfl) (fun _ _ _ h => h) (Or.inl ⟨by rfl, fun W hW => ?_⟩) K8 ?_
    · (go_simp)
    simp only [Act.put, List.setIfInBounds_toArray, List.set_cons_zero, List.set_cons_succ]
    refine takeZ (i := 12) (d := 20) (v := .int .i64 code) rfl rfl (by kernel_rfl) (by kernel_rfl) (by kernel_rfl) (fun _ _ _ h => h) (Or.inl ⟨by rfl, fun W hW => ?_⟩) K8 ?_
    · (go_simp)
    simp only [Act.put, List.setIfInBounds_toArray, List.set_cons_zero, List.set_cons_succ]
    refine takeZ (i := 13) (d := 5) (v := .slice ga 0 gc) rfl rfl (by kernel_rfl) (by kernel_rfl) (by kernel_rfl) (fun _ _ _ h => h) (Or.inl ⟨by rfl, fun W hW => ?_⟩) K8 ?_
    · (go_simp)
    simp only [Act.put, List.setIfInBounds_toArray, List.set_cons_zero, List.set_cons_succ]
    refine takeZ (i := 14) (d := 6) (v := .int .i64 z) rfl rfl (by kernel_rfl) (by kernel_rfl) (by kernel_rfl) (fun _ _ _ h => h) (Or.inl ⟨by rfl, fun W hW => ?_⟩) K8 ?_
    · (go_simp)
    simp only [Act.put, List.setIfInBounds_toArray, List.set_cons_zero, List.set_cons_succ]
    refine takeZ (i := 15) (d := 7) (v := .int .i64 code) rfl rfl (by kernel_rfl) (by kernel_rfl) (by kernel_rfl) (fun _ _ _ h => h) (Or.inl ⟨by rfl, fun W hW => ?_⟩) K8 ?_
    · (go_simp)
    simp only [Act.put, List.setIfInBounds_toArray, List.set_cons_zero, List.set_cons_succ]
    refine wpAnyH_done (by kernel_rfl) ?_ _
    have HR1 := hideP (HR.out.kept K8)
    have HKS := hideP (((K8.mono (fun _ f => f.elim)).trans (Kept.setCell V1 ⟨rb, 2, none⟩ (.bool true)) (fun i hi => .inl hi) : Kept (fun i => i = rb) W (V1.setCell ⟨rb, 2, none⟩ (.bool true))))
    have HRB := hideP HR1.out.bad
    obtain ⟨⟨d0, d1, d2⟩, dz⟩ := row3 HR1.out
    have dz2 := dz 2
    clear K8 hS6 dz d0 d1
    go_wp2
    go_ret
    exact ⟨rfl, HRB.out, HKS.out⟩
  | some xq =>
    obtain ⟨xs, q⟩ := xq
    have hxl := HLn.out xs q hu
    rw [hu] at CU
    clear hu
    simp only
    obtain ⟨R, hRe⟩ : ∃ R, R = (if xs.length = k then some (xs, q) else none) := ⟨_, rfl⟩
    rw [← hRe]
    have HRE := hideP hRe
    clear hRe
    go_enter Tryz.func51, Tryz.ntmps51
    go_wp2_with fail
    refine wp_region_held (S := fun V => Kept (fun _ => False) W V) (by kernel_rfl) ?_
    change wpAnyH _ _ _ _ _ _ _ _ (World.drew _)
    refine takeZ (i := 0) (d := 9) (v := .pointer (some ⟨rb, 0, none⟩)) rfl rfl (by kernel_rfl) (by kernel_rfl) (by kernel_rfl) (fun _ _ _ h => h) (Or.inl ⟨by rfl, fun W hW => ?_⟩) hS6 ?_
    · (go_simp)
    simp only [Act.put, List.setIfInBounds_toArray, List.set_cons_zero, List.set_cons_succ]
    refine takeZ (i := 1) (d := 10) (v := .pointer (some ⟨rb, 0, none⟩)) rfl rfl (by kernel_rfl) (by kernel_rfl) (by kernel_rfl) (fun _ _ _ h => h) (Or.inl ⟨by rfl, fun W hW => ?_⟩) hS6 ?_
    · (go_simp)
    simp only [Act.put, List.setIfInBounds_toArray, List.set_cons_zero, List.set_cons_succ]
    refine takeZ (i := 2) (d := 11) (v := .pointer (some ⟨rb, 0, none⟩)) rfl rfl (by kernel_rfl) (by kernel_rfl) (by kernel_rfl) (fun _ _ _ h => h) (Or.inl ⟨by rfl, fun W hW => ?_⟩) hS6 ?_
    · (go_simp)
    simp only [Act.put, List.setIfInBounds_toArray, List.set_cons_zero, List.set_cons_succ]
    refine takeZ (i := 3) (d := 12) (v := .slice a n c) rfl rfl (by kernel_rfl) (by kernel_rfl) (by kernel_rfl) (fun _ _ _ h => h) (Or.inl ⟨by rfl, fun W hW => ?_⟩) hS6 ?_
    · (have q1 := (HC.out _ hW).1; go_simp)
    simp only [Act.put, List.setIfInBounds_toArray, List.set_cons_zero, List.set_cons_succ]
    refine takeZ (i := 4) (d := 13) (v := .pointer (some ⟨rb, 0, none⟩)) rfl rfl (by kernel_rfl) (by kernel_rfl) (by kernel_rfl) (fun _ _ _ h => h) (Or.inl ⟨by rfl, fun W hW => ?_⟩) hS6 ?_
    · (go_simp)
    simp only [Act.put, List.setIfInBounds_toArray, List.set_cons_zero, List.set_cons_succ]
    refine takeZ (i := 5) (d := 14) (v := .pointer (some ⟨rb, 0, none⟩)) rfl rfl (by kernel_rfl) (by kernel_rfl) (by kernel_rfl) (fun _ _ _ h => h) (Or.inl ⟨by rfl, fun W hW => ?_⟩) hS6 ?_
    · (go_simp)
    simp only [Act.put, List.setIfInBounds_toArray, List.set_cons_zero, List.set_cons_succ]
    refine takeZ (i := 6) (d := 15) (v := .pointer (some ⟨rb, 1, none⟩)) rfl rfl (by kernel_rfl) (by kernel_rfl) (by kernel_rfl) (fun _ _ _ h => h) (Or.inl ⟨by rfl, fun W hW => ?_⟩) hS6 ?_
    · (go_simp)
    simp only [Act.put, List.setIfInBounds_toArray, List.set_cons_zero, List.set_cons_succ]
    refine takeZ (i := 7) (d := 16) (v := .int .i64 (p : Nat)) rfl rfl (by kernel_rfl) (by kernel_rfl) (by kernel_rfl) (fun _ _ _ h => h) (Or.inl ⟨by rfl, fun W hW => ?_⟩) hS6 ?_
    · (have q1 := (HC.out _ hW).2; go_simp)
    simp only [Act.put, List.setIfInBounds_toArray, List.set_cons_zero, List.set_cons_succ]
    refine wpAnyH_all (rs := [8]) (by kernel_rfl) (by simp) ?_
    intro i hi
    obtain rfl : i = 8 := by simpa using hi
    unfold wpOp
    go_simp
    first | refine CU.out.mono ?_ | refine Or.inl (CU.out.mono ?_)
    clear CU
    rintro e V1 ⟨ga, gc, rfl, hI1, hN1, hV⟩
    have K8 : Kept (fun _ => False) W V1 := hS6.trans hV (fun _ f => f.elim)
    refine ⟨K8, ?_⟩
    obtain ⟨xl, hxe⟩ : ∃ xl, xl = xs.length := ⟨_, rfl⟩
    have HXL := hideP hxe
    rw [← hxe] at hxl ⊢
    have HI1 := hideP hI1
    have HN1 : Hid (Newb W ga) := hideP hN1
    clear hV c2 hxe hI1 hN1
    refine takeZ (i := 9) (d := 8) (v := .tuple #[.slice ga xl gc, .int .i64 (q : Nat), .int .i64 0]) rfl rfl (by kernel_rfl) (by kernel_rfl) (by kernel_rfl) (fun _ _ _ h => h) (Or.inl ⟨by rfl, fun W hW => ?_⟩) K8 ?_
    · (go_simp)
    simp only [Act.put, List.setIfInBounds_toArray, List.set_cons_zero, List.set_cons_succ]
    refine takeZ (i := 10) (d := 18) (v := .slice ga xl gc) rfl rfl (by kernel_rfl) (by kernel_rfl) (by kernel_rfl) (fun _ _ _ h => h) (Or.inl ⟨by rfl, fun W hW => ?_⟩) K8 ?_
    · (go_simp)
    simp only [Act.put, List.setIfInBounds_toArray, List.set_cons_zero, List.set_cons_succ]
    refine takeZ (i := 11) (d := 19) (v := .int .i64 (q : Nat)) rfl rfl (by kernel_rfl) (by kernel_rfl) (by kernel_rfl) (fun _ _ _ h => h) (Or.inl ⟨by rfl, fun W hW => ?_⟩) K8 ?_
    · (go_simp)
    simp only [Act.put, List.setIfInBounds_toArray, List.set_cons_zero, List.set_cons_succ]
    refine takeZ (i := 12) (d := 20) (v := .int .i64 0) rfl rfl (by kernel_rfl) (by kernel_rfl) (by kernel_rfl) (fun _ _ _ h => h) (Or.inl ⟨by rfl, fun W hW => ?_⟩) K8 ?_
    · (go_simp)
    simp only [Act.put, List.setIfInBounds_toArray, List.set_cons_zero, List.set_cons_succ]
    refine takeZ (i := 13) (d := 5) (v := .slice ga xl gc) rfl rfl (by kernel_rfl) (by kernel_rfl) (by kernel_rfl) (fun _ _ _ h => h) (Or.inl ⟨by rfl, fun W hW => ?_⟩) K8 ?_
    · (go_simp)
    simp only [Act.put, List.setIfInBounds_toArray, List.set_cons_zero, List.set_cons_succ]
    refine takeZ (i := 14) (d := 6) (v := .int .i64 (q : Nat)) rfl rfl (by kernel_rfl) (by kernel_rfl) (by kernel_rfl) (fun _ _ _ h => h) (Or.inl ⟨by rfl, fun W hW => ?_⟩) K8 ?_
    · (go_simp)
    simp only [Act.put, List.setIfInBounds_toArray, List.set_cons_zero, List.set_cons_succ]
    refine takeZ (i := 15) (d := 7) (v := .int .i64 0) rfl rfl (by kernel_rfl) (by kernel_rfl) (by kernel_rfl) (fun _ _ _ h => h) (Or.inl ⟨by rfl, fun W hW => ?_⟩) K8 ?_
    · (go_simp)
    simp only [Act.put, List.setIfInBounds_toArray, List.set_cons_zero, List.set_cons_succ]
    refine wpAnyH_done (by kernel_rfl) ?_ _
    by_cases hxk : xl = k
    · have HRE2 : Hid (R = some (xs, q)) := hideP (by rw [HRE.out, if_pos (by rw [← HXL.out]; exact hxk)])
      have g1 : ((xl : Int) != (k : Int)) = false := by simp [hxk]
      have HXK := hideP hxk
      have HR1 := hideP (HR.out.kept K8)
      have HKS : Hid (Kept (fun i => i = rb) W (V1.setCell ⟨rb, 1, none⟩ (.int .i64 (q : Nat)))) := hideP ((K8.mono (fun _ f => f.elim)).trans (Kept.setCell V1 ⟨rb, 1, none⟩ (.int .i64 (q : Nat))) (fun i hi => .inl hi))
      have HRB := hideP (HR1.out.at q)
      have HIS : Hid (IntsAt (V1.setCell ⟨rb, 1, none⟩ (.int .i64 (q : Nat))) ga xs) := hideP (ints_step HI1.out (Kept.setCell V1 ⟨rb, 1, none⟩ (.int .i64 (q : Nat))) (fun hne => by
        obtain ⟨b9, o9, e9, _⟩ := HI1.out hne
        refine ⟨b9, o9, e9, fun hb => ?_⟩
        have h1 := HN1.out b9 o9 e9
        have h2 := lt_of_block HR.out
        simp only at hb
        omega))
      obtain ⟨⟨d0, d1, d2⟩, dz⟩ := row3 HR1.out
      have dz2 := dz 1
      clear K8 hS6 dz d0 hxk
      go_wp2
      go_ret
      rw [HRE2.out]
      exact ⟨ga, gc, by rw [← HXL.out]; rfl, HIS.out, HN1.out, HRB.out, HKS.out⟩
    · have HRE2 : Hid (R = none) := hideP (by rw [HRE.out, if_neg (by rw [← HXL.out]; exact hxk)])
      have g1 : ((xl : Int) != (k : Int)) = true := by simp; omega
      have HR1 := hideP (HR.out.kept K8)
      have HKS := hideP (((K8.mono (fun _ f => f.elim)).trans (Kept.setCell V1 ⟨rb, 2, none⟩ (.bool true)) (fun i hi => .inl hi) : Kept (fun i => i = rb) W (V1.setCell ⟨rb, 2, none⟩ (.bool true))))
      have HRB := hideP HR1.out.bad
      obtain ⟨⟨d0, d1, d2⟩, dz⟩ := row3 HR1.out
      have dz2 := dz 2
      clear K8 hS6 dz d0 d1
      go_wp2
      go_ret
      rw [HRE2.out]
      exact ⟨rfl, HRB.out, HKS.out⟩
set_option maxRecDepth 20000 in
set_option maxHeartbeats 8000000 in
theorem pak8_bad (k : Nat) (l : List Int) (a : Option Addr) (n c p rb : Nat) (W : World) (hR : RdX W rb a n c p true) (hn : n = l.length) (hB : BytesAt W a l) (hI : IsBytes l) (hp : p ≤ l.length) (hl : l.length ≤ 1073741824) :
    Calls Tryz.prog 51 #[.pointer (some ⟨rb, 0, none⟩), .int .i64 (k : Nat)] W fun e w' => pcP W rb a n c p e w' none := by
  have HR := hideP hR
  obtain ⟨⟨c0, c1, c2⟩, gz⟩ := row3 hR
  have HC : Hid (∀ V, Kept (fun _ => False) W V → V.cell? ⟨rb, 0, none⟩ = some (.slice a n c) ∧ V.cell? ⟨rb, 1, none⟩ = some (.int .i64 (p : Nat))) := hideP (fun V k => ⟨k.cell c0 (fun f => f), k.cell c1 (fun f => f)⟩)
  have hS6 : Kept (fun _ => False) W W.drew := Kept.drew W
  have CU := hideP (gpk_any l a n c p W.drew hn (hB.kept hS6) hI hp hl)
  clear hR hB hI hn hl hp c0 c1
  go_enter Tryz.func51, Tryz.ntmps51
  go_wp2_with fail
  refine wp_region_held (S := fun V => Kept (fun _ => False) W V) (by kernel_rfl) ?_
  change wpAnyH _ _ _ _ _ _ _ _ (World.drew _)
  refine takeZ (i := 0) (d := 9) (v := .pointer (some ⟨rb, 0, none⟩)) rfl rfl (by kernel_rfl) (by kernel_rfl) (by kernel_rfl) (fun _ _ _ h => h) (Or.inl ⟨by rfl, fun W hW => ?_⟩) hS6 ?_
  · (go_simp)
  simp only [Act.put, List.setIfInBounds_toArray, List.set_cons_zero, List.set_cons_succ]
  refine takeZ (i := 1) (d := 10) (v := .pointer (some ⟨rb, 0, none⟩)) rfl rfl (by kernel_rfl) (by kernel_rfl) (by kernel_rfl) (fun _ _ _ h => h) (Or.inl ⟨by rfl, fun W hW => ?_⟩) hS6 ?_
  · (go_simp)
  simp only [Act.put, List.setIfInBounds_toArray, List.set_cons_zero, List.set_cons_succ]
  refine takeZ (i := 2) (d := 11) (v := .pointer (some ⟨rb, 0, none⟩)) rfl rfl (by kernel_rfl) (by kernel_rfl) (by kernel_rfl) (fun _ _ _ h => h) (Or.inl ⟨by rfl, fun W hW => ?_⟩) hS6 ?_
  · (go_simp)
  simp only [Act.put, List.setIfInBounds_toArray, List.set_cons_zero, List.set_cons_succ]
  refine takeZ (i := 3) (d := 12) (v := .slice a n c) rfl rfl (by kernel_rfl) (by kernel_rfl) (by kernel_rfl) (fun _ _ _ h => h) (Or.inl ⟨by rfl, fun W hW => ?_⟩) hS6 ?_
  · (have q1 := (HC.out _ hW).1; go_simp)
  simp only [Act.put, List.setIfInBounds_toArray, List.set_cons_zero, List.set_cons_succ]
  refine takeZ (i := 4) (d := 13) (v := .pointer (some ⟨rb, 0, none⟩)) rfl rfl (by kernel_rfl) (by kernel_rfl) (by kernel_rfl) (fun _ _ _ h => h) (Or.inl ⟨by rfl, fun W hW => ?_⟩) hS6 ?_
  · (go_simp)
  simp only [Act.put, List.setIfInBounds_toArray, List.set_cons_zero, List.set_cons_succ]
  refine takeZ (i := 5) (d := 14) (v := .pointer (some ⟨rb, 0, none⟩)) rfl rfl (by kernel_rfl) (by kernel_rfl) (by kernel_rfl) (fun _ _ _ h => h) (Or.inl ⟨by rfl, fun W hW => ?_⟩) hS6 ?_
  · (go_simp)
  simp only [Act.put, List.setIfInBounds_toArray, List.set_cons_zero, List.set_cons_succ]
  refine takeZ (i := 6) (d := 15) (v := .pointer (some ⟨rb, 1, none⟩)) rfl rfl (by kernel_rfl) (by kernel_rfl) (by kernel_rfl) (fun _ _ _ h => h) (Or.inl ⟨by rfl, fun W hW => ?_⟩) hS6 ?_
  · (go_simp)
  simp only [Act.put, List.setIfInBounds_toArray, List.set_cons_zero, List.set_cons_succ]
  refine takeZ (i := 7) (d := 16) (v := .int .i64 (p : Nat)) rfl rfl (by kernel_rfl) (by kernel_rfl) (by kernel_rfl) (fun _ _ _ h => h) (Or.inl ⟨by rfl, fun W hW => ?_⟩) hS6 ?_
  · (have q1 := (HC.out _ hW).2; go_simp)
  simp only [Act.put, List.setIfInBounds_toArray, List.set_cons_zero, List.set_cons_succ]
  refine wpAnyH_all (rs := [8]) (by kernel_rfl) (by simp) ?_
  intro i hi
  obtain rfl : i = 8 := by simpa using hi
  unfold wpOp
  go_simp
  first | refine CU.out.mono ?_ | refine Or.inl (CU.out.mono ?_)
  clear CU
  rintro e V1 h
  obtain ⟨ga, gn, gc, q, code, rfl, hV⟩ := gkp_two h
  have K8 : Kept (fun _ => False) W V1 := hS6.trans hV (fun _ f => f.elim)
  refine ⟨K8, ?_⟩
  clear hV h c2
  refine takeZ (i := 9) (d := 8) (v := .tuple #[.slice ga gn gc, .int .i64 q, .int .i64 code]) rfl rfl (by kernel_rfl) (by kernel_rfl) (by kernel_rfl) (fun _ _ _ h => h) (Or.inl ⟨by rfl, fun W hW => ?_⟩) K8 ?_
  · (go_simp)
  simp only [Act.put, List.setIfInBounds_toArray, List.set_cons_zero, List.set_cons_succ]
  refine takeZ (i := 10) (d := 18) (v := .slice ga gn gc) rfl rfl (by kernel_rfl) (by kernel_rfl) (by kernel_rfl) (fun _ _ _ h => h) (Or.inl ⟨by rfl, fun W hW => ?_⟩) K8 ?_
  · (go_simp)
  simp only [Act.put, List.setIfInBounds_toArray, List.set_cons_zero, List.set_cons_succ]
  refine takeZ (i := 11) (d := 19) (v := .int .i64 q) rfl rfl (by kernel_rfl) (by kernel_rfl) (by kernel_rfl) (fun _ _ _ h => h) (Or.inl ⟨by rfl, fun W hW => ?_⟩) K8 ?_
  · (go_simp)
  simp only [Act.put, List.setIfInBounds_toArray, List.set_cons_zero, List.set_cons_succ]
  refine takeZ (i := 12) (d := 20) (v := .int .i64 code) rfl rfl (by kernel_rfl) (by kernel_rfl) (by kernel_rfl) (fun _ _ _ h => h) (Or.inl ⟨by rfl, fun W hW => ?_⟩) K8 ?_
  · (go_simp)
  simp only [Act.put, List.setIfInBounds_toArray, List.set_cons_zero, List.set_cons_succ]
  refine takeZ (i := 13) (d := 5) (v := .slice ga gn gc) rfl rfl (by kernel_rfl) (by kernel_rfl) (by kernel_rfl) (fun _ _ _ h => h) (Or.inl ⟨by rfl, fun W hW => ?_⟩) K8 ?_
  · (go_simp)
  simp only [Act.put, List.setIfInBounds_toArray, List.set_cons_zero, List.set_cons_succ]
  refine takeZ (i := 14) (d := 6) (v := .int .i64 q) rfl rfl (by kernel_rfl) (by kernel_rfl) (by kernel_rfl) (fun _ _ _ h => h) (Or.inl ⟨by rfl, fun W hW => ?_⟩) K8 ?_
  · (go_simp)
  simp only [Act.put, List.setIfInBounds_toArray, List.set_cons_zero, List.set_cons_succ]
  refine takeZ (i := 15) (d := 7) (v := .int .i64 code) rfl rfl (by kernel_rfl) (by kernel_rfl) (by kernel_rfl) (fun _ _ _ h => h) (Or.inl ⟨by rfl, fun W hW => ?_⟩) K8 ?_
  · (go_simp)
  simp only [Act.put, List.setIfInBounds_toArray, List.set_cons_zero, List.set_cons_succ]
  refine wpAnyH_done (by kernel_rfl) ?_ _
  by_cases hc : code = 0
  · have g1 : (code != 0) = false := by simp [hc]
    have HCo := hideP hc
    clear hc
    have HR1 := hideP (HR.out.kept K8)
    have HKS := hideP (((K8.mono (fun _ f => f.elim)).trans (Kept.setCell V1 ⟨rb, 2, none⟩ (.bool true)) (fun i hi => .inl hi) : Kept (fun i => i = rb) W (V1.setCell ⟨rb, 2, none⟩ (.bool true))))
    have HRB := hideP HR1.out.bad
    obtain ⟨⟨d0, d1, d2⟩, dz⟩ := row3 HR1.out
    have dz2 := dz 2
    clear K8 hS6 dz d0 d1
    go_wp2
    go_ret
    exact ⟨rfl, HRB.out, HKS.out⟩
  · have g1 : (code != 0) = true := by simp [hc]
    have HR1 := hideP (HR.out.kept K8)
    have HKS := hideP (((K8.mono (fun _ f => f.elim)).trans (Kept.setCell V1 ⟨rb, 2, none⟩ (.bool true)) (fun i hi => .inl hi) : Kept (fun i => i = rb) W (V1.setCell ⟨rb, 2, none⟩ (.bool true))))
    have HRB := hideP HR1.out.bad
    obtain ⟨⟨d0, d1, d2⟩, dz⟩ := row3 HR1.out
    have dz2 := dz 2
    clear K8 hS6 dz d0 d1
    go_wp2
    go_ret
    exact ⟨rfl, HRB.out, HKS.out⟩
end Go.Proofs.YtidgofpmnlddaaaGreatDoor
