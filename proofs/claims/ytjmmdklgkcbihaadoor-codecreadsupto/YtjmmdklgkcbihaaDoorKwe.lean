import Derived.Test.YtjmmdklgkcbihaaDoorMrg3
import Derived.Deep.AppendLies
namespace Go.Proofs.YtjmmdklgkcbihaaDoor
open Go.ChangeShapes Go.WideShapes Go.ChangeAt Go.RowKit

theorem isH_lenJ (l : List Int) : (isH l).length = l.length := by simp [isH]
theorem isH_oneJ (l : List Int) : ∀ u ∈ isH l, u.oneCell' = true := by
  intro u hu
  obtain ⟨x, -, rfl⟩ := List.mem_map.1 hu
  rfl
/-- The marks behind a list that is handed in. -/
def hrmJ (k : Nat) : List Int := (List.range k).map (fun (i : Nat) => -77000 - (i : Int))
theorem hrm_lengthJ (k : Nat) : (hrmJ k).length = k := by simp [hrmJ]
theorem hrm_succJ (k : Nat) : hrmJ (k + 1) = hrmJ k ++ [-77000 - (k : Int)] := by simp [hrmJ, List.range_succ]
/-- A list that is handed in. -/
structure HdJ (W : World) (hb f cf q cq n : Nat) (l : List Int) : Prop where
  obj : W.heap[hb]? = some (.cells #[.slice (some ⟨f, 0, none⟩) (n + 80) cf, .slice (some ⟨q, 0, none⟩) (n + 80) cq, .int .i64 n] 135 (0, 0))
  full : LibI W (.slice (some ⟨f, 0, none⟩) (n + 80) cf) l
  want : LibI W (.slice (some ⟨q, 0, none⟩) (n + 80) cq) l
  len : l.length = n + 80
  ne1 : hb ≠ f
  ne2 : hb ≠ q
  ne3 : f ≠ q
theorem HdJ.kept {F : Nat → Prop} {W W' : World} {hb f cf q cq n : Nat} {l : List Int} (h : HdJ W hb f cf q cq n l) (k : Kept F W W') (h1 : ¬ F hb) (h2 : ¬ F f) (h3 : ¬ F q) : HdJ W' hb f cf q cq n l :=
  ⟨k.heap h.obj h1, h.full.kept k (fun i e => by have e2 : f = i := Option.some.inj e; rw [← e2]; exact h2), h.want.kept k (fun i e => by have e2 : q = i := Option.some.inj e; rw [← e2]; exact h3), h.len, h.ne1, h.ne2, h.ne3⟩
theorem HdJ.later {W W' : World} {hb f cf q cq n : Nat} {l : List Int} (h : HdJ W hb f cf q cq n l) (k : Kept (fun _ => False) W W') : HdJ W' hb f cf q cq n l := h.kept k (fun f => f) (fun f => f) (fun f => f)
theorem HdJ.cells {W : World} {hb f cf q cq n : Nat} {l : List Int} (h : HdJ W hb f cf q cq n l) : W.cell? ⟨hb, 0, none⟩ = some (.slice (some ⟨f, 0, none⟩) (n + 80) cf) ∧ W.cell? ⟨hb, 1, none⟩ = some (.slice (some ⟨q, 0, none⟩) (n + 80) cq) ∧ W.cell? ⟨hb, 2, none⟩ = some (.int .i64 n) := by
  refine ⟨?_, ?_, ?_⟩ <;> rw [cell_of_row _ _ _ _ _ _ h.obj] <;> rfl
theorem HdJ.cap {W : World} {hb f cf q cq n : Nat} {l : List Int} (h : HdJ W hb f cf q cq n l) : n + 80 ≤ cf ∧ n + 80 ≤ cq := by
  constructor
  · rcases h.full with ⟨e, _⟩ | ⟨b, c, cur, e, _, h1, _⟩
    · cases e
    · simp only [Value.slice.injEq] at e
      omega
  · rcases h.want with ⟨e, _⟩ | ⟨b, c, cur, e, _, h1, _⟩
    · cases e
    · simp only [Value.slice.injEq] at e
      omega
set_option maxRecDepth 20000 in
set_option maxHeartbeats 4000000 in
theorem give_anyJ (hb f cf q cq n : Nat) (l : List Int) (w : World) (h : HdJ w hb f cf q cq n l) :
    Calls Tryd.prog 71 #[.pointer (some ⟨hb, 0, none⟩)] w fun e w' => e = .returned (.slice (some ⟨f, 0, none⟩) n cf) ∧ Kept (fun _ => False) w w' := by
  have HC : Hid (∀ W, Kept (fun _ => False) w W → W.cell? ⟨hb, 0, none⟩ = some (.slice (some ⟨f, 0, none⟩) (n + 80) cf) ∧ W.cell? ⟨hb, 2, none⟩ = some (.int .i64 n)) := hideH (fun W k => ⟨k.cell h.cells.1 (fun f => f), k.cell h.cells.2.2 (fun f => f)⟩)
  have j1 : (n : Int) ≤ (cf : Int) := by have := h.cap; omega
  have j2 : n ≤ cf := by have := h.cap; omega
  have hS : Kept (fun _ => False) w w.drew := Kept.drew w
  clear h
  go_enter Tryd.func71, Tryd.ntmps71
  go_wp2_with fail
  refine wp_region_held (S := fun W' => Kept (fun _ => False) w W') (by kernel_rfl) ?_
  change wpAnyH _ _ _ _ _ _ _ _ (World.drew _)
  refine takeYH (i := 0) (d := 3) (v := .pointer (some ⟨hb, 0, none⟩)) rfl rfl (by kernel_rfl) (by kernel_rfl) (by kernel_rfl) (fun _ _ _ h => h) (Or.inl ⟨by rfl, fun W hW => ?_⟩) hS ?_
  · (go_simp)
  simp only [Act.put, List.setIfInBounds_toArray, List.set_cons_zero, List.set_cons_succ]
  refine takeYH (i := 1) (d := 4) (v := .pointer (some ⟨hb, 0, none⟩)) rfl rfl (by kernel_rfl) (by kernel_rfl) (by kernel_rfl) (fun _ _ _ h => h) (Or.inl ⟨by rfl, fun W hW => ?_⟩) hS ?_
  · (go_simp)
  simp only [Act.put, List.setIfInBounds_toArray, List.set_cons_zero, List.set_cons_succ]
  refine takeYH (i := 2) (d := 5) (v := .pointer (some ⟨hb, 0, none⟩)) rfl rfl (by kernel_rfl) (by kernel_rfl) (by kernel_rfl) (fun _ _ _ h => h) (Or.inl ⟨by rfl, fun W hW => ?_⟩) hS ?_
  · (go_simp)
  simp only [Act.put, List.setIfInBounds_toArray, List.set_cons_zero, List.set_cons_succ]
  refine takeYH (i := 3) (d := 6) (v := .slice (some ⟨f, 0, none⟩) (n + 80) cf) rfl rfl (by kernel_rfl) (by kernel_rfl) (by kernel_rfl) (fun _ _ _ h => h) (Or.inl ⟨by rfl, fun W hW => ?_⟩) hS ?_
  · ((obtain ⟨q0, q1⟩ := HC.out _ hW; go_simp))
  simp only [Act.put, List.setIfInBounds_toArray, List.set_cons_zero, List.set_cons_succ]
  refine takeYH (i := 4) (d := 7) (v := .pointer (some ⟨hb, 0, none⟩)) rfl rfl (by kernel_rfl) (by kernel_rfl) (by kernel_rfl) (fun _ _ _ h => h) (Or.inl ⟨by rfl, fun W hW => ?_⟩) hS ?_
  · (go_simp)
  simp only [Act.put, List.setIfInBounds_toArray, List.set_cons_zero, List.set_cons_succ]
  refine takeYH (i := 5) (d := 8) (v := .pointer (some ⟨hb, 0, none⟩)) rfl rfl (by kernel_rfl) (by kernel_rfl) (by kernel_rfl) (fun _ _ _ h => h) (Or.inl ⟨by rfl, fun W hW => ?_⟩) hS ?_
  · (go_simp)
  simp only [Act.put, List.setIfInBounds_toArray, List.set_cons_zero, List.set_cons_succ]
  refine takeYH (i := 6) (d := 9) (v := .pointer (some ⟨hb, 2, none⟩)) rfl rfl (by kernel_rfl) (by kernel_rfl) (by kernel_rfl) (fun _ _ _ h => h) (Or.inl ⟨by rfl, fun W hW => ?_⟩) hS ?_
  · (go_simp)
  simp only [Act.put, List.setIfInBounds_toArray, List.set_cons_zero, List.set_cons_succ]
  refine takeYH (i := 7) (d := 10) (v := .int .i64 n) rfl rfl (by kernel_rfl) (by kernel_rfl) (by kernel_rfl) (fun _ _ _ h => h) (Or.inl ⟨by rfl, fun W hW => ?_⟩) hS ?_
  · ((obtain ⟨q0, q1⟩ := HC.out _ hW; go_simp))
  simp only [Act.put, List.setIfInBounds_toArray, List.set_cons_zero, List.set_cons_succ]
  refine takeYH (i := 8) (d := 11) (v := .slice (some ⟨f, 0, none⟩) n cf) rfl rfl (by kernel_rfl) (by kernel_rfl) (by kernel_rfl) (fun _ _ _ h => h) (Or.inl ⟨by rfl, fun W hW => ?_⟩) hS ?_
  · (go_simp)
  simp only [Act.put, List.setIfInBounds_toArray, List.set_cons_zero, List.set_cons_succ]
  refine takeYH (i := 9) (d := 2) (v := .slice (some ⟨f, 0, none⟩) n cf) rfl rfl (by kernel_rfl) (by kernel_rfl) (by kernel_rfl) (fun _ _ _ h => h) (Or.inl ⟨by rfl, fun W hW => ?_⟩) hS ?_
  · (go_simp)
  simp only [Act.put, List.setIfInBounds_toArray, List.set_cons_zero, List.set_cons_succ]
  refine wpAnyH_done (by kernel_rfl) ?_ _
  go_wp2
  go_ret
  exact ⟨rfl, hS⟩
set_option maxRecDepth 20000 in
set_option maxHeartbeats 4000000 in
theorem same_anyJ (hb f cf q cq n : Nat) (l : List Int) (w : World) (h : HdJ w hb f cf q cq n l) (hl : n ≤ 1048576) :
    Calls Tryd.prog 74 #[.pointer (some ⟨hb, 0, none⟩)] w fun e w' => e = .returned (.bool true) ∧ Kept (fun _ => False) w w' := by
  have HC : Hid (∀ W, Kept (fun _ => False) w W → W.cell? ⟨hb, 0, none⟩ = some (.slice (some ⟨f, 0, none⟩) (n + 80) cf) ∧ W.cell? ⟨hb, 1, none⟩ = some (.slice (some ⟨q, 0, none⟩) (n + 80) cq)) := hideH (fun W k => ⟨k.cell h.cells.1 (fun f => f), k.cell h.cells.2.1 (fun f => f)⟩)
  have CS : Hid (∀ W, Kept (fun _ => False) w W → Calls Tryd.prog 63 #[.slice (some ⟨f, 0, none⟩) (n + 80) cf, .slice (some ⟨q, 0, none⟩) (n + 80) cq] W fun e w' => e = .returned (.bool true) ∧ Kept (fun _ => False) W w') := hideH (fun W k => sameI_true l _ _ (n + 80) cf cq W h.len.symm (h.later k).full.ints.1 (h.later k).want.ints.1 (by omega))
  have hS : Kept (fun _ => False) w w.drew := Kept.drew w
  clear h
  go_enter Tryd.func74, Tryd.ntmps74
  go_wp2_with fail
  refine wp_region_held (S := fun W' => Kept (fun _ => False) w W') (by kernel_rfl) ?_
  change wpAnyH _ _ _ _ _ _ _ _ (World.drew _)
  refine takeYH (i := 0) (d := 3) (v := .pointer (some ⟨hb, 0, none⟩)) rfl rfl (by kernel_rfl) (by kernel_rfl) (by kernel_rfl) (fun _ _ _ h => h) (Or.inl ⟨by rfl, fun W hW => ?_⟩) hS ?_
  · (go_simp)
  simp only [Act.put, List.setIfInBounds_toArray, List.set_cons_zero, List.set_cons_succ]
  refine takeYH (i := 1) (d := 4) (v := .pointer (some ⟨hb, 0, none⟩)) rfl rfl (by kernel_rfl) (by kernel_rfl) (by kernel_rfl) (fun _ _ _ h => h) (Or.inl ⟨by rfl, fun W hW => ?_⟩) hS ?_
  · (go_simp)
  simp only [Act.put, List.setIfInBounds_toArray, List.set_cons_zero, List.set_cons_succ]
  refine takeYH (i := 2) (d := 5) (v := .pointer (some ⟨hb, 0, none⟩)) rfl rfl (by kernel_rfl) (by kernel_rfl) (by kernel_rfl) (fun _ _ _ h => h) (Or.inl ⟨by rfl, fun W hW => ?_⟩) hS ?_
  · (go_simp)
  simp only [Act.put, List.setIfInBounds_toArray, List.set_cons_zero, List.set_cons_succ]
  refine takeYH (i := 3) (d := 6) (v := .slice (some ⟨f, 0, none⟩) (n + 80) cf) rfl rfl (by kernel_rfl) (by kernel_rfl) (by kernel_rfl) (fun _ _ _ h => h) (Or.inl ⟨by rfl, fun W hW => ?_⟩) hS ?_
  · (obtain ⟨q0, q1⟩ := HC.out _ hW; go_simp)
  simp only [Act.put, List.setIfInBounds_toArray, List.set_cons_zero, List.set_cons_succ]
  refine takeYH (i := 4) (d := 7) (v := .pointer (some ⟨hb, 0, none⟩)) rfl rfl (by kernel_rfl) (by kernel_rfl) (by kernel_rfl) (fun _ _ _ h => h) (Or.inl ⟨by rfl, fun W hW => ?_⟩) hS ?_
  · (go_simp)
  simp only [Act.put, List.setIfInBounds_toArray, List.set_cons_zero, List.set_cons_succ]
  refine takeYH (i := 5) (d := 8) (v := .pointer (some ⟨hb, 0, none⟩)) rfl rfl (by kernel_rfl) (by kernel_rfl) (by kernel_rfl) (fun _ _ _ h => h) (Or.inl ⟨by rfl, fun W hW => ?_⟩) hS ?_
  · (go_simp)
  simp only [Act.put, List.setIfInBounds_toArray, List.set_cons_zero, List.set_cons_succ]
  refine takeYH (i := 6) (d := 9) (v := .pointer (some ⟨hb, 1, none⟩)) rfl rfl (by kernel_rfl) (by kernel_rfl) (by kernel_rfl) (fun _ _ _ h => h) (Or.inl ⟨by rfl, fun W hW => ?_⟩) hS ?_
  · (go_simp)
  simp only [Act.put, List.setIfInBounds_toArray, List.set_cons_zero, List.set_cons_succ]
  refine takeYH (i := 7) (d := 10) (v := .slice (some ⟨q, 0, none⟩) (n + 80) cq) rfl rfl (by kernel_rfl) (by kernel_rfl) (by kernel_rfl) (fun _ _ _ h => h) (Or.inl ⟨by rfl, fun W hW => ?_⟩) hS ?_
  · (obtain ⟨q0, q1⟩ := HC.out _ hW; go_simp)
  simp only [Act.put, List.setIfInBounds_toArray, List.set_cons_zero, List.set_cons_succ]
  refine wpAnyH_all (rs := [8]) (by kernel_rfl) (by simp) ?_
  intro i' hi'
  obtain rfl : i' = 8 := by simpa using hi'
  unfold wpOp
  go_simp
  first | refine (CS.out w.drew hS).mono ?_ | refine Or.inl ((CS.out w.drew hS).mono ?_)
  rintro e Wy ⟨rfl, ky0⟩
  have ky : Kept (fun _ => False) w Wy := hS.trans ky0 (fun _ f => f.elim)
  refine ⟨ky, ?_⟩
  refine takeYH (i := 9) (d := 2) (v := .bool true) rfl rfl (by kernel_rfl) (by kernel_rfl) (by kernel_rfl) (fun _ _ _ h => h) (Or.inl ⟨by rfl, fun W hW => ?_⟩) ky ?_
  · (go_simp)
  simp only [Act.put, List.setIfInBounds_toArray, List.set_cons_zero, List.set_cons_succ]
  refine wpAnyH_done (by kernel_rfl) ?_ _
  go_wp2
  go_ret
  exact ⟨rfl, ky⟩
def spxJ (j : Nat) (x : Int) : Int := bits .xor .i64 x (91 + (j : Int))
def splJ : Nat → List Int → List Int
  | 0, l => l
  | i + 1, l => (splJ i l).set i (spxJ i ((splJ i l)[i]?.getD 0))
theorem spl_lengthJ : ∀ (i : Nat) (l : List Int), (splJ i l).length = l.length
  | 0, _ => rfl
  | i + 1, l => by rw [splJ, List.length_set, spl_lengthJ i l]
set_option maxRecDepth 20000 in
set_option maxHeartbeats 4000000 in
theorem spoil_anyJ (hb f cf q cq n : Nat) (l : List Int) (w : World) (h : HdJ w hb f cf q cq n l) (hn : n ≤ 35184372088832) :
    Calls Tryd.prog 75 #[.pointer (some ⟨hb, 0, none⟩)] w fun e w' => e = .returned (.tuple #[]) ∧ HdJ w' hb f cf q cq n (splJ n l) ∧ Kept (fun k => k = f ∨ k = q) w w' := by
  have HH := hideH h
  clear h
  go_enter Tryd.func75, Tryd.ntmps75
  go_wp2
  go_loopw [2] (fun s2 wr => ∃ i : Nat, i ≤ n ∧ s2 = .int .i64 i ∧ Hid (HdJ wr hb f cf q cq n (splJ i l)) ∧ Hid (Kept (fun k => k = f ∨ k = q) w wr)) (fun s2 _ => n - (intOf s2).toNat)
  case atStart => exact ⟨0, by omega, rfl, HH, hideH (Kept.refl _ _)⟩
  case round =>
  obtain ⟨i, hi, rfl, HR, HK⟩ := hrel
  obtain ⟨c0, c1, c2⟩ := HR.out.cells
  by_cases hlt : i < n
  · have hil : i < (splJ i l).length := by rw [HR.out.len]; omega
    have hil2 : i < (splJ (i + 1) l).length := by rw [spl_lengthJ, ← spl_lengthJ i l]; exact hil
    obtain ⟨b1, d1, e1, y1, y2⟩ := HR.out.full.cells hil
    simp only [Value.slice.injEq, Option.some.injEq, Addr.mk.injEq, and_true] at e1
    obtain ⟨eb, -, -⟩ := e1
    subst eb
    have ks := (Kept.setCell wr ⟨f, i, none⟩ (.int .i64 (spxJ i ((splJ i l)[i]?.getD 0)))).trans (Kept.drew _) (fun _ f => f.elim)
    have hset1 : LibI (wr.setCell ⟨f, i, none⟩ (.int .i64 (spxJ i ((splJ i l)[i]?.getD 0)))).drew (.slice (some ⟨f, 0, none⟩) (n + 80) cf) (splJ (i + 1) l) := (HR.out.full.set (b := f) rfl hil _).later (Kept.drew _)
    have hw1 := HR.out.want.kept ks (fun k e f2 => by have e2 : q = k := Option.some.inj e; have e3 : k = f := f2; exact HR.out.ne3 (by omega))
    have hd1 := (Kept.drew wr).heap HR.out.obj (fun f => f)
    have ho1 := ks.heap HR.out.obj (fun e => HR.out.ne1 e)
    obtain ⟨V1, hV1⟩ : ∃ V1, V1 = (wr.setCell ⟨f, i, none⟩ (.int .i64 (spxJ i ((splJ i l)[i]?.getD 0)))).drew := ⟨_, rfl⟩
    rw [← hV1] at hset1 hw1 ho1 ks
    obtain ⟨b2, d2, e2, z1, z2⟩ := hset1.cells hil2
    simp only [Value.slice.injEq, Option.some.injEq, Addr.mk.injEq, and_true] at e2
    obtain ⟨eb, -, -⟩ := e2
    subst eb
    have hg1 : (splJ (i + 1) l)[i]?.getD 0 = spxJ i ((splJ i l)[i]?.getD 0) := by rw [splJ, List.getElem?_set_self hil]; rfl
    rw [hg1] at z1
    obtain ⟨b3, d3, e3, w1, w2⟩ := hw1.cells hil
    simp only [Value.slice.injEq, Option.some.injEq, Addr.mk.injEq, and_true] at e3
    obtain ⟨eb, -, -⟩ := e3
    subst eb
    have ks2 := (Kept.setCell V1 ⟨q, i, none⟩ (.int .i64 (spxJ i ((splJ i l)[i]?.getD 0)))).trans (Kept.drew _) (fun _ f => f.elim)
    have hfin : HdJ (V1.setCell ⟨q, i, none⟩ (.int .i64 (spxJ i ((splJ i l)[i]?.getD 0)))).drew hb f cf q cq n (splJ (i + 1) l) := ⟨ks2.heap ho1 (fun e => HR.out.ne2 e), hset1.kept ks2 (fun k e f2 => by have e2 : f = k := Option.some.inj e; have e3 : k = q := f2; exact HR.out.ne3 (by omega)), (hw1.set (b := q) rfl hil _).later (Kept.drew _), by rw [spl_lengthJ, ← spl_lengthJ i l]; exact HR.out.len, HR.out.ne1, HR.out.ne2, HR.out.ne3⟩
    have hkf : Kept (fun k => k = f ∨ k = q) w (V1.setCell ⟨q, i, none⟩ (.int .i64 (spxJ i ((splJ i l)[i]?.getD 0)))).drew := (HK.out.trans ks (fun k e => .inl (.inl e))).trans ks2 (fun k e => .inl (.inr e))
    have HF := hideH hfin
    have HKF := hideH hkf
    have HSC : Hid (∀ W : World, W.heap[hb]? = some (.cells #[.slice (some ⟨f, 0, none⟩) (n + 80) cf, .slice (some ⟨q, 0, none⟩) (n + 80) cq, .int .i64 n] 135 (0, 0)) → W.cell? ⟨hb, 0, none⟩ = some (.slice (some ⟨f, 0, none⟩) (n + 80) cf) ∧ W.cell? ⟨hb, 1, none⟩ = some (.slice (some ⟨q, 0, none⟩) (n + 80) cq)) := hideH (fun W h => by constructor <;> rw [cell_of_row _ _ _ _ _ _ h] <;> rfl)
    have hS1 : wr.drew.heap[hb]? = some (.cells #[.slice (some ⟨f, 0, none⟩) (n + 80) cf, .slice (some ⟨q, 0, none⟩) (n + 80) cq, .int .i64 n] 135 (0, 0)) := hd1
    have hS3 : V1.drew.heap[hb]? = some (.cells #[.slice (some ⟨f, 0, none⟩) (n + 80) cf, .slice (some ⟨q, 0, none⟩) (n + 80) cq, .int .i64 n] 135 (0, 0)) := ho1
    have hS4 : (V1.setCell ⟨q, i, none⟩ (.int .i64 (spxJ i ((splJ i l)[i]?.getD 0)))).drew.heap[hb]? = some (.cells #[.slice (some ⟨f, 0, none⟩) (n + 80) cf, .slice (some ⟨q, 0, none⟩) (n + 80) cq, .int .i64 n] 135 (0, 0)) := hfin.obj
    have hcap := HR.out.cap
    generalize (splJ i l)[i]?.getD 0 = y at *
    have HSx : Hid (spxJ i y = bits .xor .i64 y (91 + (i : Int))) := hideH rfl
    generalize spxJ i y = y' at *
    have i1 : (i : Int) < (n : Int) := by omega
    have i2 : (i : Int) < (n : Int) + 80 := by omega
    have i3 : i < n + 80 := by omega
    have i4 : IntKind.i64.wrap (91 + (i : Int)) = 91 + (i : Int) := by rw [IntKind.wrap_i64]; omega
    have y1d : wr.drew.cell? ⟨f, i, none⟩ = some (.int .i64 y) := y1
    have z1d : V1.drew.cell? ⟨f, i, none⟩ = some (.int .i64 y') := z1
    have w1d : V1.drew.cell? ⟨q, i, none⟩ = some (.int .i64 y) := w1
    have HV1 := hideH hV1
    clear hset1 hw1 hd1 ks ks2 hfin hkf hg1 hil hil2 HR HK hV1 HH hcap
    go_wp2_with fail
    refine wp_region_held (S := fun W' => W'.heap[hb]? = some (.cells #[.slice (some ⟨f, 0, none⟩) (n + 80) cf, .slice (some ⟨q, 0, none⟩) (n + 80) cq, .int .i64 n] 135 (0, 0))) (by kernel_rfl) ?_
    change wpAnyH _ _ _ _ _ _ _ _ (World.drew _)
    refine takeYH (i := 0) (d := 11) (v := .pointer (some ⟨hb, 0, none⟩)) rfl rfl (by kernel_rfl) (by kernel_rfl) (by kernel_rfl) (fun _ _ _ h => h) (Or.inl ⟨by rfl, fun W hW => ?_⟩) hS1 ?_
    · (go_simp)
    simp only [Act.put, List.setIfInBounds_toArray, List.set_cons_zero, List.set_cons_succ]
    refine takeYH (i := 1) (d := 12) (v := .pointer (some ⟨hb, 0, none⟩)) rfl rfl (by kernel_rfl) (by kernel_rfl) (by kernel_rfl) (fun _ _ _ h => h) (Or.inl ⟨by rfl, fun W hW => ?_⟩) hS1 ?_
    · (go_simp)
    simp only [Act.put, List.setIfInBounds_toArray, List.set_cons_zero, List.set_cons_succ]
    refine takeYH (i := 2) (d := 13) (v := .pointer (some ⟨hb, 0, none⟩)) rfl rfl (by kernel_rfl) (by kernel_rfl) (by kernel_rfl) (fun _ _ _ h => h) (Or.inl ⟨by rfl, fun W hW => ?_⟩) hS1 ?_
    · (go_simp)
    simp only [Act.put, List.setIfInBounds_toArray, List.set_cons_zero, List.set_cons_succ]
    refine takeYH (i := 3) (d := 14) (v := .slice (some ⟨f, 0, none⟩) (n + 80) cf) rfl rfl (by kernel_rfl) (by kernel_rfl) (by kernel_rfl) (fun _ _ _ h => h) (Or.inl ⟨by rfl, fun W hW => ?_⟩) hS1 ?_
    · ((obtain ⟨q0, q1⟩ := HSC.out _ hW; go_simp))
    simp only [Act.put, List.setIfInBounds_toArray, List.set_cons_zero, List.set_cons_succ]
    refine takeYH (i := 4) (d := 15) (v := .int .i64 i) rfl rfl (by kernel_rfl) (by kernel_rfl) (by kernel_rfl) (fun _ _ _ h => h) (Or.inl ⟨by rfl, fun W hW => ?_⟩) hS1 ?_
    · (go_simp)
    simp only [Act.put, List.setIfInBounds_toArray, List.set_cons_zero, List.set_cons_succ]
    refine takeYH (i := 5) (d := 16) (v := .pointer (some ⟨hb, 0, none⟩)) rfl rfl (by kernel_rfl) (by kernel_rfl) (by kernel_rfl) (fun _ _ _ h => h) (Or.inl ⟨by rfl, fun W hW => ?_⟩) hS1 ?_
    · (go_simp)
    simp only [Act.put, List.setIfInBounds_toArray, List.set_cons_zero, List.set_cons_succ]
    refine takeYH (i := 6) (d := 17) (v := .pointer (some ⟨hb, 0, none⟩)) rfl rfl (by kernel_rfl) (by kernel_rfl) (by kernel_rfl) (fun _ _ _ h => h) (Or.inl ⟨by rfl, fun W hW => ?_⟩) hS1 ?_
    · (go_simp)
    simp only [Act.put, List.setIfInBounds_toArray, List.set_cons_zero, List.set_cons_succ]
    refine takeYH (i := 7) (d := 18) (v := .pointer (some ⟨hb, 0, none⟩)) rfl rfl (by kernel_rfl) (by kernel_rfl) (by kernel_rfl) (fun _ _ _ h => h) (Or.inl ⟨by rfl, fun W hW => ?_⟩) hS1 ?_
    · (go_simp)
    simp only [Act.put, List.setIfInBounds_toArray, List.set_cons_zero, List.set_cons_succ]
    refine takeYH (i := 8) (d := 19) (v := .slice (some ⟨f, 0, none⟩) (n + 80) cf) rfl rfl (by kernel_rfl) (by kernel_rfl) (by kernel_rfl) (fun _ _ _ h => h) (Or.inl ⟨by rfl, fun W hW => ?_⟩) hS1 ?_
    · ((obtain ⟨q0, q1⟩ := HSC.out _ hW; go_simp))
    simp only [Act.put, List.setIfInBounds_toArray, List.set_cons_zero, List.set_cons_succ]
    refine takeYH (i := 9) (d := 20) (v := .int .i64 i) rfl rfl (by kernel_rfl) (by kernel_rfl) (by kernel_rfl) (fun _ _ _ h => h) (Or.inl ⟨by rfl, fun W hW => ?_⟩) hS1 ?_
    · (go_simp)
    simp only [Act.put, List.setIfInBounds_toArray, List.set_cons_zero, List.set_cons_succ]
    refine takeYH (i := 10) (d := 21) (v := .pointer (some ⟨f, i, none⟩)) rfl rfl (by kernel_rfl) (by kernel_rfl) (by kernel_rfl) (fun _ _ _ h => h) (Or.inl ⟨by rfl, fun W hW => ?_⟩) hS1 ?_
    · (go_simp)
    simp only [Act.put, List.setIfInBounds_toArray, List.set_cons_zero, List.set_cons_succ]
    refine takeYH (i := 12) (d := 23) (v := .int .i64 i) rfl rfl (by kernel_rfl) (by kernel_rfl) (by kernel_rfl) (fun _ _ _ h => h) (Or.inl ⟨by rfl, fun W hW => ?_⟩) hS1 ?_
    · (go_simp)
    simp only [Act.put, List.setIfInBounds_toArray, List.set_cons_zero, List.set_cons_succ]
    refine takeYH (i := 13) (d := 24) (v := .int .i64 (91 + (i : Int))) rfl rfl (by kernel_rfl) (by kernel_rfl) (by kernel_rfl) (fun _ _ _ h => h) (Or.inl ⟨by rfl, fun W hW => ?_⟩) hS1 ?_
    · (go_simp)
    simp only [Act.put, List.setIfInBounds_toArray, List.set_cons_zero, List.set_cons_succ]
    refine wpAnyH_all (rs := [11]) (by kernel_rfl) (by simp) ?_
    intro i' hi'
    obtain rfl : i' = 11 := by simpa using hi'
    unfold wpOp
    go_simp
    first | refine Or.inl ⟨hS1, ?_⟩ | refine ⟨hS1, ?_⟩ | (change wpAnyH _ _ _ _ _ _ _ _ _) | refine Or.inl ?_
    refine takeYH (i := 14) (d := 25) (v := .int .i64 y') rfl rfl (by kernel_rfl) (by kernel_rfl) (by kernel_rfl) (fun _ _ _ h => h) (Or.inl ⟨by rfl, fun W hW => ?_⟩) hS1 ?_
    · ((rw [HSx.out]; go_simp))
    simp only [Act.put, List.setIfInBounds_toArray, List.set_cons_zero, List.set_cons_succ]
    refine takeYH (i := 15) (d := 26) (v := .pointer (some ⟨f, i, none⟩)) rfl rfl (by kernel_rfl) (by kernel_rfl) (by kernel_rfl) (fun _ _ _ h => h) (Or.inl ⟨by rfl, fun W hW => ?_⟩) hS1 ?_
    · (go_simp)
    simp only [Act.put, List.setIfInBounds_toArray, List.set_cons_zero, List.set_cons_succ]
    refine wpAnyH_all (rs := [16]) (by kernel_rfl) (by simp) ?_
    intro i' hi'
    obtain rfl : i' = 16 := by simpa using hi'
    unfold wpOp
    go_simp
    rw [← HV1.out]
    first | refine Or.inl ⟨ho1, ?_⟩ | refine ⟨ho1, ?_⟩ | (change wpAnyH _ _ _ _ _ _ _ _ _) | refine Or.inl ?_
    refine wpAnyH_done (by kernel_rfl) ?_ _
    go_wp2_with fail
    refine wp_region_held (S := fun W' => W'.heap[hb]? = some (.cells #[.slice (some ⟨f, 0, none⟩) (n + 80) cf, .slice (some ⟨q, 0, none⟩) (n + 80) cq, .int .i64 n] 135 (0, 0))) (by kernel_rfl) ?_
    change wpAnyH _ _ _ _ _ _ _ _ (World.drew _)
    refine takeYH (i := 0) (d := 27) (v := .pointer (some ⟨hb, 0, none⟩)) rfl rfl (by kernel_rfl) (by kernel_rfl) (by kernel_rfl) (fun _ _ _ h => h) (Or.inl ⟨by rfl, fun W hW => ?_⟩) hS3 ?_
    · (go_simp)
    simp only [Act.put, List.setIfInBounds_toArray, List.set_cons_zero, List.set_cons_succ]
    refine takeYH (i := 1) (d := 28) (v := .pointer (some ⟨hb, 0, none⟩)) rfl rfl (by kernel_rfl) (by kernel_rfl) (by kernel_rfl) (fun _ _ _ h => h) (Or.inl ⟨by rfl, fun W hW => ?_⟩) hS3 ?_
    · (go_simp)
    simp only [Act.put, List.setIfInBounds_toArray, List.set_cons_zero, List.set_cons_succ]
    refine takeYH (i := 2) (d := 29) (v := .pointer (some ⟨hb, 1, none⟩)) rfl rfl (by kernel_rfl) (by kernel_rfl) (by kernel_rfl) (fun _ _ _ h => h) (Or.inl ⟨by rfl, fun W hW => ?_⟩) hS3 ?_
    · (go_simp)
    simp only [Act.put, List.setIfInBounds_toArray, List.set_cons_zero, List.set_cons_succ]
    refine takeYH (i := 3) (d := 30) (v := .slice (some ⟨q, 0, none⟩) (n + 80) cq) rfl rfl (by kernel_rfl) (by kernel_rfl) (by kernel_rfl) (fun _ _ _ h => h) (Or.inl ⟨by rfl, fun W hW => ?_⟩) hS3 ?_
    · ((obtain ⟨q0, q1⟩ := HSC.out _ hW; go_simp))
    simp only [Act.put, List.setIfInBounds_toArray, List.set_cons_zero, List.set_cons_succ]
    refine takeYH (i := 4) (d := 31) (v := .int .i64 i) rfl rfl (by kernel_rfl) (by kernel_rfl) (by kernel_rfl) (fun _ _ _ h => h) (Or.inl ⟨by rfl, fun W hW => ?_⟩) hS3 ?_
    · (go_simp)
    simp only [Act.put, List.setIfInBounds_toArray, List.set_cons_zero, List.set_cons_succ]
    refine takeYH (i := 5) (d := 32) (v := .pointer (some ⟨hb, 0, none⟩)) rfl rfl (by kernel_rfl) (by kernel_rfl) (by kernel_rfl) (fun _ _ _ h => h) (Or.inl ⟨by rfl, fun W hW => ?_⟩) hS3 ?_
    · (go_simp)
    simp only [Act.put, List.setIfInBounds_toArray, List.set_cons_zero, List.set_cons_succ]
    refine takeYH (i := 6) (d := 33) (v := .pointer (some ⟨hb, 0, none⟩)) rfl rfl (by kernel_rfl) (by kernel_rfl) (by kernel_rfl) (fun _ _ _ h => h) (Or.inl ⟨by rfl, fun W hW => ?_⟩) hS3 ?_
    · (go_simp)
    simp only [Act.put, List.setIfInBounds_toArray, List.set_cons_zero, List.set_cons_succ]
    refine takeYH (i := 7) (d := 34) (v := .pointer (some ⟨hb, 0, none⟩)) rfl rfl (by kernel_rfl) (by kernel_rfl) (by kernel_rfl) (fun _ _ _ h => h) (Or.inl ⟨by rfl, fun W hW => ?_⟩) hS3 ?_
    · (go_simp)
    simp only [Act.put, List.setIfInBounds_toArray, List.set_cons_zero, List.set_cons_succ]
    refine takeYH (i := 8) (d := 35) (v := .slice (some ⟨f, 0, none⟩) (n + 80) cf) rfl rfl (by kernel_rfl) (by kernel_rfl) (by kernel_rfl) (fun _ _ _ h => h) (Or.inl ⟨by rfl, fun W hW => ?_⟩) hS3 ?_
    · ((obtain ⟨q0, q1⟩ := HSC.out _ hW; go_simp))
    simp only [Act.put, List.setIfInBounds_toArray, List.set_cons_zero, List.set_cons_succ]
    refine takeYH (i := 9) (d := 36) (v := .int .i64 i) rfl rfl (by kernel_rfl) (by kernel_rfl) (by kernel_rfl) (fun _ _ _ h => h) (Or.inl ⟨by rfl, fun W hW => ?_⟩) hS3 ?_
    · (go_simp)
    simp only [Act.put, List.setIfInBounds_toArray, List.set_cons_zero, List.set_cons_succ]
    refine takeYH (i := 10) (d := 37) (v := .pointer (some ⟨f, i, none⟩)) rfl rfl (by kernel_rfl) (by kernel_rfl) (by kernel_rfl) (fun _ _ _ h => h) (Or.inl ⟨by rfl, fun W hW => ?_⟩) hS3 ?_
    · (go_simp)
    simp only [Act.put, List.setIfInBounds_toArray, List.set_cons_zero, List.set_cons_succ]
    refine wpAnyH_all (rs := [11]) (by kernel_rfl) (by simp) ?_
    intro i' hi'
    obtain rfl : i' = 11 := by simpa using hi'
    unfold wpOp
    go_simp
    first | refine Or.inl ⟨hS3, ?_⟩ | refine ⟨hS3, ?_⟩ | (change wpAnyH _ _ _ _ _ _ _ _ _) | refine Or.inl ?_
    refine takeYH (i := 12) (d := 39) (v := .pointer (some ⟨q, i, none⟩)) rfl rfl (by kernel_rfl) (by kernel_rfl) (by kernel_rfl) (fun _ _ _ h => h) (Or.inl ⟨by rfl, fun W hW => ?_⟩) hS3 ?_
    · (go_simp)
    simp only [Act.put, List.setIfInBounds_toArray, List.set_cons_zero, List.set_cons_succ]
    refine wpAnyH_all (rs := [13]) (by kernel_rfl) (by simp) ?_
    intro i' hi'
    obtain rfl : i' = 13 := by simpa using hi'
    unfold wpOp
    go_simp
    first | refine Or.inl ⟨hS4, ?_⟩ | refine ⟨hS4, ?_⟩ | (change wpAnyH _ _ _ _ _ _ _ _ _) | refine Or.inl ?_
    refine wpAnyH_done (by kernel_rfl) ?_ _
    go_wp2
    go_roundw
    case rel => exact ⟨i + 1, by omega, by go_num, HF, HKF⟩
    case measure => simp [intOf]; omega
  · obtain rfl : i = n := by omega
    have i1 : ¬ (i : Int) < (i : Int) := by omega
    clear c1 HH
    go_wp2
    go_end0
    exact ⟨rfl, HR.out, HK.out⟩
end Go.Proofs.YtjmmdklgkcbihaaDoor
