import Derived.Test.YtbhoplmbiomogaaDoorPrs2
import Derived.Test.YtbhoplmbiomogaaDoorAnyz
import Derived.LaidEql
namespace Go.Proofs.YtbhoplmbiomogaaDoor
open Go.ChangeShapes Go.WideShapes Go.ChangeAt Go.RowKit

def livesT : ByteArray := ⟨#[97, 58, 116, 101, 120, 116, 44, 102, 111, 108, 100, 59, 110, 58, 110, 117, 109, 98, 101, 114]⟩
def livesF : List Fd := [⟨⟨#[97]⟩, 1, true, false, false⟩, ⟨⟨#[110]⟩, 3, false, false, false⟩]
theorem lives_rout : rout 16 livesT.data.toList = some livesF := by
  have h1 : rin 1 [44, 102, 111, 108, 100, 59, 110, 58, 110, 117, 109, 98, 101, 114] = some (5, some [110, 58, 110, 117, 109, 98, 101, 114]) := by
    rw [rin_go (by decide) (by decide +kernel), show rmN [44, 102, 111, 108, 100, 59, 110, 58, 110, 117, 109, 98, 101, 114] 1 = 4 by decide +kernel]
    exact rin_end (by decide)
  have h2 : rout 15 [110, 58, 110, 117, 109, 98, 101, 114] = some [⟨⟨#[110]⟩, 3, false, false, false⟩] := by
    have := rout_last (n := 14) (i := 1) (b := 3) (l := [110, 58, 110, 117, 109, 98, 101, 114]) (by decide +kernel) (by decide +kernel) (by rw [show rkN (List.drop (1 + 1) [110, 58, 110, 117, 109, 98, 101, 114]) = 3 by decide +kernel, show rkR (List.drop (1 + 1) [110, 58, 110, 117, 109, 98, 101, 114]) = [] by decide +kernel]; exact rin_nil 3)
    exact this
  have h3 := rout_more (n := 15) (i := 1) (b := 5) (l := livesT.data.toList) (rest := [110, 58, 110, 117, 109, 98, 101, 114]) (by decide +kernel) (by decide +kernel) (by
    rw [show rkN (List.drop (1 + 1) livesT.data.toList) = 1 by decide +kernel, show rkR (List.drop (1 + 1) livesT.data.toList) = [44, 102, 111, 108, 100, 59, 110, 58, 110, 117, 109, 98, 101, 114] by decide +kernel]
    exact h1)
  rw [h3, h2]
  rfl
theorem lives_ok : ∀ f ∈ livesF, f.Ok := by
  intro f hf
  simp only [livesF, List.mem_cons, List.not_mem_nil, or_false] at hf
  rcases hf with rfl | rfl <;> exact ⟨by decide, by decide, by decide⟩
theorem lives_good : gschema livesF = true := by decide +kernel
theorem errEq (W : World) (a : Addr) : (binOp .eql 28 (.iface 125 (.pointer (some a))) (.iface 125 (.pointer (some a)))).run Tryd.prog W = .ok (.bool true) W := by
  obtain ⟨i, hi, hci⟩ := Option.map_eq_some_iff.1 (show (Tryd.prog.info? 125).map (·.comparable) = some true by kernel_rfl)
  obtain ⟨j, hj, _⟩ := Option.map_eq_some_iff.1 (show (Tryd.prog.info? 139).map (·.comparable) = some true by kernel_rfl)
  exact run_eql_iface_ptr_same W a Tryd.underlying28 Tryd.underlying125 hi hci hj
set_option maxRecDepth 20000 in
set_option maxHeartbeats 2000000 in
theorem lives_any (ad : Addr) (w : World) (hW : Words w) (hE : w.cell? ⟨0, 0, none⟩ = some (.iface 125 (.pointer (some ad)))) :
    Calls Tryd.prog 5 #[] w fun e w' => e = .returned (.bool true) ∧ Kept (fun _ => False) w w' := by
  have HP := hideW (parse_some livesT livesF _ _ w (by decide) hW hE lives_rout)
  have EQ : Hid (∀ W, (binOp .eql 28 (.iface 125 (.pointer (some ad))) (.iface 125 (.pointer (some ad)))).run Tryd.prog W = .ok (.bool true) W) := hideW (fun W => errEq W ad)
  clear hW
  go_enter Tryd.func5, Tryd.ntmps5
  go_wp2_with (go_at_call 14; refine HP.out.mono ?_; clear HP; rintro e W1 (⟨hg, -⟩ | ⟨-, v, rfl, hO⟩); (exfalso; rw [lives_good] at hg; cases hg); obtain ⟨a, c, rfl⟩ := hO.shape; obtain ⟨b, off, rfl, hc⟩ := fs_of_own hO.own (by decide); obtain ⟨x0, x1, x2, x3, x4⟩ := hc 0 (by decide); obtain ⟨y0, y1, y2, y3, y4⟩ := hc 1 (by decide); have hb1 := World.block_lt_of_cell? W1 _ x0; have HO1 := hideW hO; have HC1 := hideW hc; simp only [livesF, List.getElem_cons_zero, List.getElem_cons_succ, Nat.zero_mul, Nat.add_zero, Nat.one_mul] at x0 x1 x2 x3 x4 y0 y1 y2 y3 y4; clear hO hc)
  obtain ⟨W2, hW2⟩ : ∃ W2, W1.alloc (.cells #[.slice (some ⟨b, off, none⟩) livesF.length c] 24) = W2 := ⟨_, rfl⟩
  have HK2 : Hid (Kept (fun _ => False) w W2) := hideW (by rw [← hW2]; exact HO1.out.kept.trans (Kept.alloc _ _) (fun _ f => f.elim))
  have hK12 : Kept (fun _ => False) W1 W2 := by rw [← hW2]; exact Kept.alloc _ _
  have hBx : W2.cell? ⟨W1.heap.size, 0, none⟩ = some (.slice (some ⟨b, off, none⟩) livesF.length c) := by rw [← hW2]; simp
  have hE2 := HK2.out.cell hE (fun f => f)
  have HF2 := hideW ((fs_of_own HO1.out.own).kept hK12)
  have C1 : Hid (∀ W, Kept (fun _ => False) W2 W → Calls Tryd.prog 12 #[.agg #[.slice (some ⟨b, off, none⟩) livesF.length c]] W fun e W' => e = .returned .nilIface ∧ Kept (fun _ => False) W2 W') := hideW (fun W hk => by
    refine (check_any livesF (some ⟨b, off, none⟩) c _ _ W (HF2.out.kept hk) lives_ok (by decide) (hk.cell hE2 (fun f => f))).mono ?_
    rintro e W' ⟨rfl, hk'⟩
    exact ⟨ret_v (chk_good _ lives_good).symm, hk.trans hk' (fun _ f => f.elim)⟩)
  have C2 : Hid (∀ W, Kept (fun _ => False) W2 W → Calls Tryd.prog 12 #[.agg #[.slice none 0 0]] W fun e W' => e = .returned (.iface 125 (.pointer (some ad))) ∧ Kept (fun _ => False) W2 W') := hideW (fun W hk => by
    refine (check_any [] none 0 _ _ W (fun h => absurd rfl h) (fun _ h => by cases h) (by decide) (hk.cell hE2 (fun f => f))).mono ?_
    rintro e W' ⟨rfl, hk'⟩
    exact ⟨ret_v (chk_bad _ (by decide)).symm, hk.trans hk' (fun _ f => f.elim)⟩)
  rw [hW2]
  clear hW2 x0 x1 x2 x3 x4 y0 y1 y2 y3 y4
  refine wp_region_held (S := fun W => Kept (fun _ => False) W2 W) (by kernel_rfl) ?_
  change wpAnyH _ _ _ _ _ _ _ _ (World.drew _)
  have hSd : Kept (fun _ => False) W2 W2.drew := Kept.drew _
  refine takeZ (i := 0) (d := 39) (v := .agg #[.slice (some ⟨b, off, none⟩) livesF.length c]) rfl rfl (by kernel_rfl) (by kernel_rfl) (by kernel_rfl) (fun _ _ _ h => h) (Or.inl ⟨by rfl, fun W hW => ?_⟩) hSd ?_
  · have hcW := hW.cell hBx (fun f => f)
    go_simp
  try simp only [Act.put, List.setIfInBounds_toArray, List.set_cons_zero, List.set_cons_succ]
  refine wpAnyH_all (rs := [1]) (by kernel_rfl) (by simp) ?_
  intro i hi
  obtain rfl : i = 1 := by simpa using hi
  unfold wpOp
  go_simp
  first | refine (C1.out _ hSd).mono ?_ | refine Or.inl ((C1.out _ hSd).mono ?_)
  rintro e W3 ⟨rfl, hk3⟩
  refine ⟨hk3, ?_⟩
  try simp only [Act.put, List.setIfInBounds_toArray, List.set_cons_zero, List.set_cons_succ]
  refine takeZ (i := 2) (d := 41) (v := .bool true) rfl rfl (by kernel_rfl) (by kernel_rfl) (by kernel_rfl) (fun _ _ _ h => h) (Or.inl ⟨by rfl, fun W hW => ?_⟩) hk3 ?_
  · go_simp
  try simp only [Act.put, List.setIfInBounds_toArray, List.set_cons_zero, List.set_cons_succ]
  refine takeZ (i := 3) (d := 42) (v := .bool true) rfl rfl (by kernel_rfl) (by kernel_rfl) (by kernel_rfl) (fun _ _ _ h => h) (Or.inl ⟨by rfl, fun W hW => ?_⟩) hk3 ?_
  · go_simp
  try simp only [Act.put, List.setIfInBounds_toArray, List.set_cons_zero, List.set_cons_succ]
  refine takeZ (i := 4) (d := 43) (v := .agg #[.slice none 0 0]) rfl rfl (by kernel_rfl) (by kernel_rfl) (by kernel_rfl) (fun _ _ _ h => h) (Or.inl ⟨by rfl, fun W hW => ?_⟩) hk3 ?_
  · go_simp
  try simp only [Act.put, List.setIfInBounds_toArray, List.set_cons_zero, List.set_cons_succ]
  refine takeZ (i := 6) (d := 45) (v := (.iface 125 (.pointer (some ad)))) rfl rfl (by kernel_rfl) (by kernel_rfl) (by kernel_rfl) (fun _ _ _ h => h) (Or.inl ⟨by rfl, fun W hW => ?_⟩) hk3 ?_
  · have hcW := hW.cell hE2 (fun f => f)
    go_simp
  try simp only [Act.put, List.setIfInBounds_toArray, List.set_cons_zero, List.set_cons_succ]
  refine wpAnyH_all (rs := [5]) (by kernel_rfl) (by simp) ?_
  intro i hi
  obtain rfl : i = 5 := by simpa using hi
  unfold wpOp
  go_simp
  first | refine (C2.out _ hk3).mono ?_ | refine Or.inl ((C2.out _ hk3).mono ?_)
  rintro e W4 ⟨rfl, hk4⟩
  refine ⟨hk4, ?_⟩
  try simp only [Act.put, List.setIfInBounds_toArray, List.set_cons_zero, List.set_cons_succ]
  refine takeZ (i := 7) (d := 46) (v := .bool true) rfl rfl (by kernel_rfl) (by kernel_rfl) (by kernel_rfl) (fun _ _ _ h => h) (Or.inl ⟨by rfl, fun W hW => ?_⟩) hk4 ?_
  · have hq := EQ.out W
    go_simp
  try simp only [Act.put, List.setIfInBounds_toArray, List.set_cons_zero, List.set_cons_succ]
  refine takeZ (i := 8) (d := 47) (v := .bool true) rfl rfl (by kernel_rfl) (by kernel_rfl) (by kernel_rfl) (fun _ _ _ h => h) (Or.inl ⟨by rfl, fun W hW => ?_⟩) hk4 ?_
  · go_simp
  try simp only [Act.put, List.setIfInBounds_toArray, List.set_cons_zero, List.set_cons_succ]
  refine takeZ (i := 9) (d := 0) (v := .bool true) rfl rfl (by kernel_rfl) (by kernel_rfl) (by kernel_rfl) (fun _ _ _ h => h) (Or.inl ⟨by rfl, fun W hW => ?_⟩) hk4 ?_
  · go_simp
  try simp only [Act.put, List.setIfInBounds_toArray, List.set_cons_zero]
  refine wpAnyH_done (by kernel_rfl) ?_ _
  go_wp2
  go_ret
  exact ⟨rfl, HK2.out.trans hk4 (fun _ f => f.elim)⟩
end Go.Proofs.YtbhoplmbiomogaaDoor
