import Derived.Test.YtccmhceehciggaaDoorRck
import Derived.Test.YtccmhceehciggaaDoorNme
namespace Go.Proofs.YtccmhceehciggaaDoor
open Go.ChangeShapes Go.WideShapes Go.ChangeAt Go.RowKit

set_option maxRecDepth 20000 in
set_option maxHeartbeats 4000000 in
theorem checks_walk (F : List Fd) (a : Option Addr) (c : Nat) (ad : Nat → Addr) (w : World) (hF : FsAt w a F) (hO : ∀ f ∈ F, f.Ok) (hFl : F.length ≤ 4398046511104) (hE : Errs13 w ad) (hW : Words w) :
    Calls Tryd.prog 3 #[.agg #[.slice a F.length c]] w fun e w' => e = .returned (.bool true) ∧ Kept (fun _ => False) w w' := by
  obtain ⟨B0, hB0⟩ : ∃ B0, B0 = w.alloc (.cells #[.slice a F.length c] 24) := ⟨_, rfl⟩
  have KA : Kept (fun _ => False) w B0 := by rw [hB0]; exact Kept.alloc _ _
  have HB : Hid (B0.cell? ⟨w.heap.size, 0, none⟩ = some (.slice a F.length c)) := hideW (by rw [hB0]; simp)
  have HL := hideW (lives_any (ad 10) B0 (hW.kept KA) (hE.kept KA).s10.var)
  cases hG : gschema F with
  | false =>
    have CK : Hid (∀ W, Kept (fun _ => False) B0 W → Calls Tryd.prog 9 #[.agg #[.slice a F.length c]] W fun e W' => e = .returned (.iface 91 (.pointer (some (ad 10)))) ∧ Kept (fun _ => False) B0 W') := hideW (fun W q => by
      have q2 := KA.trans q (fun _ f => f.elim)
      refine (check_any F a c _ _ W (hF.kept q2) hO hFl (hE.kept q2).s10.var).mono ?_
      rintro e W' ⟨rfl, hk'⟩
      exact ⟨ret_v (chk_bad _ hG).symm, q.trans hk' (fun _ f => f.elim)⟩)
    have RC : Hid (∀ W, Kept (fun _ => False) B0 W → Calls Tryd.prog 10 #[.agg #[.slice a F.length c]] W fun e W' => e = .returned (.int .i64 11) ∧ Kept (fun _ => False) B0 W') := hideW (fun W q => by
      have q2 := KA.trans q (fun _ f => f.elim)
      refine (rcheck_any F a c W (hF.kept q2) hO).mono ?_
      rintro e W' ⟨rfl, hk'⟩
      exact ⟨ret_n (chkN_bad hG).symm, q.trans hk' (fun _ f => f.elim)⟩)
    have CN : Hid (∀ W, Kept (fun _ => False) B0 W → Calls Tryd.prog 8 #[.iface 91 (.pointer (some (ad 10)))] W fun e W' => e = .returned (.int .i64 11) ∧ Kept (fun _ => False) B0 W') := hideW (fun W q => by
      have q2 := KA.trans q (fun _ f => f.elim)
      refine (num_schema (hE.kept q2)).mono ?_
      rintro e W' ⟨rfl, rfl⟩
      exact ⟨rfl, q⟩)
    clear hF hO hE hW hG hFl
    go_enter Tryd.func3, Tryd.ntmps3
    go_wp2_with (go_at_call 7; rw [← hB0]; refine HL.out.mono ?_; clear HL; rintro e W1 ⟨rfl, hk1⟩)
    clear hB0
    refine wp_region_held (S := fun W => Kept (fun _ => False) B0 W) (by kernel_rfl) ?_
    change wpAnyH _ _ _ _ _ _ _ _ (World.drew _)
    have hSd : Kept (fun _ => False) B0 W1.drew := hk1.trans (Kept.drew _) (fun _ f => f.elim)
    refine takeZ (i := 0) (d := 5) (v := .bool true) rfl rfl (by kernel_rfl) (by kernel_rfl) (by kernel_rfl) (fun _ _ _ h => h) (Or.inl ⟨by rfl, fun W hW => ?_⟩) hSd ?_
    · go_simp
    try simp only [Act.put, List.setIfInBounds_toArray, List.set_cons_zero, List.set_cons_succ]
    refine takeZ (i := 1) (d := 6) (v := .bool true) rfl rfl (by kernel_rfl) (by kernel_rfl) (by kernel_rfl) (fun _ _ _ h => h) (Or.inl ⟨by rfl, fun W hW => ?_⟩) hSd ?_
    · go_simp
    try simp only [Act.put, List.setIfInBounds_toArray, List.set_cons_zero, List.set_cons_succ]
    refine takeZ (i := 2) (d := 7) (v := .agg #[.slice a F.length c]) rfl rfl (by kernel_rfl) (by kernel_rfl) (by kernel_rfl) (fun _ _ _ h => h) (Or.inl ⟨by rfl, fun W hW => ?_⟩) hSd ?_
    · have hcW := hW.cell HB.out (fun f => f)
      go_simp
    try simp only [Act.put, List.setIfInBounds_toArray, List.set_cons_zero, List.set_cons_succ]
    refine takeZ (i := 5) (d := 10) (v := .agg #[.slice a F.length c]) rfl rfl (by kernel_rfl) (by kernel_rfl) (by kernel_rfl) (fun _ _ _ h => h) (Or.inl ⟨by rfl, fun W hW => ?_⟩) hSd ?_
    · have hcW := hW.cell HB.out (fun f => f)
      go_simp
    try simp only [Act.put, List.setIfInBounds_toArray, List.set_cons_zero, List.set_cons_succ]
    refine wpAnyH_all (rs := [3]) (by kernel_rfl) (by simp) ?_
    intro i hi
    obtain rfl : i = 3 := by simpa using hi
    unfold wpOp
    go_simp
    first | refine (CK.out _ hSd).mono ?_ | refine Or.inl ((CK.out _ hSd).mono ?_)
    rintro e W3 ⟨rfl, hk3⟩
    refine ⟨hk3, ?_⟩
    try simp only [Act.put, List.setIfInBounds_toArray, List.set_cons_zero, List.set_cons_succ]
    refine wpAnyH_all (rs := [4]) (by kernel_rfl) (by simp) ?_
    intro i hi
    obtain rfl : i = 4 := by simpa using hi
    unfold wpOp
    go_simp
    first | refine (CN.out _ hk3).mono ?_ | refine Or.inl ((CN.out _ hk3).mono ?_)
    rintro e W4 ⟨rfl, hk4⟩
    refine ⟨hk4, ?_⟩
    try simp only [Act.put, List.setIfInBounds_toArray, List.set_cons_zero, List.set_cons_succ]
    refine wpAnyH_all (rs := [6]) (by kernel_rfl) (by simp) ?_
    intro i hi
    obtain rfl : i = 6 := by simpa using hi
    unfold wpOp
    go_simp
    first | refine (RC.out _ hk4).mono ?_ | refine Or.inl ((RC.out _ hk4).mono ?_)
    rintro e W5 ⟨rfl, hk5⟩
    refine ⟨hk5, ?_⟩
    try simp only [Act.put, List.setIfInBounds_toArray, List.set_cons_zero, List.set_cons_succ]
    refine takeZ (i := 7) (d := 12) (v := .bool true) rfl rfl (by kernel_rfl) (by kernel_rfl) (by kernel_rfl) (fun _ _ _ h => h) (Or.inl ⟨by rfl, fun W hW => ?_⟩) hk5 ?_
    · go_simp
    try simp only [Act.put, List.setIfInBounds_toArray, List.set_cons_zero, List.set_cons_succ]
    refine takeZ (i := 8) (d := 13) (v := .bool true) rfl rfl (by kernel_rfl) (by kernel_rfl) (by kernel_rfl) (fun _ _ _ h => h) (Or.inl ⟨by rfl, fun W hW => ?_⟩) hk5 ?_
    · go_simp
    try simp only [Act.put, List.setIfInBounds_toArray, List.set_cons_zero, List.set_cons_succ]
    refine takeZ (i := 9) (d := 2) (v := .bool true) rfl rfl (by kernel_rfl) (by kernel_rfl) (by kernel_rfl) (fun _ _ _ h => h) (Or.inl ⟨by rfl, fun W hW => ?_⟩) hk5 ?_
    · go_simp
    try simp only [Act.put, List.setIfInBounds_toArray, List.set_cons_zero, List.set_cons_succ]
    refine wpAnyH_done (by kernel_rfl) ?_ _
    go_wp2
    go_ret
    exact ⟨rfl, KA.trans hk5 (fun _ f => f.elim)⟩
  | true =>
    have CK : Hid (∀ W, Kept (fun _ => False) B0 W → Calls Tryd.prog 9 #[.agg #[.slice a F.length c]] W fun e W' => e = .returned (.nilIface) ∧ Kept (fun _ => False) B0 W') := hideW (fun W q => by
      have q2 := KA.trans q (fun _ f => f.elim)
      refine (check_any F a c _ _ W (hF.kept q2) hO hFl (hE.kept q2).s10.var).mono ?_
      rintro e W' ⟨rfl, hk'⟩
      exact ⟨ret_v (chk_good _ hG).symm, q.trans hk' (fun _ f => f.elim)⟩)
    have RC : Hid (∀ W, Kept (fun _ => False) B0 W → Calls Tryd.prog 10 #[.agg #[.slice a F.length c]] W fun e W' => e = .returned (.int .i64 0) ∧ Kept (fun _ => False) B0 W') := hideW (fun W q => by
      have q2 := KA.trans q (fun _ f => f.elim)
      refine (rcheck_any F a c W (hF.kept q2) hO).mono ?_
      rintro e W' ⟨rfl, hk'⟩
      exact ⟨ret_n (chkN_good hG).symm, q.trans hk' (fun _ f => f.elim)⟩)
    have CN : Hid (∀ W, Kept (fun _ => False) B0 W → Calls Tryd.prog 8 #[.nilIface] W fun e W' => e = .returned (.int .i64 0) ∧ Kept (fun _ => False) B0 W') := hideW (fun W q => by
      have q2 := KA.trans q (fun _ f => f.elim)
      refine (num_nil W).mono ?_
      rintro e W' ⟨rfl, rfl⟩
      exact ⟨rfl, q⟩)
    clear hF hO hE hW hG hFl
    go_enter Tryd.func3, Tryd.ntmps3
    go_wp2_with (go_at_call 7; rw [← hB0]; refine HL.out.mono ?_; clear HL; rintro e W1 ⟨rfl, hk1⟩)
    clear hB0
    refine wp_region_held (S := fun W => Kept (fun _ => False) B0 W) (by kernel_rfl) ?_
    change wpAnyH _ _ _ _ _ _ _ _ (World.drew _)
    have hSd : Kept (fun _ => False) B0 W1.drew := hk1.trans (Kept.drew _) (fun _ f => f.elim)
    refine takeZ (i := 0) (d := 5) (v := .bool true) rfl rfl (by kernel_rfl) (by kernel_rfl) (by kernel_rfl) (fun _ _ _ h => h) (Or.inl ⟨by rfl, fun W hW => ?_⟩) hSd ?_
    · go_simp
    try simp only [Act.put, List.setIfInBounds_toArray, List.set_cons_zero, List.set_cons_succ]
    refine takeZ (i := 1) (d := 6) (v := .bool true) rfl rfl (by kernel_rfl) (by kernel_rfl) (by kernel_rfl) (fun _ _ _ h => h) (Or.inl ⟨by rfl, fun W hW => ?_⟩) hSd ?_
    · go_simp
    try simp only [Act.put, List.setIfInBounds_toArray, List.set_cons_zero, List.set_cons_succ]
    refine takeZ (i := 2) (d := 7) (v := .agg #[.slice a F.length c]) rfl rfl (by kernel_rfl) (by kernel_rfl) (by kernel_rfl) (fun _ _ _ h => h) (Or.inl ⟨by rfl, fun W hW => ?_⟩) hSd ?_
    · have hcW := hW.cell HB.out (fun f => f)
      go_simp
    try simp only [Act.put, List.setIfInBounds_toArray, List.set_cons_zero, List.set_cons_succ]
    refine takeZ (i := 5) (d := 10) (v := .agg #[.slice a F.length c]) rfl rfl (by kernel_rfl) (by kernel_rfl) (by kernel_rfl) (fun _ _ _ h => h) (Or.inl ⟨by rfl, fun W hW => ?_⟩) hSd ?_
    · have hcW := hW.cell HB.out (fun f => f)
      go_simp
    try simp only [Act.put, List.setIfInBounds_toArray, List.set_cons_zero, List.set_cons_succ]
    refine wpAnyH_all (rs := [3]) (by kernel_rfl) (by simp) ?_
    intro i hi
    obtain rfl : i = 3 := by simpa using hi
    unfold wpOp
    go_simp
    first | refine (CK.out _ hSd).mono ?_ | refine Or.inl ((CK.out _ hSd).mono ?_)
    rintro e W3 ⟨rfl, hk3⟩
    refine ⟨hk3, ?_⟩
    try simp only [Act.put, List.setIfInBounds_toArray, List.set_cons_zero, List.set_cons_succ]
    refine wpAnyH_all (rs := [4]) (by kernel_rfl) (by simp) ?_
    intro i hi
    obtain rfl : i = 4 := by simpa using hi
    unfold wpOp
    go_simp
    first | refine (CN.out _ hk3).mono ?_ | refine Or.inl ((CN.out _ hk3).mono ?_)
    rintro e W4 ⟨rfl, hk4⟩
    refine ⟨hk4, ?_⟩
    try simp only [Act.put, List.setIfInBounds_toArray, List.set_cons_zero, List.set_cons_succ]
    refine wpAnyH_all (rs := [6]) (by kernel_rfl) (by simp) ?_
    intro i hi
    obtain rfl : i = 6 := by simpa using hi
    unfold wpOp
    go_simp
    first | refine (RC.out _ hk4).mono ?_ | refine Or.inl ((RC.out _ hk4).mono ?_)
    rintro e W5 ⟨rfl, hk5⟩
    refine ⟨hk5, ?_⟩
    try simp only [Act.put, List.setIfInBounds_toArray, List.set_cons_zero, List.set_cons_succ]
    refine takeZ (i := 7) (d := 12) (v := .bool true) rfl rfl (by kernel_rfl) (by kernel_rfl) (by kernel_rfl) (fun _ _ _ h => h) (Or.inl ⟨by rfl, fun W hW => ?_⟩) hk5 ?_
    · go_simp
    try simp only [Act.put, List.setIfInBounds_toArray, List.set_cons_zero, List.set_cons_succ]
    refine takeZ (i := 8) (d := 13) (v := .bool true) rfl rfl (by kernel_rfl) (by kernel_rfl) (by kernel_rfl) (fun _ _ _ h => h) (Or.inl ⟨by rfl, fun W hW => ?_⟩) hk5 ?_
    · go_simp
    try simp only [Act.put, List.setIfInBounds_toArray, List.set_cons_zero, List.set_cons_succ]
    refine takeZ (i := 9) (d := 2) (v := .bool true) rfl rfl (by kernel_rfl) (by kernel_rfl) (by kernel_rfl) (fun _ _ _ h => h) (Or.inl ⟨by rfl, fun W hW => ?_⟩) hk5 ?_
    · go_simp
    try simp only [Act.put, List.setIfInBounds_toArray, List.set_cons_zero, List.set_cons_succ]
    refine wpAnyH_done (by kernel_rfl) ?_ _
    go_wp2
    go_ret
    exact ⟨rfl, KA.trans hk5 (fun _ f => f.elim)⟩
end Go.Proofs.YtccmhceehciggaaDoor
