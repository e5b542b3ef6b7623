import Derived.Test.YtccmhceehciggaaDoorRgd
import Derived.Test.YtccmhceehciggaaDoorNme
import Derived.Test.YtccmhceehciggaaDoorSgo
namespace Go.Proofs.YtccmhceehciggaaDoor
open Go.ChangeShapes Go.WideShapes Go.ChangeAt Go.RowKit

def noName : ByteArray := ⟨#[110, 111, 32, 115, 117, 99, 104, 32, 110, 97, 109, 101]⟩
def noVl : Vl := ⟨⟨#[110, 111, 32, 115, 117, 99, 104, 32, 110, 97, 109, 101]⟩, ⟨#[]⟩⟩
def adG (ad : Nat → Addr) (i : Nat) : Addr := if i = 1 then ad 11 else if i = 2 then ad 2 else if i = 3 then ad 12 else ad 10
theorem gname_no : gname noName.data.toList = false := by decide +kernel
theorem no_such {F : List Fd} (h : gschema F = true) : fi F noVl.n = none := by
  rw [fi_none]
  unfold among
  rw [List.any_eq_false]
  intro f hf e
  have e' := of_decide_eq_true e
  have hg : gfield f = true := by
    rw [gschema, Bool.and_eq_true, Bool.and_eq_true] at h
    exact List.all_eq_true.1 h.1.2 f hf
  rw [gfield, Bool.and_eq_true, e'] at hg
  have := hg.1
  rw [show gname noVl.n.data.toList = false from gname_no] at this
  cases this
theorem no_code (F : List Fd) : gcode F [noVl] ≠ 0 := by
  cases hG : gschema F with
  | false => rw [gc_schema hG]; decide
  | true =>
    rw [gc_list hG (by simp), lcode_one, vcode, no_such hG]
    show (1 : Nat) ≠ 0
    decide
theorem vcode_le (F : List Fd) (x : Vl) : vcode F x ≤ 3 := by
  unfold vcode
  split
  · decide
  · split
    · decide
    · split <;> decide
theorem lcode_le (F : List Fd) : ∀ xs : List Vl, lcode F xs ≤ 3
  | [] => by rw [lcode]; decide
  | x :: r => by
    rw [lcode]
    split
    · exact lcode_le F r
    · exact vcode_le F x
theorem gcode_le (F : List Fd) (xs : List Vl) : gcode F xs ≤ 4 := by
  unfold gcode
  split
  · decide
  · split
    · decide
    · exact Nat.le_succ_of_le (lcode_le F xs)
theorem Errs13.er4 {w : World} {ad : Nat → Addr} {sy sr : Value} (h : Errs13 w ad) (h1 : w.cell? ⟨27, 0, none⟩ = some sy) (h2 : w.cell? ⟨28, 0, none⟩ = some sr) (i1 : ∃ te pe, sy = .iface te pe) (i2 : ∃ te pe, sr = .iface te pe) : Er4 w (adG ad) sy sr :=
  ⟨h.s11.var, h.s2.var, h.s12.var, h.s10.var, h1, h2, i1, i2⟩
theorem num_code {w : World} {ad : Nat → Addr} (h : Errs13 w ad) : ∀ c : Nat, c ≤ 4 → Calls Tryd.prog 8 #[evOf (adG ad) c] w fun e w' => e = .returned (.int .i64 (gnum c)) ∧ w' = w
  | 0, _ => num_nil w
  | 1, _ => num_field h
  | 2, _ => num_limit (ad := ad) h
  | 3, _ => num_value h
  | 4, _ => num_schema h
  | n + 5, q => absurd q (by omega)
set_option maxRecDepth 20000 in
set_option maxHeartbeats 4000000 in
theorem goods_walk (F : List Fd) (a : Option Addr) (c : Nat) (xs : List Vl) (va : Option Addr) (vc : Nat) (ad : Nat → Addr) (sy sr : Value) (w : World) (hF : FsAt w a F) (hO : ∀ f ∈ F, f.Ok) (hFl : F.length ≤ 4398046511104)
    (hV : VsAt w va xs) (hVo : ∀ x ∈ xs, x.Ok) (hVl : xs.length ≤ 4398046511104) (hE : Errs13 w ad) (h4 : Er4 w (adG ad) sy sr) (hW : Words w) :
    Calls Tryd.prog 5 #[.agg #[.slice a F.length c], .slice va xs.length vc] w fun e w' => e = .returned (.bool true) ∧ Kept (fun _ => False) w w' := by
  obtain ⟨B0, hB0⟩ : ∃ B0, B0 = w.alloc (.cells #[.slice a F.length c] 24) := ⟨_, rfl⟩
  have KA : Kept (fun _ => False) w B0 := by rw [hB0]; exact Kept.alloc _ _
  have HB : Hid (B0.cell? ⟨w.heap.size, 0, none⟩ = some (.slice a F.length c)) := hideW (by rw [hB0]; simp)
  have HL := hideW (lives_any (ad 10) B0 (hW.kept KA) (hE.kept KA).s10.var)
  have CG : Hid (∀ W, Kept (fun _ => False) B0 W → Calls Tryd.prog 13 #[.agg #[.slice a F.length c], .slice va xs.length vc] W fun e W' => e = .returned (evOf (adG ad) (gcode F xs)) ∧ Kept (fun _ => False) B0 W') := hideW (fun W q => by
    have q2 := KA.trans q (fun _ f => f.elim)
    exact (good_any F a c xs va vc (adG ad) sy sr W (hF.kept q2) hO hFl (hV.kept q2) hVo hVl (h4.kept q2)).mono (fun e W' h => ⟨h.1, q.trans h.2 (fun _ f => f.elim)⟩))
  have RG : Hid (∀ W, Kept (fun _ => False) B0 W → Calls Tryd.prog 14 #[.agg #[.slice a F.length c], .slice va xs.length vc] W fun e W' => e = .returned (.int .i64 (gnum (gcode F xs))) ∧ Kept (fun _ => False) B0 W') := hideW (fun W q => by
    have q2 := KA.trans q (fun _ f => f.elim)
    exact (rgood_any F a c xs va vc W (hF.kept q2) hO hFl (hV.kept q2) hVo hVl).mono (fun e W' h => ⟨h.1, q.trans h.2 (fun _ f => f.elim)⟩))
  have CN : Hid (∀ W, Kept (fun _ => False) B0 W → Calls Tryd.prog 8 #[evOf (adG ad) (gcode F xs)] W fun e W' => e = .returned (.int .i64 (gnum (gcode F xs))) ∧ Kept (fun _ => False) B0 W') := hideW (fun W q => by
    have q2 := KA.trans q (fun _ f => f.elim)
    refine (num_code (hE.kept q2) _ (gcode_le F xs)).mono ?_
    rintro e W' ⟨rfl, rfl⟩
    exact ⟨rfl, q⟩)
  have CX : Hid (∀ W, Kept (fun _ => False) B0 W → Calls Tryd.prog 13 #[.agg #[.slice a F.length c], .slice (some ⟨W.heap.size, 0, none⟩) 1 1] (W.alloc (.cells #[.string ⟨#[110, 111, 32, 115, 117, 99, 104, 32, 110, 97, 109, 101]⟩, .string ⟨#[]⟩] 41)) fun e W' => e = .returned (.iface 91 (.pointer (some (adG ad (gcode F [noVl]))))) ∧ Kept (fun _ => False) B0 W') := hideW (fun W q => by
    have q1 := q.trans (Kept.alloc W (.cells #[.string ⟨#[110, 111, 32, 115, 117, 99, 104, 32, 110, 97, 109, 101]⟩, .string ⟨#[]⟩] 41)) (fun _ f => f.elim)
    have q2 := KA.trans q1 (fun _ f => f.elim)
    refine (good_any F a c [noVl] _ 1 (adG ad) sy sr _ (hF.kept q2) hO hFl (vs_one W noVl 41) (fun y hy => by rw [List.mem_singleton] at hy; subst hy; exact ⟨by decide, by decide⟩) (by simp) (h4.kept q2)).mono ?_
    rintro e W' ⟨rfl, hk'⟩
    exact ⟨by rw [ev_pos _ (no_code F)], q1.trans hk' (fun _ f => f.elim)⟩)
  obtain ⟨n, hn⟩ : ∃ n, n = gnum (gcode F xs) := ⟨_, rfl⟩
  obtain ⟨A1, hA1⟩ : ∃ A1, A1 = adG ad (gcode F [noVl]) := ⟨_, rfl⟩
  rw [← hn] at CN RG
  rw [← hA1] at CX
  clear hF hO hE hW hFl hV hVo hVl h4 hn hA1
  by_cases hz : gcode F xs = 0
  · rw [hz, ev_zero] at CG CN
    clear hz
    go_enter Tryd.func5, Tryd.ntmps5
    go_wp2_with (first
      | (go_at_call 7; rw [← hB0]; refine HL.out.mono ?_; clear HL; rintro e W1 ⟨rfl, hk1⟩; have hb1 := hk1.cell HB.out (fun f => f))
      | (go_at_call 13; refine (CX.out _ hk1).mono ?_; clear CX; rintro e W2 ⟨rfl, hk2⟩))
    clear hB0
    refine wp_region_held (S := fun W => Kept (fun _ => False) B0 W) (by kernel_rfl) ?_
    change wpAnyH _ _ _ _ _ _ _ _ (World.drew _)
    have hSd : Kept (fun _ => False) B0 W2.drew := hk2.trans (Kept.drew _) (fun _ f => f.elim)
    refine takeZ (i := 0) (d := 16) (v := .agg #[.slice a F.length c]) rfl rfl (by kernel_rfl) (by kernel_rfl) (by kernel_rfl) (fun _ _ _ h => h) (Or.inl ⟨by rfl, fun W hW => ?_⟩) hSd ?_
    · have hcW := hW.cell HB.out (fun f => f)
      go_simp
    try simp only [Act.put, List.setIfInBounds_toArray, List.set_cons_zero, List.set_cons_succ]
    refine takeZ (i := 1) (d := 17) (v := .slice va xs.length vc) rfl rfl (by kernel_rfl) (by kernel_rfl) (by kernel_rfl) (fun _ _ _ h => h) (Or.inl ⟨by rfl, fun W hW => ?_⟩) hSd ?_
    · go_simp
    try simp only [Act.put, List.setIfInBounds_toArray, List.set_cons_zero, List.set_cons_succ]
    refine takeZ (i := 4) (d := 20) (v := .agg #[.slice a F.length c]) rfl rfl (by kernel_rfl) (by kernel_rfl) (by kernel_rfl) (fun _ _ _ h => h) (Or.inl ⟨by rfl, fun W hW => ?_⟩) hSd ?_
    · have hcW := hW.cell HB.out (fun f => f)
      go_simp
    try simp only [Act.put, List.setIfInBounds_toArray, List.set_cons_zero, List.set_cons_succ]
    refine takeZ (i := 5) (d := 21) (v := .slice va xs.length vc) rfl rfl (by kernel_rfl) (by kernel_rfl) (by kernel_rfl) (fun _ _ _ h => h) (Or.inl ⟨by rfl, fun W hW => ?_⟩) hSd ?_
    · go_simp
    try simp only [Act.put, List.setIfInBounds_toArray, List.set_cons_zero, List.set_cons_succ]
    refine wpAnyH_all (rs := [2]) (by kernel_rfl) (by simp) ?_
    intro i hi
    obtain rfl : i = 2 := by simpa using hi
    unfold wpOp
    go_simp
    first | refine (CG.out _ hSd).mono ?_ | refine Or.inl ((CG.out _ hSd).mono ?_)
    rintro e W3 ⟨rfl, hk3⟩
    refine ⟨hk3, ?_⟩
    try simp only [Act.put, List.setIfInBounds_toArray, List.set_cons_zero, List.set_cons_succ]
    refine wpAnyH_all (rs := [3]) (by kernel_rfl) (by simp) ?_
    intro i hi
    obtain rfl : i = 3 := by simpa using hi
    unfold wpOp
    go_simp
    first | refine (CN.out _ hk3).mono ?_ | refine Or.inl ((CN.out _ hk3).mono ?_)
    rintro e W4 ⟨rfl, hk4⟩
    refine ⟨hk4, ?_⟩
    try simp only [Act.put, List.setIfInBounds_toArray, List.set_cons_zero, List.set_cons_succ]
    refine wpAnyH_all (rs := [6]) (by kernel_rfl) (by simp) ?_
    intro i hi
    obtain rfl : i = 6 := by simpa using hi
    unfold wpOp
    go_simp
    first | refine (RG.out _ hk4).mono ?_ | refine Or.inl ((RG.out _ hk4).mono ?_)
    rintro e W5 ⟨rfl, hk5⟩
    refine ⟨hk5, ?_⟩
    try simp only [Act.put, List.setIfInBounds_toArray, List.set_cons_zero, List.set_cons_succ]
    refine takeZ (i := 7) (d := 23) (v := .bool true) rfl rfl (by kernel_rfl) (by kernel_rfl) (by kernel_rfl) (fun _ _ _ h => h) (Or.inl ⟨by rfl, fun W hW => ?_⟩) hk5 ?_
    · go_simp
    try simp only [Act.put, List.setIfInBounds_toArray, List.set_cons_zero, List.set_cons_succ]
    refine takeZ (i := 8) (d := 4) (v := .bool true) rfl rfl (by kernel_rfl) (by kernel_rfl) (by kernel_rfl) (fun _ _ _ h => h) (Or.inl ⟨by rfl, fun W hW => ?_⟩) hk5 ?_
    · go_simp
    try simp only [Act.put, List.setIfInBounds_toArray, List.set_cons_zero, List.set_cons_succ]
    refine wpAnyH_done (by kernel_rfl) ?_ _
    go_wp2
    go_ret
    exact ⟨rfl, KA.trans hk5 (fun _ f => f.elim)⟩
  · rw [ev_pos _ hz] at CG CN
    obtain ⟨A2, hA2⟩ : ∃ A2, A2 = adG ad (gcode F xs) := ⟨_, rfl⟩
    rw [← hA2] at CG CN
    clear hz hA2
    go_enter Tryd.func5, Tryd.ntmps5
    go_wp2_with (first
      | (go_at_call 7; rw [← hB0]; refine HL.out.mono ?_; clear HL; rintro e W1 ⟨rfl, hk1⟩; have hb1 := hk1.cell HB.out (fun f => f))
      | (go_at_call 13; refine (CX.out _ hk1).mono ?_; clear CX; rintro e W2 ⟨rfl, hk2⟩))
    clear hB0
    refine wp_region_held (S := fun W => Kept (fun _ => False) B0 W) (by kernel_rfl) ?_
    change wpAnyH _ _ _ _ _ _ _ _ (World.drew _)
    have hSd : Kept (fun _ => False) B0 W2.drew := hk2.trans (Kept.drew _) (fun _ f => f.elim)
    refine takeZ (i := 0) (d := 16) (v := .agg #[.slice a F.length c]) rfl rfl (by kernel_rfl) (by kernel_rfl) (by kernel_rfl) (fun _ _ _ h => h) (Or.inl ⟨by rfl, fun W hW => ?_⟩) hSd ?_
    · have hcW := hW.cell HB.out (fun f => f)
      go_simp
    try simp only [Act.put, List.setIfInBounds_toArray, List.set_cons_zero, List.set_cons_succ]
    refine takeZ (i := 1) (d := 17) (v := .slice va xs.length vc) rfl rfl (by kernel_rfl) (by kernel_rfl) (by kernel_rfl) (fun _ _ _ h => h) (Or.inl ⟨by rfl, fun W hW => ?_⟩) hSd ?_
    · go_simp
    try simp only [Act.put, List.setIfInBounds_toArray, List.set_cons_zero, List.set_cons_succ]
    refine takeZ (i := 4) (d := 20) (v := .agg #[.slice a F.length c]) rfl rfl (by kernel_rfl) (by kernel_rfl) (by kernel_rfl) (fun _ _ _ h => h) (Or.inl ⟨by rfl, fun W hW => ?_⟩) hSd ?_
    · have hcW := hW.cell HB.out (fun f => f)
      go_simp
    try simp only [Act.put, List.setIfInBounds_toArray, List.set_cons_zero, List.set_cons_succ]
    refine takeZ (i := 5) (d := 21) (v := .slice va xs.length vc) rfl rfl (by kernel_rfl) (by kernel_rfl) (by kernel_rfl) (fun _ _ _ h => h) (Or.inl ⟨by rfl, fun W hW => ?_⟩) hSd ?_
    · go_simp
    try simp only [Act.put, List.setIfInBounds_toArray, List.set_cons_zero, List.set_cons_succ]
    refine wpAnyH_all (rs := [2]) (by kernel_rfl) (by simp) ?_
    intro i hi
    obtain rfl : i = 2 := by simpa using hi
    unfold wpOp
    go_simp
    first | refine (CG.out _ hSd).mono ?_ | refine Or.inl ((CG.out _ hSd).mono ?_)
    rintro e W3 ⟨rfl, hk3⟩
    refine ⟨hk3, ?_⟩
    try simp only [Act.put, List.setIfInBounds_toArray, List.set_cons_zero, List.set_cons_succ]
    refine wpAnyH_all (rs := [3]) (by kernel_rfl) (by simp) ?_
    intro i hi
    obtain rfl : i = 3 := by simpa using hi
    unfold wpOp
    go_simp
    first | refine (CN.out _ hk3).mono ?_ | refine Or.inl ((CN.out _ hk3).mono ?_)
    rintro e W4 ⟨rfl, hk4⟩
    refine ⟨hk4, ?_⟩
    try simp only [Act.put, List.setIfInBounds_toArray, List.set_cons_zero, List.set_cons_succ]
    refine wpAnyH_all (rs := [6]) (by kernel_rfl) (by simp) ?_
    intro i hi
    obtain rfl : i = 6 := by simpa using hi
    unfold wpOp
    go_simp
    first | refine (RG.out _ hk4).mono ?_ | refine Or.inl ((RG.out _ hk4).mono ?_)
    rintro e W5 ⟨rfl, hk5⟩
    refine ⟨hk5, ?_⟩
    try simp only [Act.put, List.setIfInBounds_toArray, List.set_cons_zero, List.set_cons_succ]
    refine takeZ (i := 7) (d := 23) (v := .bool true) rfl rfl (by kernel_rfl) (by kernel_rfl) (by kernel_rfl) (fun _ _ _ h => h) (Or.inl ⟨by rfl, fun W hW => ?_⟩) hk5 ?_
    · go_simp
    try simp only [Act.put, List.setIfInBounds_toArray, List.set_cons_zero, List.set_cons_succ]
    refine takeZ (i := 8) (d := 4) (v := .bool true) rfl rfl (by kernel_rfl) (by kernel_rfl) (by kernel_rfl) (fun _ _ _ h => h) (Or.inl ⟨by rfl, fun W hW => ?_⟩) hk5 ?_
    · go_simp
    try simp only [Act.put, List.setIfInBounds_toArray, List.set_cons_zero, List.set_cons_succ]
    refine wpAnyH_done (by kernel_rfl) ?_ _
    go_wp2
    go_ret
    exact ⟨rfl, KA.trans hk5 (fun _ f => f.elim)⟩
end Go.Proofs.YtccmhceehciggaaDoor
