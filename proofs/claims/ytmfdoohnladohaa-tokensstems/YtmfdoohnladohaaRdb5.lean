import Derived.Test.YtmfdoohnladohaaRms
namespace Go.Proofs.Ytmfdoohnladohaa
open Go.ChangeShapes Go.WideShapes Go.ChangeAt Go.RowKit

set_option maxRecDepth 20000 in
set_option maxHeartbeats 4000000 in
theorem rdouble_any (l : List UInt8) (w : World) (hl : l.length ≤ 140737488355328) :
    Calls Try.prog 50 #[.string (bq l)] w fun e w' => e = .returned (.bool (dbl l)) ∧ Kept (fun _ => False) w w' := by
  have HV := fun w => hideV (rform_any l w hl)
  obtain ⟨s, hs⟩ : ∃ s, s = bq l := ⟨_, rfl⟩
  have hz : s.size = l.length := by rw [hs]; exact bq_size l
  have hz' : (s.size : Int) = (l.length : Int) := by rw [hz]
  have HX : Hid (∀ k (h : k < l.length) (h2 : k < s.size), s[k] = l[k]) := hideV (fun k h h2 => by subst hs; rfl)
  rw [← hs] at HV ⊢
  clear hs
  by_cases h2 : 2 ≤ l.length
  · obtain ⟨m, hm⟩ : ∃ m, l.length = m + 2 := ⟨l.length - 2, by omega⟩
    have hD : dbl l = ((l.getD (m + 1) 0 == l.getD m 0) && !vat l (m + 1)) := by
      unfold dbl
      rw [decide_eq_true h2, Bool.true_and, hm, show m + 2 - 1 = m + 1 by omega, show m + 2 - 2 = m by omega]
    have b1 : m + 1 < s.size := by omega
    have b2 : m < s.size := by omega
    have c1 : s[m + 1].toNat = (l.getD (m + 1) 0).toNat := by rw [HX.out (m + 1) (by omega) b1, getD_at l (m + 1) (by omega)]
    have c2 : s[m].toNat = (l.getD m 0).toNat := by rw [HX.out m (by omega) b2, getD_at l m (by omega)]
    have hfz : (bq (fm l)).size = l.length := by rw [bq_size, fm_len]
    have hfz' : ((bq (fm l)).size : Int) = (l.length : Int) := by rw [hfz]
    have b3 : m + 1 < (bq (fm l)).size := by omega
    have c3 : (bq (fm l))[m + 1].toNat = (vc (vat l (m + 1))).toNat := by
      rw [fm_at l (m + 1) (by rw [vwl_len]; omega) b3]
      unfold vat
      rw [List.getD_eq_getElem?_getD, List.getElem?_eq_getElem (by rw [vwl_len]; omega), Option.getD_some]
    have HB := beq_u8 (l.getD (m + 1) 0) (l.getD m 0)
    generalize dbl l = D at hD ⊢
    generalize l.getD (m + 1) 0 = a at c1 hD HB
    generalize l.getD m 0 = b at c2 hD HB
    generalize vat l (m + 1) = v at c3 hD
    generalize bq (fm l) = f at *
    have l1 : ((m : Int) + 2) - 1 = (m : Int) + 1 := by omega
    have l2 : (m : Int) + 2 - 2 = (m : Int) := by omega
    have l3 : (1 : Int) < (m : Int) + 2 := by omega
    have e2 : (l.length : Int) = (m : Int) + 2 := by omega
    have HE := hideV hm
    have l4 : IntKind.i64.wrap ((m : Int) + 1) = (m : Int) + 1 := by rw [IntKind.wrap_i64]; omega
    have l6 : IntKind.i64.wrap (m : Int) = (m : Int) := by rw [IntKind.wrap_i64]; omega
    have hvc : (((vc v).toNat : Int) == 99) = !v := by cases v <;> rfl
    clear HX hm h2
    cases hab : (a == b) with
    | false =>
      rw [hab] at HB hD
      go_enter Try.func50, Try.ntmps50
      go_wp2
      subst hD
      go_region
      all_goals go_wp2
      all_goals go_ret
      all_goals exact ⟨rfl, Kept.drew _⟩
    | true =>
      rw [hab] at HB hD
      rw [Bool.true_and] at hD
      subst hD
      go_enter Try.func50, Try.ntmps50
      go_wp2
      refine wp_region_held (S := AnyZ) (by kernel_rfl) ?_
      change wpAnyH _ _ _ _ _ _ _ _ (World.drew _)
      refine takeZ (i := 0) (d := 6) (v := .int .i64 ((m : Int) + 2)) rfl rfl (by kernel_rfl) (by kernel_rfl) (by kernel_rfl) (fun _ _ _ h => h) (Or.inl ⟨by rfl, fun W _ => ?_⟩) (anyZ _) ?_
      · go_simp
        try (intro hx; omega)
      try simp only [Act.put, List.setIfInBounds_toArray, List.set_cons_zero, List.set_cons_succ]
      refine takeZ (i := 1) (d := 7) (v := .bool true) rfl rfl (by kernel_rfl) (by kernel_rfl) (by kernel_rfl) (fun _ _ _ h => h) (Or.inl ⟨by rfl, fun W _ => ?_⟩) (anyZ _) ?_
      · go_simp
        try (intro hx; omega)
      try simp only [Act.put, List.setIfInBounds_toArray, List.set_cons_zero, List.set_cons_succ]
      refine takeZ (i := 2) (d := 8) (v := .bool true) rfl rfl (by kernel_rfl) (by kernel_rfl) (by kernel_rfl) (fun _ _ _ h => h) (Or.inl ⟨by rfl, fun W _ => ?_⟩) (anyZ _) ?_
      · go_simp
        try (intro hx; omega)
      try simp only [Act.put, List.setIfInBounds_toArray, List.set_cons_zero, List.set_cons_succ]
      refine takeZ (i := 3) (d := 9) (v := .string s) rfl rfl (by kernel_rfl) (by kernel_rfl) (by kernel_rfl) (fun _ _ _ h => h) (Or.inl ⟨by rfl, fun W _ => ?_⟩) (anyZ _) ?_
      · go_simp
        try (intro hx; omega)
      try simp only [Act.put, List.setIfInBounds_toArray, List.set_cons_zero, List.set_cons_succ]
      refine takeZ (i := 4) (d := 10) (v := .int .i64 ((m : Int) + 2)) rfl rfl (by kernel_rfl) (by kernel_rfl) (by kernel_rfl) (fun _ _ _ h => h) (Or.inl ⟨by rfl, fun W _ => ?_⟩) (anyZ _) ?_
      · go_simp
        try (intro hx; omega)
      try simp only [Act.put, List.setIfInBounds_toArray, List.set_cons_zero, List.set_cons_succ]
      refine takeZ (i := 5) (d := 11) (v := .int .i64 ((m : Int) + 1)) rfl rfl (by kernel_rfl) (by kernel_rfl) (by kernel_rfl) (fun _ _ _ h => h) (Or.inl ⟨by rfl, fun W _ => ?_⟩) (anyZ _) ?_
      · go_simp
        try (intro hx; omega)
      try simp only [Act.put, List.setIfInBounds_toArray, List.set_cons_zero, List.set_cons_succ]
      refine takeZ (i := 6) (d := 12) (v := .int .u8 (a.toNat : Int)) rfl rfl (by kernel_rfl) (by kernel_rfl) (by kernel_rfl) (fun _ _ _ h => h) (Or.inl ⟨by rfl, fun W _ => ?_⟩) (anyZ _) ?_
      · go_simp
        try (intro hx; omega)
      try simp only [Act.put, List.setIfInBounds_toArray, List.set_cons_zero, List.set_cons_succ]
      refine takeZ (i := 7) (d := 13) (v := .string s) rfl rfl (by kernel_rfl) (by kernel_rfl) (by kernel_rfl) (fun _ _ _ h => h) (Or.inl ⟨by rfl, fun W _ => ?_⟩) (anyZ _) ?_
      · go_simp
        try (intro hx; omega)
      try simp only [Act.put, List.setIfInBounds_toArray, List.set_cons_zero, List.set_cons_succ]
      refine takeZ (i := 8) (d := 14) (v := .int .i64 ((m : Int) + 2)) rfl rfl (by kernel_rfl) (by kernel_rfl) (by kernel_rfl) (fun _ _ _ h => h) (Or.inl ⟨by rfl, fun W _ => ?_⟩) (anyZ _) ?_
      · go_simp
        try (intro hx; omega)
      try simp only [Act.put, List.setIfInBounds_toArray, List.set_cons_zero, List.set_cons_succ]
      refine takeZ (i := 9) (d := 15) (v := .int .i64 (m : Int)) rfl rfl (by kernel_rfl) (by kernel_rfl) (by kernel_rfl) (fun _ _ _ h => h) (Or.inl ⟨by rfl, fun W _ => ?_⟩) (anyZ _) ?_
      · go_simp
        try (intro hx; omega)
      try simp only [Act.put, List.setIfInBounds_toArray, List.set_cons_zero, List.set_cons_succ]
      refine takeZ (i := 10) (d := 16) (v := .int .u8 (b.toNat : Int)) rfl rfl (by kernel_rfl) (by kernel_rfl) (by kernel_rfl) (fun _ _ _ h => h) (Or.inl ⟨by rfl, fun W _ => ?_⟩) (anyZ _) ?_
      · go_simp
        try (intro hx; omega)
      try simp only [Act.put, List.setIfInBounds_toArray, List.set_cons_zero, List.set_cons_succ]
      refine takeZ (i := 11) (d := 17) (v := .bool true) rfl rfl (by kernel_rfl) (by kernel_rfl) (by kernel_rfl) (fun _ _ _ h => h) (Or.inl ⟨by rfl, fun W _ => ?_⟩) (anyZ _) ?_
      · go_simp
        try (intro hx; omega)
      try simp only [Act.put, List.setIfInBounds_toArray, List.set_cons_zero, List.set_cons_succ]
      refine takeZ (i := 12) (d := 18) (v := .bool true) rfl rfl (by kernel_rfl) (by kernel_rfl) (by kernel_rfl) (fun _ _ _ h => h) (Or.inl ⟨by rfl, fun W _ => ?_⟩) (anyZ _) ?_
      · go_simp
        try (intro hx; omega)
      try simp only [Act.put, List.setIfInBounds_toArray, List.set_cons_zero, List.set_cons_succ]
      refine takeZ (i := 13) (d := 19) (v := .bool true) rfl rfl (by kernel_rfl) (by kernel_rfl) (by kernel_rfl) (fun _ _ _ h => h) (Or.inl ⟨by rfl, fun W _ => ?_⟩) (anyZ _) ?_
      · go_simp
        try (intro hx; omega)
      try simp only [Act.put, List.setIfInBounds_toArray, List.set_cons_zero, List.set_cons_succ]
      refine takeZ (i := 14) (d := 20) (v := .string s) rfl rfl (by kernel_rfl) (by kernel_rfl) (by kernel_rfl) (fun _ _ _ h => h) (Or.inl ⟨by rfl, fun W _ => ?_⟩) (anyZ _) ?_
      · go_simp
        try (intro hx; omega)
      try simp only [Act.put, List.setIfInBounds_toArray, List.set_cons_zero, List.set_cons_succ]
      refine takeZ (i := 16) (d := 22) (v := .int .i64 ((m : Int) + 2)) rfl rfl (by kernel_rfl) (by kernel_rfl) (by kernel_rfl) (fun _ _ _ h => h) (Or.inl ⟨by rfl, fun W _ => ?_⟩) (anyZ _) ?_
      · go_simp
        try (intro hx; omega)
      try simp only [Act.put, List.setIfInBounds_toArray, List.set_cons_zero, List.set_cons_succ]
      refine takeZ (i := 17) (d := 23) (v := .int .i64 ((m : Int) + 1)) rfl rfl (by kernel_rfl) (by kernel_rfl) (by kernel_rfl) (fun _ _ _ h => h) (Or.inl ⟨by rfl, fun W _ => ?_⟩) (anyZ _) ?_
      · go_simp
        try (intro hx; omega)
      try simp only [Act.put, List.setIfInBounds_toArray, List.set_cons_zero, List.set_cons_succ]
      refine wpAnyH_all (rs := [15]) (by kernel_rfl) (by simp) ?_
      intro i hi
      obtain rfl : i = 15 := by simpa using hi
      unfold wpOp
      go_simp
      first | refine ((HV _).out).mono ?_ | refine Or.inl ((HV _).out.mono ?_)
      rintro e W ⟨rfl, K⟩
      refine ⟨anyZ _, ?_⟩
      try simp only [Act.put, List.setIfInBounds_toArray, List.set_cons_zero, List.set_cons_succ]
      refine takeZ (i := 18) (d := 24) (v := .int .u8 ((vc v).toNat : Int)) rfl rfl (by kernel_rfl) (by kernel_rfl) (by kernel_rfl) (fun _ _ _ h => h) (Or.inl ⟨by rfl, fun W _ => ?_⟩) (anyZ _) ?_
      · go_simp
        try (intro hx; omega)
      try simp only [Act.put, List.setIfInBounds_toArray, List.set_cons_zero, List.set_cons_succ]
      refine takeZ (i := 19) (d := 25) (v := .bool (!v)) rfl rfl (by kernel_rfl) (by kernel_rfl) (by kernel_rfl) (fun _ _ _ h => h) (Or.inl ⟨by rfl, fun W _ => ?_⟩) (anyZ _) ?_
      · go_simp
        try (intro hx; omega)
      try simp only [Act.put, List.setIfInBounds_toArray, List.set_cons_zero, List.set_cons_succ]
      refine takeZ (i := 20) (d := 26) (v := .bool (!v)) rfl rfl (by kernel_rfl) (by kernel_rfl) (by kernel_rfl) (fun _ _ _ h => h) (Or.inl ⟨by rfl, fun W _ => ?_⟩) (anyZ _) ?_
      · go_simp
        try (intro hx; omega)
      try simp only [Act.put, List.setIfInBounds_toArray, List.set_cons_zero, List.set_cons_succ]
      refine takeZ (i := 21) (d := 2) (v := .bool (!v)) rfl rfl (by kernel_rfl) (by kernel_rfl) (by kernel_rfl) (fun _ _ _ h => h) (Or.inl ⟨by rfl, fun W _ => ?_⟩) (anyZ _) ?_
      · go_simp
        try (intro hx; omega)
      try simp only [Act.put, List.setIfInBounds_toArray, List.set_cons_zero, List.set_cons_succ]
      refine wpAnyH_done (by kernel_rfl) ?_ _
      go_wp2
      go_ret
      exact ⟨rfl, (Kept.drew _).trans K (fun _ f => f.elim)⟩
  · have hD : dbl l = false := by unfold dbl; rw [decide_eq_false h2]; rfl
    rw [hD]
    have z1 : decide ((1 : Int) < (l.length : Int)) = false := decide_eq_false (by omega)
    clear HX HV
    go_enter Try.func50, Try.ntmps50
    go_wp2
    go_region
    all_goals go_wp2
    all_goals go_ret
    all_goals exact ⟨rfl, Kept.drew _⟩
end Go.Proofs.Ytmfdoohnladohaa
