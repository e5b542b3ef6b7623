import Derived.Test.YtnkmjhcddegkhaaDoorSen
import Derived.Test.YtnkmjhcddegkhaaDoorAnyz
namespace Go.Proofs.YtnkmjhcddegkhaaDoor
open Go.ChangeShapes Go.WideShapes Go.ChangeAt Go.RowKit

theorem vat_at (l : List UInt8) (k : Nat) (h : k < l.length) : ((vwl l).map Value.bool)[k]? = some (.bool (vat l k)) := by
  unfold vat
  rw [List.getElem?_map, List.getElem?_eq_getElem (by rw [vwl_len]; exact h), List.getD_eq_getElem?_getD, List.getElem?_eq_getElem (by rw [vwl_len]; exact h), Option.getD_some]; rfl
theorem getD_at (l : List UInt8) (k : Nat) (h : k < l.length) : l.getD k 0 = l[k] := by
  rw [List.getD_eq_getElem?_getD, List.getElem?_eq_getElem h, Option.getD_some]
theorem beq_u8 (a b : UInt8) : ((a.toNat : Int) == (b.toNat : Int)) = (a == b) := by
  rw [Bool.eq_iff_iff, beq_iff_eq, beq_iff_eq]
  constructor
  · intro h; exact UInt8.toNat_inj.1 (by omega)
  · rintro rfl; rfl
set_option maxRecDepth 20000 in
set_option maxHeartbeats 4000000 in
theorem endsDouble_any (l : List UInt8) (w : World) (hl : l.length ≤ 281474976710656) :
    Calls Tryd.prog 58 #[.string (bq l)] w fun e w' => e = .returned (.bool (dbl l)) ∧ Kept (fun _ => False) w w' := by
  obtain ⟨s, hs⟩ : ∃ s, s = bq l := ⟨_, rfl⟩
  have hz : s.size = l.length := by rw [hs]; exact bq_size l
  have hz' : (s.size : Int) = (l.length : Int) := by rw [hz]
  have HX : Hid (∀ k (h : k < l.length) (h2 : k < s.size), s[k] = l[k]) := hideV (fun k h h2 => by subst hs; rfl)
  have HV := fun w => hideV (vowels_any l w hl)
  rw [← hs] at HV ⊢
  clear hs
  have w1 : wrap64 ((l.length : Int) - 1) = (l.length : Int) - 1 := by unfold wrap64; omega
  by_cases h2 : 2 ≤ l.length
  · obtain ⟨m, hm⟩ : ∃ m, l.length = m + 2 := ⟨l.length - 2, by omega⟩
    have hD : dbl l = ((l.getD (m + 1) 0 == l.getD m 0) && !vat l (m + 1)) := by
      unfold dbl
      rw [decide_eq_true h2, Bool.true_and, hm, show m + 2 - 1 = m + 1 by omega, show m + 2 - 2 = m by omega]
    have b1 : m + 1 < s.size := by omega
    have b2 : m < s.size := by omega
    have c1 : s[m + 1].toNat = (l.getD (m + 1) 0).toNat := by rw [HX.out (m + 1) (by omega) b1, getD_at l (m + 1) (by omega)]
    have c2 : s[m].toNat = (l.getD m 0).toNat := by rw [HX.out m (by omega) b2, getD_at l m (by omega)]
    have HA := vat_at l (m + 1) (by omega)
    have HB := beq_u8 (l.getD (m + 1) 0) (l.getD m 0)
    generalize dbl l = D at hD ⊢
    generalize l.getD (m + 1) 0 = a at c1 hD HB
    generalize l.getD m 0 = b at c2 hD HB
    generalize vat l (m + 1) = v at HA hD
    have HC : Hid (∀ g w w', Gro w w' 4 1 (.slice (some ⟨g, 0, none⟩) l.length l.length) l.length ((vwl l).map Value.bool) → w'.cell? ⟨g, m + 1, none⟩ = some (.bool v)) := hideV (fun g w w' h => h.at HA)
    have l1 : ((m : Int) + 2) - 1 = (m : Int) + 1 := by omega
    have l2 : (m : Int) + 1 - 1 = (m : Int) := by omega
    have l3 : (1 : Int) ≤ (m : Int) + 1 := by omega
    have e2 : (l.length : Int) = (m : Int) + 2 := by omega
    have HE := hideV hm
    have l4 : wrap64 ((m : Int) + 1) = (m : Int) + 1 := by unfold wrap64; omega
    have l5 : wrap64 (m : Int) = (m : Int) := by unfold wrap64; omega
    have l6 : IntKind.i64.wrap (m : Int) = (m : Int) := by rw [IntKind.wrap_i64]; omega
    clear HX HA hm h2
    cases hab : (a == b) with
    | false =>
      rw [hab] at HB hD
      go_enter Tryd.func58, Tryd.ntmps58
      go_wp2
      subst hD
      go_region
      all_goals go_wp2
      all_goals go_ret
      all_goals exact ⟨rfl, Kept.drew _⟩
    | true =>
      rw [hab] at HB hD
      rw [Bool.true_and] at hD
      subst hD
      go_enter Tryd.func58, Tryd.ntmps58
      go_wp2
      refine wp_region_held (S := AnyZ) (by kernel_rfl) ?_
      change wpAnyH _ _ _ _ _ _ _ _ (World.drew _)
      refine takeZ (i := 0) (d := 7) (v := .int .i64 ((m : Int) + 1)) rfl rfl (by kernel_rfl) (by kernel_rfl) (by kernel_rfl) (fun _ _ _ h => h) (Or.inl ⟨by rfl, fun W _ => ?_⟩) (anyZ _) ?_
      · go_simp
        try (intro hx; omega)
      try simp only [Act.put, List.setIfInBounds_toArray, List.set_cons_zero, List.set_cons_succ]
      refine takeZ (i := 1) (d := 8) (v := .bool true) rfl rfl (by kernel_rfl) (by kernel_rfl) (by kernel_rfl) (fun _ _ _ h => h) (Or.inl ⟨by rfl, fun W _ => ?_⟩) (anyZ _) ?_
      · go_simp
        try (intro hx; omega)
      try simp only [Act.put, List.setIfInBounds_toArray, List.set_cons_zero, List.set_cons_succ]
      refine takeZ (i := 2) (d := 9) (v := .bool true) rfl rfl (by kernel_rfl) (by kernel_rfl) (by kernel_rfl) (fun _ _ _ h => h) (Or.inl ⟨by rfl, fun W _ => ?_⟩) (anyZ _) ?_
      · go_simp
        try (intro hx; omega)
      try simp only [Act.put, List.setIfInBounds_toArray, List.set_cons_zero, List.set_cons_succ]
      refine takeZ (i := 3) (d := 10) (v := .string s) rfl rfl (by kernel_rfl) (by kernel_rfl) (by kernel_rfl) (fun _ _ _ h => h) (Or.inl ⟨by rfl, fun W _ => ?_⟩) (anyZ _) ?_
      · go_simp
        try (intro hx; omega)
      try simp only [Act.put, List.setIfInBounds_toArray, List.set_cons_zero, List.set_cons_succ]
      refine takeZ (i := 4) (d := 11) (v := .int .i64 ((m : Int) + 1)) rfl rfl (by kernel_rfl) (by kernel_rfl) (by kernel_rfl) (fun _ _ _ h => h) (Or.inl ⟨by rfl, fun W _ => ?_⟩) (anyZ _) ?_
      · go_simp
        try (intro hx; omega)
      try simp only [Act.put, List.setIfInBounds_toArray, List.set_cons_zero, List.set_cons_succ]
      refine takeZ (i := 5) (d := 12) (v := .int .u8 (a.toNat : Int)) rfl rfl (by kernel_rfl) (by kernel_rfl) (by kernel_rfl) (fun _ _ _ h => h) (Or.inl ⟨by rfl, fun W _ => ?_⟩) (anyZ _) ?_
      · go_simp
        try (intro hx; omega)
      try simp only [Act.put, List.setIfInBounds_toArray, List.set_cons_zero, List.set_cons_succ]
      refine takeZ (i := 6) (d := 13) (v := .string s) rfl rfl (by kernel_rfl) (by kernel_rfl) (by kernel_rfl) (fun _ _ _ h => h) (Or.inl ⟨by rfl, fun W _ => ?_⟩) (anyZ _) ?_
      · go_simp
        try (intro hx; omega)
      try simp only [Act.put, List.setIfInBounds_toArray, List.set_cons_zero, List.set_cons_succ]
      refine takeZ (i := 7) (d := 14) (v := .int .i64 ((m : Int) + 1)) rfl rfl (by kernel_rfl) (by kernel_rfl) (by kernel_rfl) (fun _ _ _ h => h) (Or.inl ⟨by rfl, fun W _ => ?_⟩) (anyZ _) ?_
      · go_simp
        try (intro hx; omega)
      try simp only [Act.put, List.setIfInBounds_toArray, List.set_cons_zero, List.set_cons_succ]
      refine takeZ (i := 8) (d := 15) (v := .int .i64 (m : Int)) rfl rfl (by kernel_rfl) (by kernel_rfl) (by kernel_rfl) (fun _ _ _ h => h) (Or.inl ⟨by rfl, fun W _ => ?_⟩) (anyZ _) ?_
      · go_simp
        try (intro hx; omega)
      try simp only [Act.put, List.setIfInBounds_toArray, List.set_cons_zero, List.set_cons_succ]
      refine takeZ (i := 9) (d := 16) (v := .int .u8 (b.toNat : Int)) rfl rfl (by kernel_rfl) (by kernel_rfl) (by kernel_rfl) (fun _ _ _ h => h) (Or.inl ⟨by rfl, fun W _ => ?_⟩) (anyZ _) ?_
      · go_simp
        try (intro hx; omega)
      try simp only [Act.put, List.setIfInBounds_toArray, List.set_cons_zero, List.set_cons_succ]
      refine takeZ (i := 10) (d := 17) (v := .bool true) rfl rfl (by kernel_rfl) (by kernel_rfl) (by kernel_rfl) (fun _ _ _ h => h) (Or.inl ⟨by rfl, fun W _ => ?_⟩) (anyZ _) ?_
      · go_simp
        try (intro hx; omega)
      try simp only [Act.put, List.setIfInBounds_toArray, List.set_cons_zero, List.set_cons_succ]
      refine takeZ (i := 11) (d := 18) (v := .bool true) rfl rfl (by kernel_rfl) (by kernel_rfl) (by kernel_rfl) (fun _ _ _ h => h) (Or.inl ⟨by rfl, fun W _ => ?_⟩) (anyZ _) ?_
      · go_simp
        try (intro hx; omega)
      try simp only [Act.put, List.setIfInBounds_toArray, List.set_cons_zero, List.set_cons_succ]
      refine takeZ (i := 12) (d := 19) (v := .bool true) rfl rfl (by kernel_rfl) (by kernel_rfl) (by kernel_rfl) (fun _ _ _ h => h) (Or.inl ⟨by rfl, fun W _ => ?_⟩) (anyZ _) ?_
      · go_simp
        try (intro hx; omega)
      try simp only [Act.put, List.setIfInBounds_toArray, List.set_cons_zero, List.set_cons_succ]
      refine takeZ (i := 13) (d := 20) (v := .string s) rfl rfl (by kernel_rfl) (by kernel_rfl) (by kernel_rfl) (fun _ _ _ h => h) (Or.inl ⟨by rfl, fun W _ => ?_⟩) (anyZ _) ?_
      · go_simp
        try (intro hx; omega)
      try simp only [Act.put, List.setIfInBounds_toArray, List.set_cons_zero, List.set_cons_succ]
      refine takeZ (i := 15) (d := 22) (v := .int .i64 ((m : Int) + 1)) rfl rfl (by kernel_rfl) (by kernel_rfl) (by kernel_rfl) (fun _ _ _ h => h) (Or.inl ⟨by rfl, fun W _ => ?_⟩) (anyZ _) ?_
      · go_simp
        try (intro hx; omega)
      try simp only [Act.put, List.setIfInBounds_toArray, List.set_cons_zero, List.set_cons_succ]
      refine wpAnyH_all (rs := [14]) (by kernel_rfl) (by simp) ?_
      intro i hi
      obtain rfl : i = 14 := by simpa using hi
      unfold wpOp
      go_simp
      first | refine ((HV _).out).mono ?_ | refine Or.inl ((HV _).out.mono ?_)
      rintro e W ⟨g, rfl, G⟩
      have y0 := HC.out _ _ _ G
      have K := hideV G.kept
      clear G
      refine ⟨anyZ _, ?_⟩
      try simp only [Act.put, List.setIfInBounds_toArray, List.set_cons_zero, List.set_cons_succ]
      refine takeZ (i := 16) (d := 23) (v := .pointer (some ⟨g, m + 1, none⟩)) rfl rfl (by kernel_rfl) (by kernel_rfl) (by kernel_rfl) (fun _ _ _ h => h) (Or.inl ⟨by rfl, fun W _ => ?_⟩) (anyZ _) ?_
      · go_simp
        try (intro hx; omega)
      try simp only [Act.put, List.setIfInBounds_toArray, List.set_cons_zero, List.set_cons_succ]
      refine wpAnyH_all (rs := [17]) (by kernel_rfl) (by simp) ?_
      intro i hi
      obtain rfl : i = 17 := by simpa using hi
      unfold wpOp
      go_simp
      refine Or.inl ⟨anyZ _, ?_⟩
      try simp only [Act.put, List.setIfInBounds_toArray, List.set_cons_zero, List.set_cons_succ]
      refine takeZ (i := 18) (d := 25) (v := .bool (!v)) rfl rfl (by kernel_rfl) (by kernel_rfl) (by kernel_rfl) (fun _ _ _ h => h) (Or.inl ⟨by rfl, fun W _ => ?_⟩) (anyZ _) ?_
      · go_simp
        try (intro hx; omega)
      try simp only [Act.put, List.setIfInBounds_toArray, List.set_cons_zero, List.set_cons_succ]
      refine takeZ (i := 19) (d := 26) (v := .bool (!v)) rfl rfl (by kernel_rfl) (by kernel_rfl) (by kernel_rfl) (fun _ _ _ h => h) (Or.inl ⟨by rfl, fun W _ => ?_⟩) (anyZ _) ?_
      · go_simp
        try (intro hx; omega)
      try simp only [Act.put, List.setIfInBounds_toArray, List.set_cons_zero, List.set_cons_succ]
      refine takeZ (i := 20) (d := 2) (v := .bool (!v)) rfl rfl (by kernel_rfl) (by kernel_rfl) (by kernel_rfl) (fun _ _ _ h => h) (Or.inl ⟨by rfl, fun W _ => ?_⟩) (anyZ _) ?_
      · go_simp
        try (intro hx; omega)
      try simp only [Act.put, List.setIfInBounds_toArray, List.set_cons_zero, List.set_cons_succ]
      refine wpAnyH_done (by kernel_rfl) ?_ _
      go_wp2
      go_ret
      exact ⟨rfl, (Kept.drew _).trans K.out (fun _ f => f.elim)⟩
  · have hD : dbl l = false := by unfold dbl; rw [decide_eq_false h2]; rfl
    rw [hD]
    have z1 : decide ((1 : Int) ≤ (l.length : Int) - 1) = false := decide_eq_false (by omega)
    clear HX HV
    go_enter Tryd.func58, Tryd.ntmps58
    go_wp2
    go_region
    all_goals go_wp2
    all_goals go_ret
    all_goals exact ⟨rfl, Kept.drew _⟩
end Go.Proofs.YtnkmjhcddegkhaaDoor
