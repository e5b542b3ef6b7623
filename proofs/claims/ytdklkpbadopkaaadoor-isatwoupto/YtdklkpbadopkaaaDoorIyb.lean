import Derived.Test.YtdklkpbadopkaaaDoorIzo
namespace Go.Proofs.YtdklkpbadopkaaaDoor
open Go.ChangeShapes Go.WideShapes Go.ChangeAt Go.RowKit

/-! Two programs with one listing are alike. -/
/-- A byte that isn't in the one's head, nor in the other's, cuts both at one place. -/
theorem cut_eq {s : UInt8} : ∀ (a b x y : List UInt8), s ∉ a → s ∉ b → a ++ s :: x = b ++ s :: y → a = b ∧ x = y
  | [], [], x, y, _, _, h => by simp at h; exact ⟨rfl, h⟩
  | [], c :: b, x, y, _, hb, h => by simp at h; exact absurd (by simp [h.1]) hb
  | c :: a, [], x, y, ha, _, h => by simp at h; exact absurd (by simp [h.1]) ha
  | c :: a, d :: b, x, y, ha, hb, h => by
    simp only [List.cons_append, List.cons.injEq] at h
    obtain ⟨e, h⟩ := h
    obtain ⟨e1, e2⟩ := cut_eq a b x y (fun h => ha (List.mem_cons_of_mem _ h)) (fun h => hb (List.mem_cons_of_mem _ h)) h
    exact ⟨by rw [e, e1], e2⟩
/-- Lines: what ends with the byte s and has none ahead of it. -/
def jnB (s : UInt8) (L : List (List UInt8)) : List UInt8 := (L.map (· ++ [s])).flatten
theorem jn_inj {s : UInt8} : ∀ (L M : List (List UInt8)), (∀ x ∈ L, s ∉ x) → (∀ x ∈ M, s ∉ x) → jnB s L = jnB s M → L = M
  | [], [], _, _, _ => rfl
  | [], y :: M, _, _, h => by simp [jnB] at h
  | x :: L, [], _, _, h => by simp [jnB] at h
  | x :: L, y :: M, hL, hM, h => by
    have h2 : x ++ s :: jnB s L = y ++ s :: jnB s M := by simpa [jnB] using h
    obtain ⟨e1, e2⟩ := cut_eq x y _ _ (hL x List.mem_cons_self) (hM y List.mem_cons_self) h2
    rw [e1, jn_inj L M (fun z hz => hL z (List.mem_cons_of_mem _ hz)) (fun z hz => hM z (List.mem_cons_of_mem _ hz)) e2]
/-- Parts: what begins with the byte s and has none behind it. -/
def ptB (s : UInt8) (L : List (List UInt8)) : List UInt8 := (L.map (s :: ·)).flatten
theorem pt_cases {s : UInt8} (x : List UInt8) (L : List (List UInt8)) : x ++ ptB s L = match L with | [] => x | y :: L => x ++ s :: (y ++ ptB s L) := by
  cases L <;> simp [ptB]
theorem pt_inj {s : UInt8} : ∀ (L M : List (List UInt8)) (x y : List UInt8), s ∉ x → s ∉ y → (∀ x ∈ L, s ∉ x) → (∀ x ∈ M, s ∉ x) → x ++ ptB s L = y ++ ptB s M → x = y ∧ L = M
  | [], [], x, y, _, _, _, _, h => by simp [ptB] at h; exact ⟨h, rfl⟩
  | [], z :: M, x, y, hx, _, _, _, h => by
    simp [ptB] at h
    exact absurd (by rw [h]; simp) hx
  | z :: L, [], x, y, _, hy, _, _, h => by
    simp [ptB] at h
    exact absurd (by rw [← h]; simp) hy
  | z :: L, u :: M, x, y, hx, hy, hL, hM, h => by
    have h2 : x ++ s :: (z ++ ptB s L) = y ++ s :: (u ++ ptB s M) := by simpa [ptB] using h
    obtain ⟨e1, e2⟩ := cut_eq x y _ _ hx hy h2
    obtain ⟨e3, e4⟩ := pt_inj L M z u (hL z List.mem_cons_self) (hM u List.mem_cons_self) (fun z hz => hL z (List.mem_cons_of_mem _ hz)) (fun z hz => hM z (List.mem_cons_of_mem _ hz)) e2
    exact ⟨e1, by rw [e3, e4]⟩
/-- Digits. -/
theorem dd_mem : ∀ (u : Nat), ∀ c ∈ Lib.decDigits u, 48 ≤ c.toNat ∧ c.toNat ≤ 57 := by
  intro u
  induction u using Nat.strongRecOn with
  | ind u ih =>
    intro c hc
    by_cases h : u < 10
    · rw [Lib.decDigits, dif_pos h] at hc
      simp at hc
      subst hc
      simp only [UInt8.toNat_add, UInt8.toNat_ofNat', UInt8.toNat_ofNat]
      omega
    · rw [Lib.decDigits, dif_neg h] at hc
      rcases List.mem_append.1 hc with h1 | h1
      · exact ih (u / 10) (by omega) c h1
      · simp at h1
        subst h1
        simp only [UInt8.toNat_add, UInt8.toNat_ofNat', UInt8.toNat_ofNat]
        omega
theorem dd_not {u : Nat} {c : UInt8} (h : c.toNat < 48 ∨ 57 < c.toNat) : c ∉ Lib.decDigits u := fun hc => by
  have := dd_mem u c hc
  omega
theorem dd_s {u : Nat} (h : u < 10) : Lib.decDigits u = [UInt8.ofNat (48 + u)] := by rw [Lib.decDigits, dif_pos h]
theorem dd_b {u : Nat} (h : ¬ u < 10) : Lib.decDigits u = Lib.decDigits (u / 10) ++ [UInt8.ofNat (48 + u % 10)] := by rw [Lib.decDigits, dif_neg h]
theorem dd_pos (u : Nat) : 1 ≤ (Lib.decDigits u).length := by rw [Lib.decDigits_length]; exact Lib.nDigits_pos u
theorem dd_inj : ∀ (u v : Nat), Lib.decDigits u = Lib.decDigits v → u = v := by
  intro u
  induction u using Nat.strongRecOn with
  | ind u ih =>
    intro v h
    have key : ∀ a b : Nat, a < 10 → b < 10 → UInt8.ofNat (48 + a) = UInt8.ofNat (48 + b) → a = b := fun a b ha hb e => by
      have := congrArg UInt8.toNat e
      simp only [UInt8.toNat_ofNat'] at this
      omega
    by_cases hu : u < 10
    · by_cases hv : v < 10
      · rw [dd_s hu, dd_s hv] at h
        simp only [List.cons.injEq, and_true] at h
        exact key u v hu hv h
      · have h1 := congrArg List.length h
        have h2 := dd_pos (v / 10)
        rw [dd_s hu, dd_b hv, List.length_append] at h1
        simp only [List.length_cons, List.length_nil] at h1
        omega
    · by_cases hv : v < 10
      · have h1 := congrArg List.length h
        have h2 := dd_pos (u / 10)
        rw [dd_b hu, dd_s hv, List.length_append] at h1
        simp only [List.length_cons, List.length_nil] at h1
        omega
      · rw [dd_b hu, dd_b hv] at h
        have h1 := List.append_inj' h rfl
        have e1 := ih (u / 10) (by omega) (v / 10) h1.1
        have e2 := key (u % 10) (v % 10) (Nat.mod_lt _ (by decide)) (Nat.mod_lt _ (by decide)) (by have := h1.2; simp only [List.cons.injEq, and_true] at this; exact this)
        omega
/-- Terms. -/
theorem hx_inj (a b : Nat) (ha : a < 16) (hb : b < 16) (h : hxB a = hxB b) : a = b := by
  have q : ∀ a b : Fin 16, hxB a.val = hxB b.val → a = b := by decide +kernel
  exact congrArg Fin.val (q ⟨a, ha⟩ ⟨b, hb⟩ h)
theorem plB_not {c : UInt8} (h : plB c = true) : c ≠ 92 ∧ c ≠ 34 ∧ c ≠ 10 := by
  simp only [plB, Bool.and_eq_true, decide_eq_true_eq] at h
  refine ⟨?_, ?_, ?_⟩ <;> (rintro rfl; revert h; decide)
theorem lt_inj : ∀ (a b : List UInt8), (a.map ltB).flatten = (b.map ltB).flatten → a = b
  | [], [], _ => rfl
  | [], c :: b, h => by
    have h1 := congrArg List.length h
    simp only [List.map_cons, List.flatten_cons, List.length_append, List.map_nil, List.flatten_nil, List.length_nil] at h1
    have : 1 ≤ (ltB c).length := by unfold ltB; split <;> simp
    omega
  | c :: a, [], h => by
    have h1 := congrArg List.length h
    simp only [List.map_cons, List.flatten_cons, List.length_append, List.map_nil, List.flatten_nil, List.length_nil] at h1
    have : 1 ≤ (ltB c).length := by unfold ltB; split <;> simp
    omega
  | c :: a, d :: b, h => by
    simp only [List.map_cons, List.flatten_cons] at h
    unfold ltB at h
    split at h <;> split at h
    · simp only [List.cons_append, List.nil_append, List.cons.injEq] at h
      rw [h.1, lt_inj a b h.2]
    · rename_i h1 h2
      simp only [List.cons_append, List.nil_append, List.cons.injEq] at h
      exact absurd h.1 (plB_not h1).1
    · rename_i h1 h2
      simp only [List.cons_append, List.nil_append, List.cons.injEq] at h
      exact absurd h.1.symm (plB_not h2).1
    · simp only [List.cons_append, List.nil_append, List.cons.injEq, true_and] at h
      obtain ⟨e1, e2, e3⟩ := h
      have hc := c.toNat_lt
      have hd := d.toNat_lt
      have g1 := hx_inj _ _ (by omega) (by omega) e1
      have g2 := hx_inj _ _ (Nat.mod_lt _ (by decide)) (Nat.mod_lt _ (by decide)) e2
      have e : c = d := UInt8.toNat_inj.1 (by omega)
      rw [e, lt_inj a b e3]
end Go.Proofs.YtdklkpbadopkaaaDoor
