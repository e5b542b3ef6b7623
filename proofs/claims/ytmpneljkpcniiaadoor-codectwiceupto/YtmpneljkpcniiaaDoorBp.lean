import Derived.Test.YtmpneljkpcniiaaDoorBk
namespace Go.Proofs.YtmpneljkpcniiaaDoor
open Go.ChangeShapes Go.WideShapes Go.ChangeAt Go.RowKit

theorem unp_cons (V w n : Nat) : unp V w (n + 1) = ((V % 2 ^ w : Nat) : Int) :: unp (V / 2 ^ w) w n := by
  rw [unp, List.range_succ_eq_map, List.map_cons, List.map_map]
  congr 1
  · simp
  · rw [unp]
    apply List.map_congr_left
    intro i _
    simp only [Function.comp, Nat.succ_eq_add_one]
    rw [Nat.div_div_eq_div_mul, ← Nat.pow_add, Nat.add_mul, Nat.one_mul, Nat.add_comm]
theorem unp_pk (w : Nat) : ∀ l : List Int, (∀ x ∈ l, 0 ≤ x ∧ x.toNat < 2 ^ w) → unp (pk w l) w l.length = l := by
  intro l
  induction l with
  | nil => intro _; rfl
  | cons x r ih =>
    intro h
    have hx := h x (List.mem_cons_self ..)
    have hp := Nat.two_pow_pos w
    rw [List.length_cons, unp_cons, pk, Nat.add_mul_mod_self_left, Nat.add_mul_div_left _ _ hp, Nat.mod_eq_of_lt hx.2, Nat.div_eq_of_lt hx.2, Nat.zero_add, ih (fun y hy => h y (List.mem_cons_of_mem _ hy))]
    congr 1
    omega
theorem pk_unp (w : Nat) : ∀ (n V : Nat), pk w (unp V w n) = V % 2 ^ (n * w) := by
  intro n
  induction n with
  | zero => intro V; simp [unp, pk, Nat.mod_one]
  | succ n ih =>
    intro V
    rw [unp_cons, pk, ih, Int.toNat_natCast, Nat.add_mul, Nat.one_mul, Nat.add_comm (n * w) w, Nat.pow_add, Nat.mod_mul]

/-- The bytes of a packed list behind its count. -/
def pbody (l : List Int) : List Int := if l = [] then [] else ((bitLen (orl l) : Nat) : Int) :: le ((l.length * bitLen (orl l) + 7) / 8) (pk (bitLen (orl l)) l)
theorem packed_eq (l : List Int) : packed l = uvb l.length ++ pbody l := rfl
theorem pbody_length (l : List Int) : (pbody l).length = if l = [] then 0 else 1 + (l.length * bitLen (orl l) + 7) / 8 := by
  unfold pbody
  split <;> simp [le_length]
  omega
theorem pow_le8 (a m : Nat) (h : a ≤ 8 * m) : 2 ^ a ≤ 256 ^ m := by
  rw [pow8]
  exact Nat.pow_le_pow_right (by decide) h
/-- A written packed list is read again, whatever stands behind it. -/
theorem rdp_back (l r : List Int) (hI : IsInts l) (h0 : ∀ x ∈ l, 0 ≤ x) (hz : ¬ (orl l = 0 ∧ 65536 < l.length)) : rdp l.length (pbody l ++ r) = .ok (l, (pbody l).length) := by
  by_cases hn : l = []
  · subst hn; rfl
  · have hl : l.length ≠ 0 := by intro e; exact hn (List.eq_nil_of_length_eq_zero e)
    obtain ⟨w, hw⟩ : ∃ w, w = bitLen (orl l) := ⟨_, rfl⟩
    have hw63 := orl_bits l h0 hI
    have hml : ∀ x ∈ l, 0 ≤ x ∧ x.toNat < 2 ^ w := fun x hx => ⟨h0 x hx, by rw [hw]; exact mem_lt_width hx⟩
    have hpk := pk_lt w l (fun x hx => (hml x hx).2)
    obtain ⟨m, hm⟩ : ∃ m, m = (l.length * w + 7) / 8 := ⟨_, rfl⟩
    have hp8 := pow_le8 (l.length * w) m (by omega)
    have hv : vle (le m (pk w l)) = pk w l := by
      rw [vle_le, Nat.mod_eq_of_lt]
      rw [Nat.mul_comm w] at hpk
      omega
    have hz0 : w = 0 → orl l = 0 := by
      intro e
      have : orl l < 2 ^ 0 := (bitLen_le_iff _ _).1 (by omega)
      omega
    rw [pbody_length, if_neg hn, pbody, if_neg hn, ← hw, ← hm, List.cons_append, rdp, if_neg hl]
    simp only [Int.toNat_natCast]
    rw [if_neg (by rintro (h | ⟨h, h'⟩) <;> first | omega | exact hz ⟨hz0 h, h'⟩), ← hm, if_neg (by rw [List.length_append, le_length]; omega), List.take_append_of_le_length (by rw [le_length]; omega), List.take_of_length_le (by rw [le_length]; omega), hv, unp_pk w l hml, if_pos]
    rw [tightB, hv, ← hw]
    rw [Nat.mul_comm w] at hpk
    simp [hpk]
theorem rdp_cut (l : List Int) (k : Nat) (hI : IsInts l) (h0 : ∀ x ∈ l, 0 ≤ x) (hz : ¬ (orl l = 0 ∧ 65536 < l.length)) (hk : k < (pbody l).length) : rdp l.length ((pbody l).take k) = .error 0 := by
  by_cases hn : l = []
  · subst hn; simp [pbody] at hk
  · have hl : l.length ≠ 0 := by intro e; exact hn (List.eq_nil_of_length_eq_zero e)
    rw [pbody_length, if_neg hn] at hk
    have hw63 := orl_bits l h0 hI
    have hz0 : bitLen (orl l) = 0 → orl l = 0 := by
      intro e
      have : orl l < 2 ^ 0 := (bitLen_le_iff _ _).1 (by omega)
      omega
    cases k with
    | zero => rw [List.take_zero, rdp, if_neg hl]
    | succ k =>
      rw [pbody, if_neg hn, List.take_succ_cons, rdp, if_neg hl]
      simp only [Int.toNat_natCast]
      rw [if_neg (by rintro (h | ⟨h, h'⟩) <;> first | omega | exact hz ⟨hz0 h, h'⟩), if_pos (by rw [List.length_take, le_length]; omega)]
/-- What is read as a packed list is what is written for it. -/
theorem rdp_form {n : Nat} {l xs : List Int} {m : Nat} (hB : IsBytes l) (h : rdp n l = .ok (xs, m)) : xs.length = n ∧ IsInts xs ∧ (∀ x ∈ xs, 0 ≤ x) ∧ ¬ (orl xs = 0 ∧ 65536 < xs.length) ∧ l.take m = pbody xs ∧ m ≤ l.length := by
  rw [rdp.eq_def] at h
  split at h
  · simp only [Except.ok.injEq, Prod.mk.injEq] at h
    obtain ⟨rfl, rfl⟩ := h
    subst n
    exact ⟨rfl, (fun _ hx => nomatch hx), (fun _ hx => nomatch hx), (by simp), rfl, (by omega)⟩
  · rename_i hn
    split at h
    · cases h
    · rename_i c r
      have hc := hB c (List.mem_cons_self ..)
      have hBr : IsBytes r := fun x hx => hB x (List.mem_cons_of_mem _ hx)
      split at h
      · cases h
      · rename_i hcc
        split at h
        · cases h
        · rename_i hlen
          obtain ⟨w, hw⟩ : ∃ w, w = c.toNat := ⟨_, rfl⟩
          rw [← hw] at h hcc hlen
          obtain ⟨k, hk⟩ : ∃ k, k = (n * w + 7) / 8 := ⟨_, rfl⟩
          rw [← hk] at h hlen
          split at h
          · rename_i ht
            simp only [Except.ok.injEq, Prod.mk.injEq] at h
            obtain ⟨rfl, rfl⟩ := h
            simp only [tightB, Bool.and_eq_true, decide_eq_true_eq, unp_length] at ht
            obtain ⟨t1, t2⟩ := ht
            have hne : unp (vle (r.take k)) w n ≠ [] := by
              intro e
              have := congrArg List.length e
              rw [unp_length] at this
              exact hn this
            refine ⟨unp_length _ _ _, unp_ints (by omega), fun x hx => (unp_mem hx).1, ?_, ?_, by rw [List.length_cons]; omega⟩
            · rintro ⟨e1, e2⟩
              rw [unp_length] at e2
              rw [e1] at t2
              have : bitLen 0 = 0 := by have := (bitLen_le_iff 0 0).2 (by decide); omega
              omega
            · rw [pbody, if_neg hne, t2, unp_length, pk_unp, Nat.mod_eq_of_lt t1, ← hk, Nat.add_comm 1 k, List.take_succ_cons]
              congr 1
              · omega
              · have e := le_vle (r.take k) (fun x hx => hBr x (List.mem_of_mem_take hx))
                rw [List.length_take, Nat.min_eq_left (by omega)] at e
                exact e.symm
          · cases h
end Go.Proofs.YtmpneljkpcniiaaDoor
