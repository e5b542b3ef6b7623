import Derived.Test.YtacmmclamkhpcaaDoorLva
namespace Go.Proofs.YtacmmclamkhpcaaDoor
open Go.ChangeShapes Go.WideShapes Go.ChangeAt Go.RowKit

/-! What fuzzy's state tells: the numbers of edits, cut at f, without what is f at both ends. -/
/-- How far the first i bytes of a are from the text that was read, p (its last byte first). -/
def Vd (a p : List UInt8) (i : Nat) : Nat := lev (a.take i).reverse p
theorem Vd_zero (a p : List UInt8) : Vd a p 0 = p.length := rfl
theorem take_rev {a : List UInt8} {i : Nat} (h : i < a.length) : (a.take (i + 1)).reverse = a[i] :: (a.take i).reverse := by rw [List.take_succ_eq_append_getElem h, List.reverse_append]; rfl
theorem Vd_succ {a p : List UInt8} {c : UInt8} {i : Nat} (h : i < a.length) : Vd a (c :: p) (i + 1) = min (min (Vd a (c :: p) i + 1) (Vd a p (i + 1) + 1)) (Vd a p i + chg a[i].toNat c.toNat) := by
  unfold Vd
  rw [take_rev h, lev_cc]
theorem Vd_left {a p : List UInt8} {c : UInt8} (i : Nat) : Vd a p i ≤ Vd a (c :: p) i + 1 := lev_dn2 _ c p
theorem Vd_nil {a : List UInt8} {i : Nat} (h : i ≤ a.length) : Vd a [] i = i := by unfold Vd; rw [lev_nil2, List.length_reverse, List.length_take]; omega
theorem Vd_all (a p : List UInt8) : Vd a p a.length = lev a.reverse p := by unfold Vd; rw [List.take_length]
/-- The row of all i, cut at f. -/
def rwC (f : Nat) (a p : List UInt8) : List Nat := (List.range (a.length + 1)).map (fun i => min (Vd a p i) f)
theorem rwC_len (f : Nat) (a p : List UInt8) : (rwC f a p).length = a.length + 1 := by unfold rwC; simp
theorem rwC_at (f : Nat) (a p : List UInt8) (i : Nat) (h : i ≤ a.length) : (rwC f a p)[i]? = some (min (Vd a p i) f) := by unfold rwC; rw [List.getElem?_map, List.getElem?_range (by omega)]; rfl
/-! Trimming. -/
theorem rtr_rep (f : Nat) (z : Nat) (L : List Nat) : rtr f (L ++ List.replicate z f) = rtr f L := by
  induction z with
  | zero => simp
  | succ z ih =>
    have e : L ++ List.replicate (z + 1) f = (L ++ List.replicate z f) ++ [f] := by rw [List.replicate_succ', List.append_assoc]
    rw [e, rtr_snoc, if_pos rfl, ih]
theorem rtr_split (f : Nat) (L : List Nat) : ∃ z, L = rtr f L ++ List.replicate z f ∧ (rtr f L = [] ∨ ∃ M y, rtr f L = M ++ [y] ∧ y ≠ f) := by
  suffices H : ∀ n (L : List Nat), L.length = n → ∃ z, L = rtr f L ++ List.replicate z f ∧ (rtr f L = [] ∨ ∃ M y, rtr f L = M ++ [y] ∧ y ≠ f) from H _ L rfl
  intro n
  induction n with
  | zero =>
    intro L h
    obtain rfl := List.length_eq_zero_iff.1 h
    exact ⟨0, rfl, .inl rfl⟩
  | succ n ih =>
    intro L h
    have hne : L ≠ [] := by intro e; rw [e] at h; simp at h
    obtain ⟨M, y, rfl⟩ : ∃ M y, L = M ++ [y] := ⟨L.dropLast, L.getLast hne, (List.dropLast_concat_getLast hne).symm⟩
    rw [rtr_snoc]
    by_cases hy : y = f
    · rw [if_pos hy]
      obtain ⟨z, e, d⟩ := ih M (by simpa using h)
      refine ⟨z + 1, ?_, d⟩
      rw [List.replicate_succ', ← List.append_assoc, ← e, hy]
    · rw [if_neg hy]
      exact ⟨0, by simp, .inr ⟨M, y, rfl, hy⟩⟩
theorem rtr_pre (f : Nat) (x : Nat) (M : List Nat) : rtr f (List.replicate x f ++ M) = if rtr f M = [] then [] else List.replicate x f ++ rtr f M := by
  obtain ⟨z, e, d⟩ := rtr_split f M
  rcases d with d | ⟨N, y, d, hy⟩
  · rw [if_pos d]
    rw [d, List.nil_append] at e
    rw [e]
    have := rtr_rep f (x + z) []
    rw [List.nil_append] at this
    rw [List.replicate_append_replicate, this]
    rfl
  · rw [if_neg (by rw [d]; simp)]
    conv => lhs; rw [e]
    rw [← List.append_assoc, rtr_rep, d, ← List.append_assoc, rtr_snoc, if_neg hy]
theorem led_pre (f x : Nat) (N : List Nat) : led f (List.replicate x f ++ N) = x + led f N := by
  unfold led
  induction x with
  | zero => simp
  | succ x ih =>
    rw [List.replicate_succ, List.cons_append, List.takeWhile_cons, if_pos (by simp), List.length_cons, ih]
    omega
theorem trm_mid (f x z : Nat) (M : List Nat) : trm f 0 (List.replicate x f ++ M ++ List.replicate z f) = trm f x M := by
  unfold trm
  rw [rtr_rep, rtr_pre]
  by_cases h : rtr f M = []
  · rw [if_pos h, if_pos rfl, if_pos h]
  · rw [if_neg h, if_neg (by simp [h]), if_neg h, led_pre, Nat.zero_add]
    rw [← List.drop_drop, List.drop_left' (by simp)]
theorem led_split (f : Nat) (M : List Nat) : M = List.replicate (led f M) f ++ M.drop (led f M) := by
  induction M with
  | nil => rfl
  | cons a M ih =>
    by_cases h : a = f
    · have e : led f (a :: M) = led f M + 1 := by unfold led; rw [List.takeWhile_cons, if_pos (by simpa using h), List.length_cons]
      rw [e, List.drop_succ_cons, List.replicate_succ, List.cons_append, ← ih, h]
    · have e : led f (a :: M) = 0 := by unfold led; rw [List.takeWhile_cons, if_neg (by simpa using h)]; rfl
      rw [e]; rfl
theorem led_lt {f : Nat} {N : List Nat} {y : Nat} (hy : y ≠ f) : led f (N ++ [y]) ≤ N.length := by
  induction N with
  | nil => unfold led; rw [List.nil_append, List.takeWhile_cons, if_neg (by simpa using hy)]; exact Nat.le_refl _
  | cons a N ih =>
    by_cases h : a = f
    · have e : led f (a :: N ++ [y]) = led f (N ++ [y]) + 1 := by unfold led; rw [List.cons_append, List.takeWhile_cons, if_pos (by simpa using h), List.length_cons]
      rw [e, List.length_cons]; omega
    · have e : led f (a :: N ++ [y]) = 0 := by unfold led; rw [List.cons_append, List.takeWhile_cons, if_neg (by simpa using h)]; rfl
      rw [e]; exact Nat.zero_le _
/-- What a trimmed row was: f, the row, f; the row's last number is not f. -/
theorem trm_split {f x : Nat} {L row : List Nat} (h : trm f 0 L = x :: row) : ∃ z, L = List.replicate x f ++ row ++ List.replicate z f ∧ ∃ M y, row = M ++ [y] ∧ y ≠ f := by
  unfold trm at h
  obtain ⟨z, e, d⟩ := rtr_split f L
  rcases d with d | ⟨N, y, d, hy⟩
  · rw [if_pos d] at h; cases h
  · rw [if_neg (by rw [d]; simp), Nat.zero_add] at h
    injection h with h1 h2
    have s := led_split f (rtr f L)
    rw [h2, h1] at s
    refine ⟨z, ?_, ?_⟩
    · rw [← s]; exact e
    · have hl := led_lt (f := f) (N := N) hy
      refine ⟨N.drop (led f (rtr f L)), y, ?_, hy⟩
      rw [← h2, d, List.drop_append_of_le_length hl]
theorem trm_nil {f : Nat} {L : List Nat} (h : trm f 0 L = []) : ∀ y ∈ L, y = f := by
  unfold trm at h
  obtain ⟨z, e, d⟩ := rtr_split f L
  by_cases hr : rtr f L = []
  · rw [hr, List.nil_append] at e
    intro y hy
    rw [e] at hy
    exact (List.mem_replicate.1 hy).2
  · rw [if_neg hr] at h; cases h
theorem trm_allf {f : Nat} {L : List Nat} (h : ∀ y ∈ L, y = f) : trm f 0 L = [] := by
  have e : L = List.replicate L.length f := List.eq_replicate_of_mem h
  unfold trm
  rw [if_pos]
  rw [e]
  have := rtr_rep f L.length []
  rw [List.nil_append] at this
  rw [this]; rfl
/-! One more byte. -/
theorem Vd_low {a p : List UInt8} {c : UInt8} {f x : Nat} (h : ∀ i, i < x → i ≤ a.length → f ≤ Vd a p i) : ∀ i, i < x → i ≤ a.length → f ≤ Vd a (c :: p) i := by
  intro i
  induction i with
  | zero =>
    intro h0 h1
    have := h 0 h0 h1
    rw [Vd_zero] at *
    rw [List.length_cons]
    omega
  | succ i ih =>
    intro h0 h1
    have e := ih (by omega) (by omega)
    have e1 := h i (by omega) (by omega)
    have e2 := h (i + 1) h0 h1
    rw [Vd_succ (by omega)]
    omega
theorem Vd_high {a p : List UInt8} {c : UInt8} {f y : Nat} (h : ∀ i, y ≤ i → i ≤ a.length → f ≤ Vd a p i) : ∀ i, y + 1 ≤ i → i ≤ a.length → f ≤ Vd a (c :: p) i := by
  intro i
  induction i with
  | zero => intro h0; omega
  | succ i ih =>
    intro h0 h1
    have e1 := h i (by omega) (by omega)
    have e2 := h (i + 1) (by omega) h1
    rw [Vd_succ (by omega)]
    rcases Nat.lt_or_ge y i with hy | hy
    · have := ih (by omega) (by omega)
      omega
    · have := Vd_left (a := a) (p := p) (c := c) i
      omega
theorem getD_of {L : List Nat} {i v : Nat} (h : L[i]? = some v) : L.getD i 0 = v := by simp [List.getD, h]
/-- fuzzy's next: the next state. -/
theorem nx_step {a p : List UInt8} {c : UInt8} {f x : Nat} {row : List Nat} (h : trm f 0 (rwC f a p) = x :: row) : trm f x (ent a x f c.toNat row (lim a x row)) = trm f 0 (rwC f a (c :: p)) := by
  obtain ⟨z, e, M, y, er, hy⟩ := trm_split h
  have hlen := congrArg List.length e
  rw [rwC_len, List.length_append, List.length_append, List.length_replicate, List.length_replicate] at hlen
  have hR : 0 < row.length := by rw [er]; simp
  have lo : ∀ i, i < x → i ≤ a.length → f ≤ Vd a p i := by
    intro i h1 h2
    have := rwC_at f a p i h2
    rw [e, List.append_assoc, List.getElem?_append_left (by simpa using h1), List.getElem?_replicate, if_pos h1] at this
    have := Option.some.inj this
    omega
  have mid : ∀ k, k < row.length → row.getD k 0 = min (Vd a p (x + k)) f := by
    intro k hk
    have := rwC_at f a p (x + k) (by omega)
    rw [e, List.append_assoc, List.getElem?_append_right (by simp), List.length_replicate, Nat.add_sub_cancel_left, List.getElem?_append_left hk] at this
    exact getD_of this
  have hi : ∀ i, x + row.length ≤ i → i ≤ a.length → f ≤ Vd a p i := by
    intro i h1 h2
    have := rwC_at f a p i h2
    rw [e, List.getElem?_append_right (by rw [List.length_append, List.length_replicate]; exact h1), List.getElem?_replicate, if_pos (by rw [List.length_append, List.length_replicate]; omega)] at this
    have := Option.some.inj this
    omega
  have lo2 := Vd_low (c := c) lo
  have hi2 := Vd_high (c := c) hi
  obtain ⟨K, hK⟩ : ∃ K, K = lim a x row := ⟨_, rfl⟩
  have hK2 : K = min (row.length + 1) (a.length + 1 - x) := hK
  have main : ∀ k, k < K → lfs a x f c.toNat row (k + 1) = min (Vd a (c :: p) (x + k)) f := by
    intro k
    induction k with
    | zero =>
      intro hk
      have m0 := mid 0 hR
      show min (n2F a x c.toNat row (n1F row f 0) 0) f = _
      unfold n2F n1F
      rw [if_neg (Nat.lt_irrefl 0), if_pos hR, m0]
      cases x with
      | zero => rw [Nat.add_zero, Vd_zero, Vd_zero, List.length_cons]; omega
      | succ x =>
        have l1 := lo x (by omega) (by omega)
        have l2 := lo2 x (by omega) (by omega)
        rw [Nat.add_zero, Vd_succ (by omega)]
        generalize Vd a p x = v1 at *
        generalize Vd a (c :: p) x = v2 at *
        generalize Vd a p (x + 1) = v3 at *
        generalize chg a[x].toNat c.toNat = v4
        clear mid lo hi lo2 hi2
        omega
    | succ k ih =>
      intro hk
      have hk2 := ih (by omega)
      have mk := mid k (by omega)
      have hxk : x + k < a.length := by omega
      have ec : (a.getD (x + (k + 1) - 1) 0) = a[x + k] := by
        rw [show x + (k + 1) - 1 = x + k by omega]
        simp [List.getD, hxk]
      show min (n2F a x c.toNat row (n1F row (lfs a x f c.toNat row (k + 1)) (k + 1)) (k + 1)) f = _
      rw [hk2]
      unfold n2F n1F
      rw [if_pos (by omega), ec, show k + 1 - 1 = k by omega, mk, show x + (k + 1) = x + k + 1 by omega, Vd_succ hxk]
      rcases Nat.lt_or_ge (k + 1) row.length with hlt | hge
      · have mk1 := mid (k + 1) hlt
        rw [if_pos hlt, mk1, show x + (k + 1) = x + k + 1 by omega]
        omega
      · have h1 := hi (x + k + 1) (by omega) (by omega)
        rw [if_neg (by omega)]
        omega
  have key : rwC f a (c :: p) = List.replicate x f ++ ent a x f c.toNat row K ++ List.replicate (a.length + 1 - x - K) f := by
    apply List.ext_getElem?
    intro i
    rcases Nat.lt_or_ge a.length i with hi3 | hi3
    · rw [List.getElem?_eq_none (by rw [rwC_len]; omega), List.getElem?_eq_none (by rw [List.length_append, List.length_append, List.length_replicate, List.length_replicate, ent_len]; omega)]
    rw [rwC_at f a (c :: p) i hi3]
    rcases Nat.lt_or_ge i x with h1 | h1
    · have := lo2 i h1 hi3
      rw [List.append_assoc, List.getElem?_append_left (by simpa using h1), List.getElem?_replicate, if_pos h1]
      congr 1
      omega
    · rcases Nat.lt_or_ge i (x + K) with h2 | h2
      · have := main (i - x) (by omega)
        rw [show x + (i - x) = i by omega] at this
        rw [List.append_assoc, List.getElem?_append_right (by simpa using h1), List.length_replicate, List.getElem?_append_left (by rw [ent_len]; omega)]
        unfold ent
        rw [List.getElem?_map, List.getElem?_range (by omega), Option.map_some, this]
      · have := hi2 i (by omega) hi3
        rw [List.getElem?_append_right (by rw [List.length_append, List.length_replicate, ent_len]; omega), List.getElem?_replicate, if_pos (by rw [List.length_append, List.length_replicate, ent_len]; omega)]
        congr 1
        omega
  rw [key, trm_mid, hK]
theorem nx_dead {a p : List UInt8} {c : UInt8} {f : Nat} (h : trm f 0 (rwC f a p) = []) : trm f 0 (rwC f a (c :: p)) = [] := by
  have h1 := trm_nil h
  have lo : ∀ i, i < a.length + 1 → i ≤ a.length → f ≤ Vd a p i := by
    intro i _ h2
    have := h1 _ (List.mem_of_getElem? (rwC_at f a p i h2))
    omega
  have lo2 := Vd_low (c := c) lo
  apply trm_allf
  intro y hy
  obtain ⟨i, hi⟩ := List.mem_iff_getElem?.1 hy
  have hlt : i < (rwC f a (c :: p)).length := (List.getElem?_eq_some_iff.1 hi).1
  rw [rwC_len] at hlt
  rw [rwC_at f a (c :: p) i (by omega)] at hi
  have := lo2 i hlt (by omega)
  have := Option.some.inj hi
  omega
/-- The state behind a text. -/
theorem run_fuzzy (a : List UInt8) (ed : Nat) : ∀ (l p : List UInt8), l.foldl (st2 (nxF a ed)) (nz (trm (ed + 1) 0 (rwC (ed + 1) a p))) = nz (trm (ed + 1) 0 (rwC (ed + 1) a (l.reverse ++ p))) := by
  intro l
  induction l with
  | nil => intro p; rfl
  | cons c l ih =>
    intro p
    rw [List.foldl_cons, List.reverse_cons, List.append_assoc]
    have e : st2 (nxF a ed) (nz (trm (ed + 1) 0 (rwC (ed + 1) a p))) c = nz (trm (ed + 1) 0 (rwC (ed + 1) a (c :: p))) := by
      unfold st2
      cases h : trm (ed + 1) 0 (rwC (ed + 1) a p) with
      | nil => rw [if_pos (show nz [] = [] from rfl), nx_dead h]; rfl
      | cons x row =>
        rw [if_neg (by unfold nz; simp)]
        unfold nxF
        rw [zn_nz]
        show nz (trm (ed + 1) x (ent a x (ed + 1) c.toNat row (lim a x row))) = _
        rw [nx_step h]
    rw [e]
    exact ih (c :: p)
/-- The start. -/
theorem start_row (a : List UInt8) (ed : Nat) : trm (ed + 1) 0 (rwC (ed + 1) a []) = 0 :: List.range (min a.length ed + 1) := by
  have key : rwC (ed + 1) a [] = List.replicate 0 (ed + 1) ++ List.range (min a.length ed + 1) ++ List.replicate (a.length - min a.length ed) (ed + 1) := by
    apply List.ext_getElem?
    intro i
    rw [List.replicate_zero, List.nil_append]
    rcases Nat.lt_or_ge a.length i with hi3 | hi3
    · rw [List.getElem?_eq_none (by rw [rwC_len]; omega), List.getElem?_eq_none (by rw [List.length_append, List.length_range, List.length_replicate]; omega)]
    rw [rwC_at (ed + 1) a [] i hi3, Vd_nil hi3]
    rcases Nat.lt_or_ge i (min a.length ed + 1) with h1 | h1
    · rw [List.getElem?_append_left (by simpa using h1), List.getElem?_range h1]
      congr 1
      omega
    · rw [List.getElem?_append_right (by simpa using h1), List.length_range, List.getElem?_replicate, if_pos (by omega)]
      congr 1
      omega
  rw [key, trm_mid]
  unfold trm
  have hl : rtr (ed + 1) (List.range (min a.length ed + 1)) = List.range (min a.length ed + 1) := by rw [List.range_succ, rtr_snoc, if_neg (by omega)]
  have h0 : led (ed + 1) (List.range (min a.length ed + 1)) = 0 := by rw [List.range_succ_eq_map]; unfold led; rw [List.takeWhile_cons, if_neg (by simp)]; rfl
  rw [hl, if_neg (by rw [List.range_succ]; simp), h0]
  rfl
theorem runF_any (a : List UInt8) (ed : Nat) (l : List UInt8) : runK (nxF a ed) (nz (0 :: List.range (min a.length ed + 1))) l = nz (trm (ed + 1) 0 (rwC (ed + 1) a l.reverse)) := by
  unfold runK
  rw [← start_row, run_fuzzy, List.append_nil]
/-- What the state tells: whether the whole word is near, and how near. -/
def acF (a : List UInt8) (S : List Int) : Bool := match zn S with
  | x :: row => decide (x + row.length = a.length + 1)
  | [] => false
theorem end_row {a p : List UInt8} {f x : Nat} {row : List Nat} (h : trm f 0 (rwC f a p) = x :: row) : (x + row.length = a.length + 1 ↔ lev a.reverse p < f) ∧ (x + row.length = a.length + 1 → row.getLast? = some (lev a.reverse p)) := by
  obtain ⟨z, e, M, y, er, hy⟩ := trm_split h
  have hlen := congrArg List.length e
  rw [rwC_len, List.length_append, List.length_append, List.length_replicate, List.length_replicate] at hlen
  have hR : row.length = M.length + 1 := by rw [er]; simp
  have lst := rwC_at f a p a.length (Nat.le_refl _)
  rw [Vd_all] at lst
  rw [e] at lst
  by_cases hz : z = 0
  · subst hz
    rw [List.replicate_zero, List.append_nil, List.getElem?_append_right (by rw [List.length_replicate]; omega), List.length_replicate, show a.length - x = M.length by omega, er, List.getElem?_append_right (Nat.le_refl _), Nat.sub_self] at lst
    have := Option.some.inj lst
    refine ⟨⟨fun _ => by omega, fun _ => by omega⟩, fun _ => ?_⟩
    rw [er, List.getLast?_append]
    simp
    omega
  · rw [List.getElem?_append_right (by rw [List.length_append, List.length_replicate]; omega), List.getElem?_replicate, if_pos (by rw [List.length_append, List.length_replicate]; omega)] at lst
    have := Option.some.inj lst
    exact ⟨⟨fun _ => by omega, fun _ => by omega⟩, fun _ => by omega⟩
theorem end_dead {a p : List UInt8} {f : Nat} (h : trm f 0 (rwC f a p) = []) : f ≤ lev a.reverse p := by
  have := trm_nil h _ (List.mem_of_getElem? (rwC_at f a p a.length (Nat.le_refl _)))
  rw [Vd_all] at this
  omega
end Go.Proofs.YtacmmclamkhpcaaDoor
