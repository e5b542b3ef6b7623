import Derived.Test.YtacmmclamkhpcaaDoorMka
namespace Go.Proofs.YtacmmclamkhpcaaDoor
open Go.ChangeShapes Go.WideShapes Go.ChangeAt Go.RowKit

/-! What a pattern's state tells: which beginnings of the elements match the text (its last byte first). -/
def NoSS (E : List Int) : Prop := ∀ i : Nat, E[i]? = some 257 → E[i + 1]? ≠ some 257
def wm0 (E : List Int) : Nat → Bool
  | 0 => true
  | i + 1 => decide (E[i]? = some 257) && wm0 E i
def wmA (E : List Int) (c : UInt8) (f : Nat → Bool) : Nat → Bool
  | 0 => false
  | i + 1 => if E[i]? = some 257 then wmA E c f i || f (i + 1) else decide (E[i]? = some 256 ∨ E[i]? = some (c.toNat : Int)) && f i
def wm (E : List Int) : List UInt8 → Nat → Bool
  | [] => wm0 E
  | c :: p => wmA E c (wm E p)
theorem wm_z (E : List Int) : wm E [] 0 = true := rfl
theorem wm_s (E : List Int) (i : Nat) : wm E [] (i + 1) = (decide (E[i]? = some 257) && wm E [] i) := rfl
theorem wm_cz (E : List Int) (c : UInt8) (p : List UInt8) : wm E (c :: p) 0 = false := rfl
theorem wm_cs (E : List Int) (c : UInt8) (p : List UInt8) (i : Nat) : wm E (c :: p) (i + 1) = if E[i]? = some 257 then wm E (c :: p) i || wm E p (i + 1) else decide (E[i]? = some 256 ∨ E[i]? = some (c.toNat : Int)) && wm E p i := rfl
theorem wm_le {E : List Int} {p : List UInt8} {i : Nat} (h : wm E p i = true) : i ≤ E.length := by
  cases i with
  | zero => exact Nat.zero_le _
  | succ i =>
    apply Nat.lt_of_not_le
    intro hle
    have hn : E[i]? = none := List.getElem?_eq_none (by omega)
    cases p with
    | nil => rw [wm_s, hn] at h; simp at h
    | cons c p => rw [wm_cs, hn] at h; simp at h
theorem not_star {b : Nat} (hb : b < 256) {e : Option Int} (h : e = some 256 ∨ e = some (b : Int)) : e ≠ some 257 := by
  intro h2
  rcases h with h | h
  · rw [h2] at h; cases h
  · rw [h2] at h
    have := Option.some.inj h
    omega
/-! The list that grows. -/
structure Gw (E : List Int) (m : Nat) (L : List Nat) : Prop where
  rise : Rise L
  full : ∀ i y, m ≤ i → L.getLast? = some y → i ≤ y → i ∈ L
  shut : ∀ x ∈ L, E[x]? = some 257 → x + 1 ∈ L
theorem last_app (L : List Nat) (a : Nat) : (L ++ [a]).getLast? = some a := by simp
theorem last_app2 (L : List Nat) (a b : Nat) : (L ++ [a, b]).getLast? = some b := by simp
theorem gw_rch {E : List Int} {m a : Nat} {L : List Nat} (hN : NoSS E) (h : Gw E m L) (hm : m ≤ a) : Gw E a (rch E L a) ∧ ∀ x, x ∈ rch E L a ↔ x ∈ L ∨ x = a ∨ (x = a + 1 ∧ E[a]? = some 257) := by
  by_cases hle : ∃ y, L.getLast? = some y ∧ a ≤ y
  · obtain ⟨y, hy, hay⟩ := hle
    rw [rch_le hy hay]
    have hin := h.full a y hm hy hay
    refine ⟨⟨h.rise, fun i z hi hz hiz => h.full i z (by omega) hz hiz, h.shut⟩, fun x => ⟨.inl, ?_⟩⟩
    rintro (hx | rfl | ⟨rfl, hs⟩)
    · exact hx
    · exact hin
    · exact h.shut a hin hs
  · have hr : rch E L a = rchA E L a := by
      cases hL : L.getLast? with
      | none =>
        have : L = [] := List.getLast?_eq_none_iff.1 hL
        subst this
        exact rch_nil
      | some y => exact rch_gt hL (fun hay => hle ⟨y, hL, hay⟩)
    have hrise := rise_rch (E := E) (i := a) h.rise
    rw [hr] at hrise ⊢
    unfold rchA at hrise ⊢
    by_cases hs : E[a]? = some 257
    · rw [if_pos hs] at hrise ⊢
      refine ⟨⟨hrise, fun i z hi hz hiz => ?_, fun x hx hxs => ?_⟩, fun x => ?_⟩
      · rw [last_app2] at hz
        have := Option.some.inj hz
        have : i = a ∨ i = a + 1 := by omega
        rcases this with rfl | rfl <;> simp
      · rcases List.mem_append.1 hx with hx | hx
        · exact List.mem_append_left _ (h.shut x hx hxs)
        · simp only [List.mem_cons, List.not_mem_nil, or_false] at hx
          rcases hx with rfl | rfl
          · simp
          · exact absurd hxs (hN a hs)
      · simp [hs]
    · rw [if_neg hs] at hrise ⊢
      refine ⟨⟨hrise, fun i z hi hz hiz => ?_, fun x hx hxs => ?_⟩, fun x => ?_⟩
      · rw [last_app] at hz
        have := Option.some.inj hz
        have : i = a := by omega
        subst this
        simp
      · rcases List.mem_append.1 hx with hx | hx
        · exact List.mem_append_left _ (h.shut x hx hxs)
        · simp only [List.mem_cons, List.not_mem_nil, or_false] at hx
          subst hx
          exact absurd hxs hs
      · simp [hs]
/-- What the state i leads to by the byte b. -/
def led3 (E : List Int) (b i x : Nat) : Prop := (0 < i ∧ E[i - 1]? = some 257 ∧ x = i) ∨ ((E[i]? = some 256 ∨ E[i]? = some (b : Int)) ∧ (x = i + 1 ∨ (x = i + 2 ∧ E[i + 1]? = some 257)))
theorem gw_nxW {E : List Int} {b i m : Nat} {L : List Nat} (hN : NoSS E) (h : Gw E m L) (hm : m ≤ i) : Gw E (i + 1) (nxW E b L i) ∧ ∀ x, x ∈ nxW E b L i ↔ x ∈ L ∨ led3 E b i x := by
  have up : ∀ {q : Nat} {M : List Nat}, Gw E q M → q ≤ i + 1 → Gw E (i + 1) M := fun g hq => ⟨g.rise, fun j y hj hy hjy => g.full j y (by omega) hy hjy, g.shut⟩
  unfold nxW led3
  by_cases h1 : 0 < i ∧ E[i - 1]? = some 257
  · rw [if_pos h1]
    obtain ⟨g1, m1⟩ := gw_rch hN h hm
    have hns : E[i]? ≠ some 257 := by
      have := hN (i - 1) h1.2
      rwa [show i - 1 + 1 = i by omega] at this
    by_cases h2 : E[i]? = some 256 ∨ E[i]? = some (b : Int)
    · simp only [if_pos h2]
      obtain ⟨g2, m2⟩ := gw_rch hN g1 (Nat.le_succ i)
      refine ⟨g2, fun x => ?_⟩
      rw [m2, m1]
      constructor
      · rintro ((hx | rfl | ⟨rfl, hs⟩) | rfl | ⟨rfl, hs⟩)
        · exact .inl hx
        · exact .inr (.inl ⟨h1.1, h1.2, rfl⟩)
        · exact absurd hs hns
        · exact .inr (.inr ⟨h2, .inl rfl⟩)
        · exact .inr (.inr ⟨h2, .inr ⟨rfl, hs⟩⟩)
      · rintro (hx | ⟨_, _, rfl⟩ | ⟨_, rfl | ⟨rfl, hs⟩⟩)
        · exact .inl (.inl hx)
        · exact .inl (.inr (.inl rfl))
        · exact .inr (.inl rfl)
        · exact .inr (.inr ⟨rfl, hs⟩)
    · simp only [if_neg h2]
      refine ⟨up g1 (by omega), fun x => ?_⟩
      rw [m1]
      constructor
      · rintro (hx | rfl | ⟨rfl, hs⟩)
        · exact .inl hx
        · exact .inr (.inl ⟨h1.1, h1.2, rfl⟩)
        · exact absurd hs hns
      · rintro (hx | ⟨_, _, rfl⟩ | ⟨h3, _⟩)
        · exact .inl hx
        · exact .inr (.inl rfl)
        · exact absurd h3 h2
  · rw [if_neg h1]
    by_cases h2 : E[i]? = some 256 ∨ E[i]? = some (b : Int)
    · simp only [if_pos h2]
      obtain ⟨g2, m2⟩ := gw_rch hN h (Nat.le_succ_of_le hm)
      refine ⟨g2, fun x => ?_⟩
      rw [m2]
      constructor
      · rintro (hx | rfl | ⟨rfl, hs⟩)
        · exact .inl hx
        · exact .inr (.inr ⟨h2, .inl rfl⟩)
        · exact .inr (.inr ⟨h2, .inr ⟨rfl, hs⟩⟩)
      · rintro (hx | ⟨h3, h4, rfl⟩ | ⟨_, rfl | ⟨rfl, hs⟩⟩)
        · exact .inl hx
        · exact absurd ⟨h3, h4⟩ h1
        · exact .inr (.inl rfl)
        · exact .inr (.inr ⟨rfl, hs⟩)
    · simp only [if_neg h2]
      refine ⟨up h (by omega), fun x => ⟨.inl, ?_⟩⟩
      rintro (hx | ⟨h3, h4, rfl⟩ | ⟨h3, _⟩)
      · exact hx
      · exact absurd ⟨h3, h4⟩ h1
      · exact absurd h3 h2
theorem gw_fold {E : List Int} {b : Nat} (hN : NoSS E) : ∀ (S : List Nat) (m : Nat) (L : List Nat), Rise S → (∀ x ∈ S, m ≤ x) → Gw E m L → Rise (S.foldl (nxW E b) L) ∧ ∀ x, x ∈ S.foldl (nxW E b) L ↔ x ∈ L ∨ ∃ i ∈ S, led3 E b i x := by
  intro S
  induction S with
  | nil => intro m L _ _ h; exact ⟨h.rise, fun x => by simp⟩
  | cons i S ih =>
    intro m L hr hm h
    obtain ⟨g, mm⟩ := gw_nxW (b := b) hN h (hm i (by simp))
    have hr2 := List.pairwise_cons.1 hr
    obtain ⟨r1, m1⟩ := ih (i + 1) (nxW E b L i) hr2.2 (fun x hx => hr2.1 x hx) g
    refine ⟨r1, fun x => ?_⟩
    rw [List.foldl_cons, m1, mm]
    simp only [List.mem_cons, exists_eq_or_imp]
    constructor
    · rintro ((h1 | h1) | h1)
      · exact .inl h1
      · exact .inr (.inl h1)
      · exact .inr (.inr h1)
    · rintro (h1 | h1 | h1)
      · exact .inl (.inl h1)
      · exact .inl (.inr h1)
      · exact .inr h1
/-- The state S tells just which beginnings match. -/
structure SwT (E : List Int) (p : List UInt8) (S : List Nat) : Prop where
  rise : Rise S
  mem : ∀ x, x ∈ S ↔ wm E p x = true
theorem swt_start {E : List Int} (hN : NoSS E) : SwT E [] (rch E [] 0) := by
  obtain ⟨g, m⟩ := gw_rch (m := 0) (a := 0) (L := []) hN ⟨List.Pairwise.nil, fun i y _ h => (by cases h), fun x h => (by cases h)⟩ (Nat.le_refl 0)
  refine ⟨g.rise, fun x => ?_⟩
  rw [m]
  cases x with
  | zero => simp [wm_z]
  | succ x =>
    rw [wm_s]
    cases x with
    | zero => simp [wm_z]
    | succ x =>
      rw [wm_s]
      constructor
      · rintro (h | h | ⟨h, _⟩)
        · cases h
        · omega
        · omega
      · intro h
        exfalso
        simp only [Bool.and_eq_true, decide_eq_true_eq] at h
        exact hN x h.2.1 h.1
theorem swt_next {E : List Int} (hN : NoSS E) {p : List UInt8} {S : List Nat} (c : UInt8) (h : SwT E p S) : SwT E (c :: p) (nxt E c.toNat S) := by
  obtain ⟨r, m⟩ := gw_fold (b := c.toNat) hN S 0 [] h.rise (fun x _ => Nat.zero_le x) ⟨List.Pairwise.nil, fun i y _ h => (by cases h), fun x h => (by cases h)⟩
  refine ⟨r, fun x => ?_⟩
  show x ∈ S.foldl (nxW E c.toNat) [] ↔ _
  rw [m]
  have hb : c.toNat < 256 := c.toNat_lt
  have key : (x ∈ ([] : List Nat) ∨ ∃ i ∈ S, led3 E c.toNat i x) ↔ ∃ i, wm E p i = true ∧ led3 E c.toNat i x := by
    constructor
    · rintro (h1 | ⟨i, hi, h2⟩)
      · cases h1
      · exact ⟨i, (h.mem i).1 hi, h2⟩
    · rintro ⟨i, hi, h2⟩
      exact .inr ⟨i, (h.mem i).2 hi, h2⟩
  rw [key]
  cases x with
  | zero =>
    rw [wm_cz]
    constructor
    · rintro ⟨i, _, ⟨h1, _, h2⟩ | ⟨_, h2 | ⟨h2, _⟩⟩⟩ <;> omega
    · intro h; cases h
  | succ x =>
    rw [wm_cs]
    by_cases hs : E[x]? = some 257
    · rw [if_pos hs]
      simp only [Bool.or_eq_true]
      constructor
      · rintro ⟨i, hi, ⟨h1, h2, h3⟩ | ⟨h2, h3 | ⟨h3, h4⟩⟩⟩
        · subst h3; exact .inr hi
        · obtain rfl : x = i := by omega
          exact absurd hs (not_star hb h2)
        · obtain rfl : x = i + 1 := by omega
          left
          rw [wm_cs, if_neg (not_star hb h2)]
          simp only [Bool.and_eq_true, decide_eq_true_eq]
          exact ⟨h2, hi⟩
      · rintro (h1 | h1)
        · cases x with
          | zero => rw [wm_cz] at h1; cases h1
          | succ x =>
            have hns : E[x]? ≠ some 257 := fun e => hN x e hs
            rw [wm_cs, if_neg hns] at h1
            simp only [Bool.and_eq_true, decide_eq_true_eq] at h1
            exact ⟨x, h1.2, .inr ⟨h1.1, .inr ⟨rfl, hs⟩⟩⟩
        · exact ⟨x + 1, h1, .inl ⟨by omega, hs, rfl⟩⟩
    · rw [if_neg hs]
      simp only [Bool.and_eq_true, decide_eq_true_eq]
      constructor
      · rintro ⟨i, hi, ⟨h1, h2, h3⟩ | ⟨h2, h3 | ⟨h3, h4⟩⟩⟩
        · subst h3; exact absurd h2 hs
        · obtain rfl : x = i := by omega
          exact ⟨h2, hi⟩
        · obtain rfl : x = i + 1 := by omega
          exact absurd h4 hs
      · rintro ⟨h1, h2⟩
        exact ⟨x, h2, .inr ⟨h1, .inl rfl⟩⟩
theorem wm_dead {E : List Int} {p : List UInt8} (c : UInt8) (h : ∀ x, wm E p x = false) : ∀ x, wm E (c :: p) x = false := by
  intro x
  induction x with
  | zero => rfl
  | succ x ih => rw [wm_cs, ih, h, h]; simp
theorem run_wild {E : List Int} (hN : NoSS E) : ∀ (l p : List UInt8) (S : List Nat), SwT E p S → ∃ T, l.foldl (st2 (nxWk E)) (nz S) = nz T ∧ SwT E (l.reverse ++ p) T := by
  intro l
  induction l with
  | nil => intro p S h; exact ⟨S, rfl, h⟩
  | cons c l ih =>
    intro p S h
    rw [List.foldl_cons, List.reverse_cons, List.append_assoc]
    by_cases hS : S = []
    · subst hS
      have hd : ∀ x, wm E p x = false := fun x => by
        cases hx : wm E p x with
        | false => rfl
        | true => exact absurd ((h.mem x).2 hx) (by simp)
      have e : st2 (nxWk E) (nz []) c = nz [] := rfl
      rw [e]
      exact ih (c :: p) [] ⟨List.Pairwise.nil, fun x => by rw [wm_dead c hd]; simp⟩
    · have e : st2 (nxWk E) (nz S) c = nz (nxt E c.toNat S) := by
        unfold st2
        rw [if_neg (by intro h2; apply hS; have := congrArg List.length h2; rw [nz_len] at this; exact List.length_eq_zero_iff.1 this)]
        unfold nxWk
        rw [zn_nz]
      rw [e]
      exact ih (c :: p) _ (swt_next hN c h)
theorem last_in {S : List Nat} {n : Nat} (h : Rise S) (hle : ∀ x ∈ S, x ≤ n) : S.getLast? = some n ↔ n ∈ S := by
  constructor
  · intro e; exact List.mem_of_getLast? e
  · intro hin
    cases hL : S.getLast? with
    | none => rw [List.getLast?_eq_none_iff.1 hL] at hin; cases hin
    | some y =>
      have h1 := rise_last h hL n hin
      have h2 := hle y (List.mem_of_getLast? hL)
      rw [show y = n by omega]
theorem accW_any {E : List Int} (hN : NoSS E) (s : List UInt8) : accK (nxWk E) (acW E) (nz (rch E [] 0)) s = wm E s.reverse E.length := by
  obtain ⟨T, hT, hS⟩ := run_wild hN s [] _ (swt_start hN)
  rw [List.append_nil] at hS
  unfold accK runK
  rw [hT]
  unfold acW
  rw [zn_nz]
  have h1 := last_in hS.rise (fun x hx => wm_le ((hS.mem x).1 hx))
  rw [hS.mem] at h1
  cases hw : wm E s.reverse E.length with
  | true =>
    have h2 := h1.2 hw
    have hne : nz T ≠ [] := by
      intro e
      have := congrArg List.length e
      rw [nz_len] at this
      rw [List.length_eq_zero_iff.1 this] at h2
      cases h2
    rw [decide_eq_true h2, decide_eq_true hne]
    rfl
  | false =>
    have h2 : ¬ T.getLast? = some E.length := fun e => by rw [h1.1 e] at hw; cases hw
    rw [decide_eq_false h2, Bool.and_false]
theorem alvW_any {E : List Int} (hN : NoSS E) (s : List UInt8) : alvK (nxWk E) (nz (rch E [] 0)) s = true ↔ ∃ x, wm E s.reverse x = true := by
  obtain ⟨T, hT, hS⟩ := run_wild hN s [] _ (swt_start hN)
  rw [List.append_nil] at hS
  unfold alvK runK
  rw [hT, nz_len, decide_eq_true_eq]
  constructor
  · intro h
    obtain ⟨x, hx⟩ := List.exists_mem_of_length_pos h
    exact ⟨x, (hS.mem x).1 hx⟩
  · rintro ⟨x, hx⟩
    exact List.length_pos_iff.2 (fun e => by have := (hS.mem x).2 hx; rw [e] at this; cases this)
end Go.Proofs.YtacmmclamkhpcaaDoor
