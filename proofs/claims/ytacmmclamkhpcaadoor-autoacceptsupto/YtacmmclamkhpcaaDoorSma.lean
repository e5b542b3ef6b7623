import Derived.Test.YtacmmclamkhpcaaDoorMka
namespace Go.Proofs.YtacmmclamkhpcaaDoor
open Go.ChangeShapes Go.WideShapes Go.ChangeAt Go.RowKit

/-! The order of texts, and what a span's state tells. -/
def blS (x y : List UInt8) : Bool := Op.bytesLess x y
theorem blS_nil (x : List UInt8) : blS x [] = false := by unfold blS; cases x <;> rfl
theorem blS_nc (c : UInt8) (r : List UInt8) : blS [] (c :: r) = true := rfl
theorem blS_cc (c d : UInt8) (r q : List UInt8) : blS (c :: r) (d :: q) = (decide (c < d) || (c == d && blS r q)) := rfl
theorem blS_lt {c d : UInt8} (r q : List UInt8) (h : c.toNat < d.toNat) : blS (c :: r) (d :: q) = true := by
  rw [blS_cc, decide_eq_true (UInt8.lt_iff_toNat_lt.2 h), Bool.true_or]
theorem blS_gt {c d : UInt8} (r q : List UInt8) (h : d.toNat < c.toNat) : blS (c :: r) (d :: q) = false := by
  rw [blS_cc, decide_eq_false (fun e => by rw [UInt8.lt_iff_toNat_lt] at e; omega)]
  have : (c == d) = false := by rw [beq_eq_false_iff_ne]; intro e; rw [e] at h; omega
  rw [this]; rfl
theorem blS_app (u x y : List UInt8) : blS (u ++ x) (u ++ y) = blS x y := by
  induction u with
  | nil => rfl
  | cons c u ih => rw [List.cons_append, List.cons_append, blS_cc, decide_eq_false (fun e => by rw [UInt8.lt_iff_toNat_lt] at e; omega), ih]; simp
theorem blS_pre (u x : List UInt8) : blS (u ++ x) u = false := by
  have := blS_app u x []
  rw [List.append_nil, blS_nil] at this
  exact this
theorem blS_ext (u : List UInt8) (c : UInt8) (r : List UInt8) : blS u (u ++ c :: r) = true := by
  have := blS_app u [] (c :: r)
  rw [List.append_nil] at this
  rw [this]; rfl
theorem blS_trans : ∀ {x y z : List UInt8}, blS x y = true → blS y z = true → blS x z = true
  | _, [], _, h, _ => by rw [blS_nil] at h; cases h
  | _, _ :: _, [], _, h => by rw [blS_nil] at h; cases h
  | [], b :: y, c :: z, _, _ => rfl
  | a :: x, b :: y, c :: z, h1, h2 => by
    rw [blS_cc] at h1 h2 ⊢
    simp only [Bool.or_eq_true, decide_eq_true_eq, Bool.and_eq_true, beq_iff_eq] at h1 h2 ⊢
    rcases h1 with h1 | ⟨rfl, h1⟩
    · left
      rcases h2 with h2 | ⟨rfl, h2⟩
      · rw [UInt8.lt_iff_toNat_lt] at h1 h2 ⊢; omega
      · exact h1
    · rcases h2 with h2 | ⟨rfl, h2⟩
      · exact .inl h2
      · exact .inr ⟨rfl, blS_trans h1 h2⟩
/-- How two texts stand to one another. -/
theorem cmp3 : ∀ s t : List UInt8, (∃ r, t = s ++ r) ∨ (∃ c r, s = t ++ c :: r) ∨ (∃ u c r d q, s = u ++ c :: r ∧ t = u ++ d :: q ∧ c.toNat ≠ d.toNat) := by
  intro s
  induction s with
  | nil => intro t; exact .inl ⟨t, rfl⟩
  | cons c s ih =>
    intro t
    cases t with
    | nil => exact .inr (.inl ⟨c, s, rfl⟩)
    | cons d t =>
      by_cases h : c = d
      · subst h
        rcases ih t with ⟨r, rfl⟩ | ⟨e, r, rfl⟩ | ⟨u, e, r, f, q, rfl, rfl, hne⟩
        · exact .inl ⟨r, rfl⟩
        · exact .inr (.inl ⟨e, r, rfl⟩)
        · exact .inr (.inr ⟨c :: u, e, r, f, q, rfl, rfl, hne⟩)
      · exact .inr (.inr ⟨[], c, s, d, t, rfl, rfl, fun e => h (UInt8.toNat_inj.1 e)⟩)
theorem blS_irr (x : List UInt8) : blS x x = false := by have := blS_pre x []; rwa [List.append_nil] at this
theorem blS_asym {x y : List UInt8} (h : blS x y = true) : blS y x = false := by
  cases h2 : blS y x with
  | false => rfl
  | true => have := blS_trans h h2; rw [blS_irr] at this; cases this
theorem blS_total {x y : List UInt8} (h1 : blS x y = false) (h2 : x ≠ y) : blS y x = true := by
  rcases cmp3 x y with ⟨r, rfl⟩ | ⟨c, r, rfl⟩ | ⟨u, c, r, d, q, rfl, rfl, hne⟩
  · cases r with
    | nil => simp at h2
    | cons c r => rw [blS_ext] at h1; cases h1
  · exact blS_ext _ _ _
  · rw [blS_app] at h1 ⊢
    rcases Nat.lt_or_ge c.toNat d.toNat with h | h
    · rw [blS_lt _ _ h] at h1; cases h1
    · exact blS_lt _ _ (by omega)
/-- s begins t. -/
def Pre (s t : List UInt8) : Prop := ∃ r, t = s ++ r
theorem pre_iff (s t : List UInt8) : s.isPrefixOf t = true ↔ Pre s t := by
  rw [List.isPrefixOf_iff_prefix]
  exact ⟨fun ⟨r, h⟩ => ⟨r, h.symm⟩, fun ⟨r, h⟩ => ⟨r, h.symm⟩⟩
theorem pre_len {s t : List UInt8} (h : Pre s t) : s.length ≤ t.length := by obtain ⟨r, rfl⟩ := h; simp
theorem pre_div {u r q : List UInt8} {c d : UInt8} (h : c.toNat ≠ d.toNat) : ¬ Pre (u ++ c :: r) (u ++ d :: q) := by
  rintro ⟨x, e⟩
  rw [List.append_assoc] at e
  have e2 := List.append_cancel_left e
  rw [List.cons_append] at e2
  injection e2 with e3 _
  rw [e3] at h; exact h rfl
theorem pre_cut {s t x : List UInt8} (h : Pre (s ++ x) t) : Pre s t := by
  obtain ⟨r, rfl⟩ := h
  exact ⟨x ++ r, by rw [List.append_assoc]⟩
def posS (o : Bool) (t s : List UInt8) : Int := if o then -1 else if s.isPrefixOf t then (s.length : Int) else -1
theorem pos_open (t s : List UInt8) : posS true t s = -1 := rfl
theorem pos_pre {t s : List UInt8} (h : Pre s t) : posS false t s = (s.length : Int) := by unfold posS; rw [if_neg (by simp), if_pos ((pre_iff s t).2 h)]
theorem pos_not {t s : List UInt8} (h : ¬ Pre s t) : posS false t s = -1 := by unfold posS; rw [if_neg (by simp), if_neg (fun e => h ((pre_iff s t).1 e))]
def LoA (o : Bool) (t s : List UInt8) : Prop := o = true ∨ Pre s t ∨ blS t s = true
def HiA (O I : Bool) (T s : List UInt8) : Prop := O = true ∨ blS s T = true ∨ (s = T ∧ I = true)
theorem bsd_aside (l : List UInt8) (b : Nat) : bsd l (-1) b = (-1, 0) := by unfold bsd; rw [if_pos rfl]
theorem bsd_at (l s : List UInt8) (b : Nat) : bsd l (s.length : Int) b = match l[s.length]? with
    | none => (-1, 1)
    | some c => if c.toNat < b then (-1, 1) else if b < c.toNat then (-1, -1) else ((s.length : Int) + 1, 0) := by
  unfold bsd
  rw [if_neg (by omega), Int.toNat_natCast]
  rfl
theorem bsd_end (s : List UInt8) (b : Nat) : bsd s (s.length : Int) b = (-1, 1) := by rw [bsd_at, List.getElem?_eq_none (Nat.le_refl _)]
theorem bsd_mid (s : List UInt8) (d : UInt8) (q : List UInt8) (b : Nat) : bsd (s ++ d :: q) (s.length : Int) b = if d.toNat < b then (-1, 1) else if b < d.toNat then (-1, -1) else ((s.length : Int) + 1, 0) := by
  rw [bsd_at, List.getElem?_append_right (Nat.le_refl _), Nat.sub_self]; rfl
theorem lo_step (o : Bool) (t s : List UInt8) (c : UInt8) (h : LoA o t s) : ((bsd t (posS o t s) c.toNat).2 < 0 ↔ ¬ LoA o t (s ++ [c])) ∧ (LoA o t (s ++ [c]) → (bsd t (posS o t s) c.toNat).1 = posS o t (s ++ [c])) := by
  cases o with
  | true =>
    rw [pos_open, pos_open, bsd_aside]
    exact ⟨⟨fun h => by simp at h, fun h => absurd (.inl rfl) h⟩, fun _ => rfl⟩
  | false =>
    by_cases hp : Pre s t
    · rw [pos_pre hp]
      obtain ⟨r, rfl⟩ := hp
      cases r with
      | nil =>
        rw [List.append_nil, bsd_end]
        have hb : blS s (s ++ [c]) = true := blS_ext s c []
        have hn : ¬ Pre (s ++ [c]) s := fun e => by have := pre_len e; simp at this; omega
        exact ⟨⟨fun h => by simp at h, fun h => absurd (.inr (.inr hb)) h⟩, fun _ => by rw [pos_not hn]⟩
      | cons d q =>
        rw [bsd_mid]
        by_cases h1 : d.toNat < c.toNat
        · rw [if_pos h1]
          have hb : blS (s ++ d :: q) (s ++ [c]) = true := by rw [blS_app]; exact blS_lt _ _ h1
          have hn : ¬ Pre (s ++ [c]) (s ++ d :: q) := pre_div (by omega)
          exact ⟨⟨fun h => by simp at h, fun h => absurd (.inr (.inr hb)) h⟩, fun _ => by rw [pos_not hn]⟩
        · rw [if_neg h1]
          by_cases h2 : c.toNat < d.toNat
          · rw [if_pos h2]
            have hL : ¬ LoA false (s ++ d :: q) (s ++ [c]) := by
              rintro (h | h | h)
              · cases h
              · exact pre_div (by omega) h
              · rw [blS_app, blS_gt _ _ h2] at h; cases h
            exact ⟨⟨fun _ => hL, fun _ => by simp⟩, fun h => absurd h hL⟩
          · rw [if_neg h2]
            obtain rfl : c = d := UInt8.toNat_inj.1 (by omega)
            have hp2 : Pre (s ++ [c]) (s ++ c :: q) := ⟨q, by simp⟩
            exact ⟨⟨fun h => by simp at h, fun h => absurd (.inr (.inl hp2)) h⟩, fun _ => by rw [pos_pre hp2]; simp⟩
    · rw [pos_not hp, bsd_aside]
      have hb : blS t s = true := by
        rcases h with h | h | h
        · cases h
        · exact absurd h hp
        · exact h
      have hb2 : blS t (s ++ [c]) = true := blS_trans hb (blS_ext s c [])
      have hn : ¬ Pre (s ++ [c]) t := fun e => hp (pre_cut e)
      exact ⟨⟨fun h => by simp at h, fun h => absurd (.inr (.inr hb2)) h⟩, fun _ => by rw [pos_not hn]⟩
theorem hi_step (O I : Bool) (T s : List UInt8) (c : UInt8) (h : HiA O I T s) : (HiA O I T (s ++ [c]) ↔ ¬ 0 < (bsd T (posS O T s) c.toNat).2 ∧ ¬ ((bsd T (posS O T s) c.toNat).1 = (T.length : Int) ∧ I = false)) ∧ (HiA O I T (s ++ [c]) → (bsd T (posS O T s) c.toNat).1 = posS O T (s ++ [c])) := by
  cases O with
  | true =>
    rw [pos_open, pos_open, bsd_aside]
    exact ⟨⟨fun _ => ⟨by simp, fun h => by have := h.1; first | omega | (simp at this; done) | (simp at this; omega)⟩, fun _ => .inl rfl⟩, fun _ => rfl⟩
  | false =>
    by_cases hp : Pre s T
    · rw [pos_pre hp]
      obtain ⟨r, rfl⟩ := hp
      cases r with
      | nil =>
        rw [List.append_nil, bsd_end]
        have hn : ¬ HiA false I s (s ++ [c]) := by
          rintro (h | h | ⟨h, _⟩)
          · cases h
          · rw [blS_pre] at h; cases h
          · simp at h
        exact ⟨⟨fun h => absurd h hn, fun h => absurd (by simp) h.1⟩, fun h => absurd h hn⟩
      | cons d q =>
        rw [bsd_mid]
        by_cases h1 : d.toNat < c.toNat
        · rw [if_pos h1]
          have hn : ¬ HiA false I (s ++ d :: q) (s ++ [c]) := by
            rintro (h | h | ⟨h, _⟩)
            · cases h
            · rw [blS_app, blS_gt _ _ h1] at h; cases h
            · have e := List.append_cancel_left h
              injection e with e1 _
              rw [e1] at h1; omega
          exact ⟨⟨fun h => absurd h hn, fun h => absurd (by simp) h.1⟩, fun h => absurd h hn⟩
        · rw [if_neg h1]
          by_cases h2 : c.toNat < d.toNat
          · rw [if_pos h2]
            have hy : HiA false I (s ++ d :: q) (s ++ [c]) := .inr (.inl (by rw [blS_app]; exact blS_lt _ _ h2))
            have hn : ¬ Pre (s ++ [c]) (s ++ d :: q) := pre_div (by omega)
            exact ⟨⟨fun _ => ⟨by simp, fun h => by have := h.1; first | omega | (simp at this; done) | (simp at this; omega)⟩, fun _ => hy⟩, fun _ => by rw [pos_not hn]⟩
          · rw [if_neg h2]
            obtain rfl : c = d := UInt8.toNat_inj.1 (by omega)
            have hp2 : Pre (s ++ [c]) (s ++ c :: q) := ⟨q, by simp⟩
            refine ⟨?_, fun _ => by rw [pos_pre hp2]; simp⟩
            cases q with
            | nil =>
              constructor
              · rintro (h | h | ⟨_, h⟩)
                · cases h
                · rw [blS_irr] at h; cases h
                · exact ⟨by simp, fun h3 => by rw [h] at h3; cases h3.2⟩
              · rintro ⟨_, h3⟩
                refine .inr (.inr ⟨rfl, ?_⟩)
                cases I with
                | true => rfl
                | false => exact absurd ⟨by simp, rfl⟩ h3
            | cons e q =>
              have hy : HiA false I (s ++ c :: e :: q) (s ++ [c]) := .inr (.inl (by rw [blS_app]; have := blS_ext [c] e q; exact this))
              exact ⟨fun _ => ⟨by simp, fun h => by have := h.1; first | omega | (simp at this; done) | (simp at this; omega)⟩, fun _ => hy⟩
    · rw [pos_not hp, bsd_aside]
      have hb : blS s T = true := by
        rcases h with h | h | ⟨h, _⟩
        · cases h
        · exact h
        · exact absurd ⟨[], by rw [h, List.append_nil]⟩ hp
      have hb2 : blS (s ++ [c]) T = true := by
        rcases cmp3 s T with h1 | ⟨e, r, rfl⟩ | ⟨u, e, r, d, q, rfl, rfl, hne⟩
        · exact absurd h1 hp
        · rw [blS_pre] at hb; cases hb
        · rw [blS_app] at hb
          rw [List.append_assoc, blS_app]
          rcases Nat.lt_or_ge e.toNat d.toNat with h | h
          · exact blS_lt _ _ h
          · rw [blS_gt _ _ (by omega)] at hb; cases hb
      have hn : ¬ Pre (s ++ [c]) T := fun e => hp (pre_cut e)
      exact ⟨⟨fun _ => ⟨by simp, fun h => by have := h.1; first | omega | (simp at this; done) | (simp at this; omega)⟩, fun _ => .inr (.inl hb2)⟩, fun _ => by rw [pos_not hn]⟩
theorem loA_cut {o : Bool} {t s x : List UInt8} (h : LoA o t (s ++ x)) : LoA o t s := by
  rcases h with h | h | h
  · exact .inl h
  · exact .inr (.inl (pre_cut h))
  · rcases cmp3 s t with h1 | ⟨c, r, rfl⟩ | ⟨u, c, r, d, q, rfl, rfl, hne⟩
    · exact .inr (.inl h1)
    · exact .inr (.inr (blS_ext _ _ _))
    · rw [List.append_assoc, blS_app, List.cons_append] at h
      refine .inr (.inr ?_)
      rw [blS_app]
      rcases Nat.lt_or_ge d.toNat c.toNat with h3 | h3
      · exact blS_lt _ _ h3
      · rw [blS_gt _ _ (by omega)] at h; cases h
theorem hiA_down {O I : Bool} {T s x : List UInt8} (h : HiA O I T s) (hx : x = s ∨ blS x s = true) : HiA O I T x := by
  rcases hx with rfl | hx
  · exact h
  · rcases h with h | h | ⟨rfl, _⟩
    · exact .inl h
    · exact .inr (.inl (blS_trans hx h))
    · exact .inr (.inl hx)
theorem le_app (s x : List UInt8) : s = s ++ x ∨ blS s (s ++ x) = true := by
  cases x with
  | nil => exact .inl (List.append_nil s).symm
  | cons c r => exact .inr (blS_ext s c r)
theorem hiA_cut {O I : Bool} {T s x : List UInt8} (h : HiA O I T (s ++ x)) : HiA O I T s := hiA_down h (le_app s x)
theorem run_span (o : Bool) (t : List UInt8) (O I : Bool) (T : List UInt8) : ∀ (l s : List UInt8), LoA o t s → HiA O I T s → (LoA o t (s ++ l) ∧ HiA O I T (s ++ l) → l.foldl (st2 (nxS t T I)) [posS o t s, posS O T s] = [posS o t (s ++ l), posS O T (s ++ l)]) ∧ (¬ (LoA o t (s ++ l) ∧ HiA O I T (s ++ l)) → l.foldl (st2 (nxS t T I)) [posS o t s, posS O T s] = []) := by
  intro l
  induction l with
  | nil => intro s h1 h2; rw [List.append_nil]; exact ⟨fun _ => rfl, fun h => absurd ⟨h1, h2⟩ h⟩
  | cons c l ih =>
    intro s h1 h2
    obtain ⟨l1, l2⟩ := lo_step o t s c h1
    obtain ⟨k1, k2⟩ := hi_step O I T s c h2
    have e : s ++ c :: l = (s ++ [c]) ++ l := by simp
    rw [List.foldl_cons, e]
    have es : st2 (nxS t T I) [posS o t s, posS O T s] c = if (bsd t (posS o t s) c.toNat).2 < 0 ∨ 0 < (bsd T (posS O T s) c.toNat).2 then [] else if (bsd T (posS O T s) c.toNat).1 = (T.length : Int) ∧ I = false then [] else [(bsd t (posS o t s) c.toNat).1, (bsd T (posS O T s) c.toNat).1] := by
      unfold st2
      rw [if_neg (by simp)]
      rfl
    by_cases hA : LoA o t (s ++ [c]) ∧ HiA O I T (s ++ [c])
    · have hk := k1.1 hA.2
      rw [es, if_neg (by rintro (h | h); exact l1.1 h hA.1; exact hk.1 h), if_neg hk.2, l2 hA.1, k2 hA.2]
      exact ih (s ++ [c]) hA.1 hA.2
    · have hd : st2 (nxS t T I) [posS o t s, posS O T s] c = [] := by
        rw [es]
        by_cases hlo : LoA o t (s ++ [c])
        · have hhi : ¬ HiA O I T (s ++ [c]) := fun h => hA ⟨hlo, h⟩
          by_cases h0 : 0 < (bsd T (posS O T s) c.toNat).2
          · rw [if_pos (.inr h0)]
          · have h3 : (bsd T (posS O T s) c.toNat).1 = (T.length : Int) ∧ I = false := Classical.byContradiction (fun h4 => hhi (k1.2 ⟨h0, h4⟩))
            rw [if_pos h3]
            split <;> rfl
        · rw [if_pos (.inl (l1.2 hlo))]
      rw [hd, st2_dead]
      exact ⟨fun h => absurd ⟨loA_cut h.1, hiA_cut h.2⟩ hA, fun _ => rfl⟩
/-! What the document says of a span. -/
def mLo (o i : Bool) (t s : List UInt8) : Bool := o || blS t s || (decide (s = t) && i)
def mHi (O I : Bool) (T s : List UInt8) : Bool := O || blS s T || (decide (s = T) && I)
theorem mHi_iff (O I : Bool) (T s : List UInt8) : mHi O I T s = true ↔ HiA O I T s := by
  unfold mHi HiA
  simp [or_assoc]
theorem mLo_iff (o i : Bool) (t s : List UInt8) : mLo o i t s = true ↔ o = true ∨ blS t s = true ∨ (s = t ∧ i = true) := by
  unfold mLo
  simp [or_assoc]
def mAcc (o i : Bool) (t : List UInt8) (O I : Bool) (T s : List UInt8) : Bool := mLo o i t s && mHi O I T s
def mLeast (o i : Bool) (t : List UInt8) : List UInt8 := t ++ (if o = false ∧ i = false then [0] else [])
def mEmp (o i : Bool) (t : List UInt8) (O I : Bool) (T : List UInt8) : Bool := !mHi O I T (mLeast o i t)
theorem least_le {o i : Bool} {t s : List UInt8} (ho : o = true → t = [] ∧ i = false) (h : mLo o i t s = true) : mLeast o i t = s ∨ blS (mLeast o i t) s = true := by
  rw [mLo_iff] at h
  unfold mLeast
  cases o with
  | true =>
    obtain ⟨rfl, rfl⟩ := ho rfl
    rw [if_neg (by simp)]
    cases s with
    | nil => exact .inl rfl
    | cons c r => exact .inr rfl
  | false =>
    cases i with
    | true =>
      rw [if_neg (by simp), List.append_nil]
      rcases h with h | h | ⟨h, _⟩
      · cases h
      · exact .inr h
      · exact .inl h.symm
    | false =>
      rw [if_pos ⟨rfl, rfl⟩]
      have hb : blS t s = true := by
        rcases h with h | h | ⟨_, h⟩
        · cases h
        · exact h
        · cases h
      rcases cmp3 t s with ⟨r, rfl⟩ | ⟨c, r, rfl⟩ | ⟨u, c, r, d, q, rfl, rfl, hne⟩
      · cases r with
        | nil => rw [List.append_nil, blS_irr] at hb; cases hb
        | cons c r =>
          rw [blS_app]
          by_cases hc : c.toNat = 0
          · obtain rfl : c = 0 := UInt8.toNat_inj.1 (by rw [hc]; rfl)
            cases r with
            | nil => exact .inl rfl
            | cons d q => exact .inr (blS_ext [0] d q)
          · exact .inr (blS_lt _ _ (by show (0 : UInt8).toNat < c.toNat; have : (0 : UInt8).toNat = 0 := rfl; omega))
      · rw [blS_pre] at hb; cases hb
      · rw [blS_app] at hb
        rw [List.append_assoc, blS_app]
        rcases Nat.lt_or_ge c.toNat d.toNat with h3 | h3
        · exact .inr (blS_lt _ _ h3)
        · rw [blS_gt _ _ (by omega)] at hb; cases hb
theorem acc_least {o i : Bool} {t : List UInt8} {O I : Bool} {T s : List UInt8} (ho : o = true → t = [] ∧ i = false) (h : mAcc o i t O I T s = true) : mEmp o i t O I T = false := by
  unfold mAcc at h
  rw [Bool.and_eq_true] at h
  have h1 := hiA_down ((mHi_iff O I T s).1 h.2) (least_le ho h.1)
  unfold mEmp
  rw [(mHi_iff O I T _).2 h1]
  rfl
/-- The state of a span that isn't empty. -/
theorem span_state {o i : Bool} {t : List UInt8} {O I : Bool} {T : List UInt8} (he : mEmp o i t O I T = false) (s : List UInt8) : (LoA o t s ∧ HiA O I T s → runK (nxS t T I) [so o, so O] s = [posS o t s, posS O T s]) ∧ (¬ (LoA o t s ∧ HiA O I T s) → runK (nxS t T I) [so o, so O] s = []) := by
  have h0 : ∀ (b : Bool) (l : List UInt8), so b = posS b l [] := fun b l => by cases b <;> rfl
  have hh : HiA O I T (mLeast o i t) := by
    unfold mEmp at he
    exact (mHi_iff O I T _).1 (by simpa using he)
  have hn : HiA O I T [] := by
    have := le_app [] (mLeast o i t)
    rw [List.nil_append] at this
    exact hiA_down hh this
  have hr := run_span o t O I T s [] (.inr (.inl ⟨t, rfl⟩)) hn
  rw [List.nil_append] at hr
  unfold runK
  rw [h0 o t, h0 O T]
  exact hr
theorem accS_any {o i : Bool} {t : List UInt8} {O I : Bool} {T : List UInt8} (ho : o = true → t = [] ∧ i = false) (s : List UInt8) : accK (nxS t T I) (acS t i) (if mEmp o i t O I T then [] else [so o, so O]) s = mAcc o i t O I T s := by
  cases he : mEmp o i t O I T with
  | true =>
    rw [if_pos rfl]
    have h1 : runK (nxS t T I) [] s = [] := st2_dead _ s
    unfold accK
    rw [h1]
    cases hm : mAcc o i t O I T s with
    | false => rfl
    | true => rw [acc_least ho hm] at he; cases he
  | false =>
    rw [if_neg (by simp)]
    obtain ⟨r1, r2⟩ := span_state he s
    by_cases hA : LoA o t s ∧ HiA O I T s
    · unfold accK
      rw [r1 hA]
      have hx : acS t i [posS o t s, posS O T s] = mLo o i t s := by
        have e : acS t i [posS o t s, posS O T s] = (posS o t s == -1 || (posS o t s == (t.length : Int) && i)) := rfl
        rw [e]
        cases o with
        | true => rfl
        | false =>
          by_cases hp : Pre s t
          · rw [pos_pre hp]
            have e1 : (((s.length : Int)) == -1) = false := by rw [beq_eq_false_iff_ne]; omega
            rw [e1, Bool.false_or]
            obtain ⟨r, rfl⟩ := hp
            unfold mLo
            rw [blS_pre]
            cases r with
            | nil => simp
            | cons c r =>
              have e2 : ((s.length : Int) == ((s ++ c :: r).length : Int)) = false := by rw [beq_eq_false_iff_ne]; simp; omega
              rw [e2, decide_eq_false (by intro h; have := congrArg List.length h; simp at this)]
              rfl
          · rw [pos_not hp]
            have hb : blS t s = true := by
              rcases hA.1 with h | h | h
              · cases h
              · exact absurd h hp
              · exact h
            unfold mLo
            rw [hb]
            simp
      rw [hx, decide_eq_true (by simp), Bool.true_and]
      unfold mAcc
      rw [(mHi_iff O I T s).2 hA.2, Bool.and_true]
    · unfold accK
      rw [r2 hA]
      cases hm : mAcc o i t O I T s with
      | false => rfl
      | true =>
        exfalso
        unfold mAcc at hm
        rw [Bool.and_eq_true, mLo_iff, mHi_iff] at hm
        apply hA
        refine ⟨?_, hm.2⟩
        rcases hm.1 with h | h | ⟨h, _⟩
        · exact .inl h
        · exact .inr (.inr h)
        · exact .inr (.inl ⟨[], by rw [h, List.append_nil]⟩)
def mAlv (o i : Bool) (t : List UInt8) (O I : Bool) (T s : List UInt8) : Bool := mAcc o i t O I T s || (!o && (s.isPrefixOf t && (mAcc o i t O I T t || mAcc o i t O I T (t ++ [0]))))
theorem alvS_any {o i : Bool} {t : List UInt8} {O I : Bool} {T : List UInt8} (ho : o = true → t = [] ∧ i = false) (s : List UInt8) : alvK (nxS t T I) (if mEmp o i t O I T then [] else [so o, so O]) s = mAlv o i t O I T s := by
  have hL : alvK (nxS t T I) (if mEmp o i t O I T then [] else [so o, so O]) s = true ↔ mEmp o i t O I T = false ∧ LoA o t s ∧ HiA O I T s := by
    cases he : mEmp o i t O I T with
    | true =>
      rw [if_pos rfl]
      have h1 : runK (nxS t T I) [] s = [] := st2_dead _ s
      unfold alvK
      rw [h1]
      simp
    | false =>
      rw [if_neg (by simp)]
      obtain ⟨r1, r2⟩ := span_state he s
      unfold alvK
      by_cases hA : LoA o t s ∧ HiA O I T s
      · rw [r1 hA]
        exact ⟨fun _ => ⟨rfl, hA⟩, fun _ => by simp⟩
      · rw [r2 hA]
        exact ⟨fun h => by simp at h, fun h => absurd h.2 hA⟩
  have hR : mAlv o i t O I T s = true ↔ mEmp o i t O I T = false ∧ LoA o t s ∧ HiA O I T s := by
    unfold mAlv
    simp only [Bool.or_eq_true, Bool.and_eq_true, Bool.not_eq_true']
    constructor
    · rintro (h | ⟨hof, hp, hq⟩)
      · have he := acc_least ho h
        unfold mAcc at h
        rw [Bool.and_eq_true, mLo_iff, mHi_iff] at h
        refine ⟨he, ?_, h.2⟩
        rcases h.1 with h1 | h1 | ⟨h1, _⟩
        · exact .inl h1
        · exact .inr (.inr h1)
        · exact .inr (.inl ⟨[], by rw [h1, List.append_nil]⟩)
      · have hp2 := (pre_iff s t).1 hp
        obtain ⟨r, hr⟩ := hp2
        refine ⟨hq.elim (acc_least ho) (acc_least ho), .inr (.inl ⟨r, hr⟩), ?_⟩
        have hT : HiA O I T t := by
          rcases hq with hq | hq
          · unfold mAcc at hq; rw [Bool.and_eq_true, mHi_iff] at hq; exact hq.2
          · unfold mAcc at hq; rw [Bool.and_eq_true, mHi_iff] at hq; exact hiA_cut hq.2
        rw [hr] at hT
        exact hiA_cut hT
    · rintro ⟨he, hlo, hhi⟩
      by_cases hm : mLo o i t s = true
      · left
        unfold mAcc
        rw [hm, (mHi_iff O I T s).2 hhi]
        rfl
      · right
        rw [mLo_iff] at hm
        have hof : o = false := by cases o with | false => rfl | true => exact absurd (.inl rfl) hm
        have hp : Pre s t := by
          rcases hlo with h | h | h
          · exact absurd (.inl h) hm
          · exact h
          · exact absurd (.inr (.inl h)) hm
        refine ⟨hof, (pre_iff s t).2 hp, ?_⟩
        unfold mEmp mLeast at he
        cases i with
        | true =>
          left
          rw [if_neg (by simp), List.append_nil] at he
          unfold mAcc
          rw [show mHi O I T t = true by simpa using he, (mLo_iff o true t t).2 (.inr (.inr ⟨rfl, rfl⟩))]
          rfl
        | false =>
          right
          rw [if_pos ⟨hof, rfl⟩] at he
          unfold mAcc
          rw [show mHi O I T (t ++ [0]) = true by simpa using he, (mLo_iff o false t (t ++ [0])).2 (.inr (.inl (blS_ext t 0 [])))]
          rfl
  cases h1 : alvK (nxS t T I) (if mEmp o i t O I T then [] else [so o, so O]) s with
  | true => exact (hR.2 (hL.1 h1)).symm
  | false =>
    cases h2 : mAlv o i t O I T s with
    | false => rfl
    | true => rw [hL.2 (hR.1 h2)] at h1; cases h1
end Go.Proofs.YtacmmclamkhpcaaDoor
