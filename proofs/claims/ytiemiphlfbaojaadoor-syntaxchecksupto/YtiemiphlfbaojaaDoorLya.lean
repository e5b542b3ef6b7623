import Derived.Test.YtiemiphlfbaojaaDoorLxe
namespace Go.Proofs.YtiemiphlfbaojaaDoor
open Go.ChangeShapes Go.WideShapes Go.ChangeAt Go.RowKit

/-- A byte that a run goes on with (an escape aside); one that a run begins with. -/
def isR (c : UInt8) : Bool := cl c == 0 || cl c == 102 || cl c == 103 || cl c == 15 || cl c == 16
def isB (c : UInt8) : Bool := cl c == 0 || cl c == 102 || cl c == 103 || cl c == 104
theorem isR_92 : isR 92 = false := by decide +kernel
theorem isB_R (c : UInt8) (h : isB c = true) (h2 : c ≠ 92) : isR c = true := by
  have := u8_all (fun c => !(isB c) || c == 92 || isR c) (by decide +kernel) c
  simp [h, h2] at this
  exact this
/-- How long a run is; how long a quoted text is, with its last mark. -/
def rnL : List UInt8 → Option Nat
  | [] => some 0
  | [c] => if c = 92 then none else if isR c then some 1 else some 0
  | c :: d :: r => if c = 92 then (rnL r).map (· + 2) else if isR c then (rnL (d :: r)).map (· + 1) else some 0
theorem rn_nil : rnL [] = some 0 := by rw [rnL]
theorem rn_lone : rnL [92] = none := by rw [rnL, if_pos rfl]
theorem rn_esc (d : UInt8) (r : List UInt8) : rnL (92 :: d :: r) = (rnL r).map (· + 2) := by rw [rnL, if_pos rfl]
theorem rn_run (c : UInt8) (r : List UInt8) (h : isR c = true) : rnL (c :: r) = (rnL r).map (· + 1) := by
  have h2 : c ≠ 92 := by intro e; subst e; rw [isR_92] at h; cases h
  cases r with
  | nil =>
    have e : rnL [c] = if c = 92 then none else if isR c then some 1 else some 0 := by rw [rnL]
    rw [e, if_neg h2, if_pos h, rn_nil]; rfl
  | cons d r => rw [rnL, if_neg h2, if_pos h]
theorem rn_end (c : UInt8) (r : List UInt8) (h : isR c = false) (h2 : c ≠ 92) : rnL (c :: r) = some 0 := by
  cases r with
  | nil => rw [rnL, if_neg h2, if_neg (by rw [h]; decide)]
  | cons d r => rw [rnL, if_neg h2, if_neg (by rw [h]; decide)]
def qoL : List UInt8 → Option Nat
  | [] => none
  | [c] => if c = 34 then some 1 else none
  | c :: d :: r => if c = 34 then some 1 else if c = 92 then (qoL r).map (· + 2) else (qoL (d :: r)).map (· + 1)
theorem qo_nil : qoL [] = none := by rw [qoL]
theorem qo_end (r : List UInt8) : qoL (34 :: r) = some 1 := by
  cases r with
  | nil => rw [qoL, if_pos rfl]
  | cons d r => rw [qoL, if_pos rfl]
theorem qo_lone : qoL [92] = none := by rw [qoL, if_neg (by decide)]
theorem qo_esc (d : UInt8) (r : List UInt8) : qoL (92 :: d :: r) = (qoL r).map (· + 2) := by rw [qoL, if_neg (by decide), if_pos rfl]
theorem qo_oth (c : UInt8) (r : List UInt8) (h : c ≠ 34) (h2 : c ≠ 92) : qoL (c :: r) = (qoL r).map (· + 1) := by
  cases r with
  | nil =>
    have e : qoL [c] = if c = 34 then some 1 else none := by rw [qoL]
    rw [e, if_neg h, qo_nil]; rfl
  | cons d r => rw [qoL, if_neg h, if_neg h2]
theorem rn_le : ∀ (n : Nat) (l : List UInt8) (m : Nat), l.length ≤ n → rnL l = some m → m ≤ l.length := by
  intro n
  induction n with
  | zero =>
    intro l m h e
    cases l with
    | nil => rw [rn_nil] at e; cases e; exact Nat.le_refl _
    | cons c l => simp at h
  | succ n ih =>
    intro l m h e
    match l with
    | [] => rw [rn_nil] at e; cases e; exact Nat.le_refl _
    | [c] =>
      rw [rnL] at e
      split at e
      · cases e
      · split at e <;> (cases e; simp)
    | c :: d :: r =>
      simp only [List.length_cons] at h ⊢
      rw [rnL] at e
      split at e
      · obtain ⟨x, hx, rfl⟩ := Option.map_eq_some_iff.1 e
        have := ih r x (by omega) hx
        omega
      · split at e
        · obtain ⟨x, hx, rfl⟩ := Option.map_eq_some_iff.1 e
          have := ih (d :: r) x (by simp only [List.length_cons]; omega) hx
          simp only [List.length_cons] at this
          omega
        · cases e; omega
theorem rn_pos (c : UInt8) (r : List UInt8) (h : isB c = true) (m : Nat) (e : rnL (c :: r) = some m) : 1 ≤ m := by
  by_cases h2 : c = 92
  · subst h2
    cases r with
    | nil => rw [rn_lone] at e; cases e
    | cons d r =>
      rw [rn_esc] at e
      obtain ⟨x, hx, rfl⟩ := Option.map_eq_some_iff.1 e
      omega
  · rw [rn_run c r (isB_R c h h2)] at e
    obtain ⟨x, hx, rfl⟩ := Option.map_eq_some_iff.1 e
    omega
theorem qo_le : ∀ (n : Nat) (l : List UInt8) (m : Nat), l.length ≤ n → qoL l = some m → 1 ≤ m ∧ m ≤ l.length := by
  intro n
  induction n with
  | zero =>
    intro l m h e
    cases l with
    | nil => rw [qo_nil] at e; cases e
    | cons c l => simp at h
  | succ n ih =>
    intro l m h e
    match l with
    | [] => rw [qo_nil] at e; cases e
    | [c] =>
      rw [qoL] at e
      split at e
      · cases e; simp
      · cases e
    | c :: d :: r =>
      simp only [List.length_cons] at h ⊢
      rw [qoL] at e
      split at e
      · cases e; omega
      · split at e
        · obtain ⟨x, hx, rfl⟩ := Option.map_eq_some_iff.1 e
          have := ih r x (by omega) hx
          omega
        · obtain ⟨x, hx, rfl⟩ := Option.map_eq_some_iff.1 e
          have := ih (d :: r) x (by simp only [List.length_cons]; omega) hx
          simp only [List.length_cons] at this
          omega
/-- Digits, and the number that they are. -/
def dgL : List UInt8 → Nat
  | [] => 0
  | c :: r => if cl c = 102 then dgL r + 1 else 0
def nmV : Nat → List UInt8 → Nat
  | v, [] => v
  | v, c :: r => if cl c = 102 then nmV (min (10 * v + (c.toNat - 48)) 1000000000) r else v
theorem dg_le (l : List UInt8) : dgL l ≤ l.length := by
  induction l with
  | nil => simp [dgL]
  | cons c l ih =>
    unfold dgL
    split <;> (simp only [List.length_cons]; omega)
/-- The letters of a piece; a pattern's canonical form; the text of a run. -/
def litF (s : List UInt8) : List UInt8 := (sgn s).map (·.1)
def cnE (x : UInt8 × Bool) : List UInt8 := if x.2 && (wdB x.1 || x.1 == 92) then [92, x.1] else [x.1]
def cnF (s : List UInt8) : List UInt8 := (sgn s).flatMap cnE
def txF (s : List UInt8) : List UInt8 := if kdF s = 1 then litF s else if kdF s = 2 then cnF s else []
/-- A token: its kind, its text, its number, how many bytes it has. -/
structure Tk where
  k : Nat
  t : List UInt8
  n : Int
  z : Nat
def numT (k m : Nat) (r : List UInt8) : Option Tk := if 0 < dgL r ∧ nmV 0 r ≤ 999999999 then some ⟨k, [], (nmV 0 r : Nat), m + dgL r⟩ else none
def tokF : List UInt8 → Option Tk
  | [] => none
  | c :: r =>
    if isB c then (rnL (c :: r)).map (fun m => ⟨kdF ((c :: r).take m), txF ((c :: r).take m), 0, m⟩)
    else if cl c = 3 then (qoL r).map (fun m => ⟨3, litF (r.take (m - 1)), 0, m + 1⟩)
    else if cl c = 20 then (if dgL r = 0 then some ⟨20, [], -1, 1⟩ else numT 20 1 r)
    else if cl c = 18 then (if r.head? = some 61 then numT 19 2 (r.drop 1) else numT 18 1 r)
    else if cl c = 21 then numT 21 1 r
    else some ⟨cl c, [], 0, 1⟩
theorem numT_some {k m : Nat} {r : List UInt8} {t : Tk} (h : numT k m r = some t) : t = ⟨k, [], (nmV 0 r : Nat), m + dgL r⟩ := by
  unfold numT at h
  split at h
  · exact (Option.some.inj h).symm
  · cases h
theorem tok_len (l : List UInt8) (t : Tk) (h : tokF l = some t) : 1 ≤ t.z ∧ t.z ≤ l.length := by
  cases l with
  | nil => cases h
  | cons c r =>
    have hd := dg_le r
    rw [tokF] at h
    split at h
    · rename_i hb
      obtain ⟨m, hm, rfl⟩ := Option.map_eq_some_iff.1 h
      exact ⟨rn_pos c r hb m hm, rn_le _ _ m (Nat.le_refl _) hm⟩
    · split at h
      · obtain ⟨m, hm, rfl⟩ := Option.map_eq_some_iff.1 h
        have := qo_le _ _ m (Nat.le_refl _) hm
        simp only [List.length_cons]
        omega
      · split at h
        · split at h
          · cases h; simp
          · rw [numT_some h]; simp only [List.length_cons]; omega
        · split at h
          · split at h
            · rename_i hh
              rw [numT_some h]
              have h2 := dg_le (r.drop 1)
              rw [List.length_drop] at h2
              have h3 : 1 ≤ r.length := by cases r with | nil => cases hh | cons a b => simp
              simp only [List.length_cons]
              omega
            · rw [numT_some h]; simp only [List.length_cons]; omega
          · split at h
            · rw [numT_some h]; simp only [List.length_cons]; omega
            · cases h; simp
/-- A token at its place. -/
structure Lx where
  k : Nat
  t : List UInt8
  n : Int
  a : Nat
  e : Nat
/-- The tokens from the place k on; the place of a fault. -/
def scF : Nat → Nat → List UInt8 → List Lx × Option Nat
  | 0, _, _ => ([], none)
  | _ + 1, k, [] => ([⟨0, [], 0, k, k⟩], none)
  | f + 1, k, c :: r =>
    if cl c = 101 then scF f (k + 1) r
    else match tokF (c :: r) with
      | none => ([], some k)
      | some t => (⟨t.k, t.t, t.n, k, k + t.z⟩ :: (scF f (k + t.z) ((c :: r).drop t.z)).1, (scF f (k + t.z) ((c :: r).drop t.z)).2)
def cmL (L : List Lx) (Z : List Lx × Option Nat) : List Lx × Option Nat := (L ++ Z.1, Z.2)
theorem sc_nil (f k : Nat) : scF (f + 1) k [] = ([⟨0, [], 0, k, k⟩], none) := by rw [scF]
theorem sc_blank (f k : Nat) (c : UInt8) (r : List UInt8) (h : cl c = 101) : scF (f + 1) k (c :: r) = scF f (k + 1) r := by rw [scF, if_pos h]
theorem sc_bad (f k : Nat) (c : UInt8) (r : List UInt8) (h : cl c ≠ 101) (h2 : tokF (c :: r) = none) : scF (f + 1) k (c :: r) = ([], some k) := by rw [scF, if_neg h, h2]
theorem sc_tok (f k : Nat) (c : UInt8) (r : List UInt8) (h : cl c ≠ 101) (t : Tk) (h2 : tokF (c :: r) = some t) : scF (f + 1) k (c :: r) = cmL [⟨t.k, t.t, t.n, k, k + t.z⟩] (scF f (k + t.z) ((c :: r).drop t.z)) := by
  rw [scF, if_neg h, h2]; rfl
theorem cm_cm (L M : List Lx) (Z : List Lx × Option Nat) : cmL L (cmL M Z) = cmL (L ++ M) Z := by unfold cmL; rw [List.append_assoc]
theorem cm_nil (Z : List Lx × Option Nat) : cmL [] Z = Z := rfl
theorem sc_fuel : ∀ (f f' k : Nat) (l : List UInt8), l.length < f → l.length < f' → scF f k l = scF f' k l := by
  intro f
  induction f with
  | zero => intro f' k l h; omega
  | succ f ih =>
    intro f' k l h h'
    obtain ⟨g, rfl⟩ : ∃ g, f' = g + 1 := ⟨f' - 1, by omega⟩
    cases l with
    | nil => rw [sc_nil, sc_nil]
    | cons c r =>
      simp only [List.length_cons] at h h'
      by_cases hb : cl c = 101
      · rw [sc_blank _ _ _ _ hb, sc_blank _ _ _ _ hb]
        exact ih g (k + 1) r (by omega) (by omega)
      · cases e : tokF (c :: r) with
        | none => rw [sc_bad _ _ _ _ hb e, sc_bad _ _ _ _ hb e]
        | some t =>
          have hz := tok_len _ t e
          simp only [List.length_cons] at hz
          rw [sc_tok _ _ _ _ hb t e, sc_tok _ _ _ _ hb t e, ih g (k + t.z) _ (by rw [List.length_drop, List.length_cons]; omega) (by rw [List.length_drop, List.length_cons]; omega)]
/-- What Scan answers. -/
def scanF (l : List UInt8) : List Lx × Option Nat := scF (l.length + 1) 0 l
end Go.Proofs.YtiemiphlfbaojaaDoor
