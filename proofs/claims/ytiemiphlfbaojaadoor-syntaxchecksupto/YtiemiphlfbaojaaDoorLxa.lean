import Derived.Test.YtiemiphlfbaojaaDoorStm
namespace Go.Proofs.YtiemiphlfbaojaaDoor
open Go.ChangeShapes Go.WideShapes Go.ChangeAt Go.RowKit

theorem hideL {p : Prop} (h : p) : Hid p := h
/-- What holds of 256 bytes holds of every one. -/
theorem u8_all (P : UInt8 → Bool) (h : ∀ k : Fin 256, P (UInt8.ofNat k.val) = true) : ∀ c, P c = true := by
  intro c
  have := h ⟨c.toNat, c.toNat_lt⟩
  rwa [UInt8.ofNat_toNat] at this
/-- The classes of bytes. -/
def clsT : List Nat := [0, 0, 0, 0, 0, 0, 0, 0, 0, 101, 101, 0, 0, 101, 0, 0, 0, 0, 0, 0, 0, 0, 0, 0, 0, 0, 0, 0, 0, 0, 0, 0, 101, 0, 3, 0, 0, 0, 0, 0, 8, 9, 103, 15, 0, 16, 0, 0, 102, 102, 102, 102, 102, 102, 102, 102, 102, 102, 14, 0, 0, 0, 0, 103, 21, 0, 0, 0, 0, 0, 0, 0, 0, 0, 0, 0, 0, 0, 0, 0, 0, 0, 0, 0, 0, 0, 0, 0, 0, 0, 0, 10, 104, 11, 18, 0, 0, 0, 0, 0, 0, 0, 0, 0, 0, 0, 0, 0, 0, 0, 0, 0, 0, 0, 0, 0, 0, 0, 0, 0, 0, 0, 0, 12, 17, 13, 20]
def cl (c : UInt8) : Nat := clsT.getD c.toNat 0
/-- The class as the table has it. -/
structure ClsAt (w : World) : Prop where
  at' : ∀ j, j < 127 → w.cell? ⟨25, j, none⟩ = some (.int .u8 (clsT.getD j 0 : Nat))
theorem ClsAt.kept {F : Nat → Prop} {w w' : World} (h : ClsAt w) (k : Kept F w w') (hF : ¬ F 25) : ClsAt w' := ⟨fun j hj => k.cell (h.at' j hj) hF⟩
theorem ClsAt.later {w w' : World} (h : ClsAt w) (k : Kept (fun _ => False) w w') : ClsAt w' := h.kept k (fun f => f)
theorem cl_lt (c : UInt8) : cl c ≤ 104 := by
  have := u8_all (fun c => decide (cl c ≤ 104)) (by decide +kernel) c
  simpa using this
/-- A byte as a letter of a run; f: at its beginning. -/
def plB (f : Bool) (c : UInt8) : Bool := cl c == 0 || cl c == 102 || ((cl c == 15 || cl c == 16) && !f)
def pl (f : Bool) (c : UInt8) : List UInt8 := if plB f c then [c] else [92, c]
theorem pl_len (f : Bool) (c : UInt8) : 1 ≤ (pl f c).length ∧ (pl f c).length ≤ 2 := by unfold pl; split <;> simp
theorem pl_yes (f : Bool) (c : UInt8) (h : plB f c = true) : pl f c = [c] := by unfold pl; rw [if_pos h]
theorem pl_no (f : Bool) (c : UInt8) (h : plB f c = false) : pl f c = [92, c] := by unfold pl; rw [h]; rfl
/-- Letters one behind the other. -/
def wlF (o : List UInt8) (l : List UInt8) : List UInt8 := l.foldl (fun o c => o ++ pl o.isEmpty c) o
theorem wlF_len (l : List UInt8) : ∀ o, o.length + l.length ≤ (wlF o l).length ∧ (wlF o l).length ≤ o.length + 2 * l.length := by
  induction l with
  | nil => intro o; simp [wlF]
  | cons c l ih =>
    intro o
    have h1 := ih (o ++ pl o.isEmpty c)
    have h2 := pl_len o.isEmpty c
    rw [List.length_append] at h1
    rw [List.length_cons]
    show _ ≤ (wlF (o ++ pl o.isEmpty c) l).length ∧ (wlF (o ++ pl o.isEmpty c) l).length ≤ _
    omega
def wl (l : List UInt8) : List UInt8 := wlF [] l
theorem wl_next (l : List UInt8) (k : Nat) (h : k < l.length) : wl (l.take (k + 1)) = wl (l.take k) ++ pl (wl (l.take k)).isEmpty l[k] := by
  unfold wl wlF
  rw [List.take_succ_eq_append_getElem h, List.foldl_append]
  rfl
theorem wl_empty (l : List UInt8) (k : Nat) (h : k ≤ l.length) : (wl (l.take k)).isEmpty = decide (k = 0) := by
  have h1 := wlF_len (l.take k) []
  rw [List.length_take, Nat.min_eq_left h] at h1
  unfold wl
  cases e : wlF [] (l.take k) with
  | nil => rw [e] at h1; simp at h1; simp [h1]
  | cons a r =>
    rw [e] at h1
    by_cases hk : k = 0
    · subst hk; simp at h1
    · simp [hk]
theorem wl_len (l : List UInt8) : (wl l).length ≤ 2 * l.length := by have := wlF_len l []; simp at this; exact this.2
/-- The words of the language. -/
def rsv (l : List UInt8) : Nat := if l = [65, 78, 68] then 4 else if l = [79, 82] then 5 else if l = [78, 79, 84] then 6 else if l = [84, 79] then 7 else 1
/-- A word as a text; a quoted text. -/
def wordF (l : List UInt8) : List UInt8 := if rsv l ≠ 1 then 92 :: l else wl l
def qe (c : UInt8) : List UInt8 := if c == 34 || c == 92 then [92, c] else [c]
def qF (l : List UInt8) : List UInt8 := l.flatMap qe
def quoteF (l : List UInt8) : List UInt8 := 34 :: (qF l ++ [34])
theorem qe_len (c : UInt8) : 1 ≤ (qe c).length ∧ (qe c).length ≤ 2 := by unfold qe; split <;> simp
theorem qF_next (l : List UInt8) (k : Nat) (h : k < l.length) : qF (l.take (k + 1)) = qF (l.take k) ++ qe l[k] := by
  unfold qF
  rw [List.take_succ_eq_append_getElem h, List.flatMap_append]
  simp
theorem qF_len (l : List UInt8) : (qF l).length ≤ 2 * l.length := by
  induction l with
  | nil => simp [qF]
  | cons c l ih =>
    have := (qe_len c).2
    show (qe c ++ qF l).length ≤ _
    rw [List.length_append, List.length_cons]
    omega
/-- A text as signs: what an escape stands for is a letter (true). -/
def sgn : List UInt8 → List (UInt8 × Bool)
  | [] => []
  | [c] => [(c, false)]
  | c :: d :: l => if c = 92 then (d, true) :: sgn l else (c, false) :: sgn (d :: l)
theorem sgn_esc (d : UInt8) (l : List UInt8) : sgn (92 :: d :: l) = (d, true) :: sgn l := by rw [sgn, if_pos rfl]
theorem sgn_one (c : UInt8) : sgn [c] = [(c, false)] := by rw [sgn]
theorem sgn_oth (c : UInt8) (l : List UInt8) (h : c ≠ 92) : sgn (c :: l) = (c, false) :: sgn l := by
  cases l with
  | nil => rw [sgn, sgn]
  | cons d l => rw [sgn, if_neg h]
theorem sgn_len : ∀ (n : Nat) (l : List UInt8), l.length ≤ n → (sgn l).length ≤ l.length := by
  intro n
  induction n with
  | zero => intro l h; cases l with
    | nil => simp [sgn]
    | cons c l => simp at h
  | succ n ih =>
    intro l h
    match l with
    | [] => simp [sgn]
    | [c] => simp [sgn]
    | c :: d :: l =>
      rw [sgn]
      simp only [List.length_cons] at h
      have h1 := ih l (by omega)
      have h2 := ih (d :: l) (by simp; omega)
      simp only [List.length_cons] at h2
      split <;> (simp only [List.length_cons]; omega)
def wdB (c : UInt8) : Bool := c == 42 || c == 63
/-- A wild mark; an escape with nothing behind it. -/
def isW (x : UInt8 × Bool) : Bool := !x.2 && wdB x.1
def isE (x : UInt8 × Bool) : Bool := !x.2 && x.1 == 92
theorem cl_wild (c : UInt8) : (cl c == 103) = wdB c := by
  have := u8_all (fun c => (cl c == 103) == wdB c) (by decide +kernel) c
  simpa using this
theorem cl_esc (c : UInt8) : (cl c == 104) = (c == 92) := by
  have := u8_all (fun c => (cl c == 104) == (c == 92)) (by decide +kernel) c
  simpa using this
/-- A pattern's signs as a text. -/
def ptF (o : List UInt8) (g : List (UInt8 × Bool)) : List UInt8 := g.foldl (fun o x => o ++ if isW x then [x.1] else pl o.isEmpty x.1) o
def patF (l : List UInt8) : List UInt8 := if (sgn l).any isW && !(sgn l).any isE then ptF [] (sgn l) else []
theorem ptF_len (g : List (UInt8 × Bool)) : ∀ o, o.length + g.length ≤ (ptF o g).length ∧ (ptF o g).length ≤ o.length + 2 * g.length := by
  induction g with
  | nil => intro o; simp [ptF]
  | cons x g ih =>
    intro o
    have h1 := ih (o ++ if isW x then [x.1] else pl o.isEmpty x.1)
    have h2 := pl_len o.isEmpty x.1
    have h3 : 1 ≤ (if isW x then [x.1] else pl o.isEmpty x.1).length ∧ (if isW x then [x.1] else pl o.isEmpty x.1).length ≤ 2 := by split <;> simp_all
    rw [List.length_append] at h1
    rw [List.length_cons]
    show _ ≤ (ptF (o ++ if isW x then [x.1] else pl o.isEmpty x.1) g).length ∧ (ptF (o ++ if isW x then [x.1] else pl o.isEmpty x.1) g).length ≤ _
    omega
theorem rsv_wild (l : List UInt8) (h : rsv l ≠ 1) : (sgn l).any isW = false := by
  unfold rsv at h
  by_cases h1 : l = [65, 78, 68]
  · subst h1; decide
  by_cases h2 : l = [79, 82]
  · subst h2; decide
  by_cases h3 : l = [78, 79, 84]
  · subst h3; decide
  by_cases h4 : l = [84, 79]
  · subst h4; decide
  simp [h1, h2, h3, h4] at h
end Go.Proofs.YtiemiphlfbaojaaDoor
