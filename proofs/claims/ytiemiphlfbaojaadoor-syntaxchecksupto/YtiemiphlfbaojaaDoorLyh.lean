import Derived.Test.YtiemiphlfbaojaaDoorLyg
import Derived.WalkMore
import Derived.ScopeJumps
namespace Go.Proofs.YtiemiphlfbaojaaDoor
open Go.ChangeShapes Go.WideShapes Go.ChangeAt Go.RowKit

/-- As Q; by a goto: what J says of its label. -/
def jumpsL (J : Nat → Act → World → Prop) (Q : Exit → Act → World → Prop) : Exit → Act → World → Prop
  | .goto l, a, w => J l a w
  | e, a, w => Q e a w
theorem jumpsL_goto (J : Nat → Act → World → Prop) (Q : Exit → Act → World → Prop) (l : Nat) (a : Act) (w : World) : jumpsL J Q (.goto l) a w = J l a w := rfl
theorem jumpsL_ret (J : Nat → Act → World → Prop) (Q : Exit → Act → World → Prop) (a : Act) (w : World) : jumpsL J Q .ret a w = Q .ret a w := rfl
/-- A scope in which the run jumps among several labels: what holds at each jump (J, with a rank r), and every pass from a label lowers the rank. -/
theorem wp_scope_labels {P : Program} {a a1 : Act} {w w1 : World} {Q : Exit → Act → World → Prop} {c : Code} (J : Nat → Nat → Act → World → Prop) (r0 l0 : Nat) (h0 : J r0 l0 a1 w1)
    (hc : ∀ (X : Code) (Q : Exit → Act → World → Prop), findLabel c l0 = some (Code.skip.seq X) → X.wp P Q a1 w1 → c.wp P Q a w)
    (pass : ∀ r l a w, J r l a w → ∃ X, findLabel c l = some (Code.skip.seq X) ∧ X.wp P (jumpsL (fun l' a' w' => ∃ r', r' < r ∧ J r' l' a' w') Q) a w) : (Code.scope c).wp P Q a w := by
  have key : ∀ n a w l, J n l a w → ∃ X, findLabel c l = some X ∧ ∀ (b : Frame) (k : List Item) (cs : List Frame), ∃ e a' w', Q e a' w' ∧ Arrives P (lone (b.at a (.code X :: .inScope c :: k)) cs w) b k cs e a' w' := by
    intro n
    induction n using Nat.strongRecOn with
    | _ n ih =>
      intro a w l hJ
      obtain ⟨X, hX, hw⟩ := pass n l a w hJ
      refine ⟨_, hX, fun b k cs => ?_⟩
      obtain ⟨e, a₁, w₁, hq, harr⟩ := (wp_seq (wp_skip hw) : (Code.skip.seq X).wp P _ a w) b (.inScope c :: k) cs
      cases e with
      | normal => exact ⟨.normal, a₁, w₁, hq, Steps.trans harr (.one step_inScope)⟩
      | exit id => exact ⟨.exit id, a₁, w₁, hq, fun k' hk => harr k' (by simp [exitTo, hk])⟩
      | goto l' =>
        obtain ⟨r', hlt, hJ'⟩ := hq
        obtain ⟨Y, hY, hy⟩ := ih r' hlt a₁ w₁ l' hJ'
        have hg : gotoIn l' (.inScope c :: k) = some (.code Y :: .inScope c :: k) := by simp [gotoIn, hY]
        obtain ⟨e₂, a₂, w₂, hq₂, harr₂⟩ := hy b k cs
        exact ⟨e₂, a₂, w₂, hq₂, .of_steps (harr _ hg) harr₂⟩
      | ret => exact ⟨_, a₁, w₁, hq, harr⟩
      | panic ch => exact ⟨_, a₁, w₁, hq, harr⟩
      | outgrown => exact ⟨_, a₁, w₁, hq, harr⟩
  intro b k cs
  obtain ⟨X, hX, hw⟩ := pass r0 l0 a1 w1 h0
  obtain ⟨e, a₁, w₁, hq, harr⟩ := hc X _ hX hw b (.inScope c :: k) cs
  cases e with
  | normal => exact ⟨.normal, a₁, w₁, hq, .head step_scope (Steps.trans harr (.one step_inScope))⟩
  | exit id => exact ⟨.exit id, a₁, w₁, hq, fun k' hk => .head step_scope (harr k' (by simp [exitTo, hk]))⟩
  | goto l' =>
    obtain ⟨r', hlt, hJ'⟩ := hq
    obtain ⟨Y, hY, hy⟩ := key r' a₁ w₁ l' hJ'
    have hg : gotoIn l' (.inScope c :: k) = some (.code Y :: .inScope c :: k) := by simp [gotoIn, hY]
    obtain ⟨e₂, a₂, w₂, hq₂, harr₂⟩ := hy b k cs
    exact ⟨e₂, a₂, w₂, hq₂, .of_steps (.head step_scope (harr _ hg)) harr₂⟩
  | ret => exact ⟨_, a₁, w₁, hq, .of_steps (.one step_scope) harr⟩
  | panic ch => exact ⟨_, a₁, w₁, hq, .of_steps (.one step_scope) harr⟩
  | outgrown => exact ⟨_, a₁, w₁, hq, .of_steps (.one step_scope) harr⟩
/-- A run that ends has no lone escape. -/
theorem rn_good : ∀ (n : Nat) (l : List UInt8) (m : Nat), l.length ≤ n → rnL l = some m → (sgn (l.take m)).any isE = false := by
  intro n
  induction n with
  | zero =>
    intro l m h e
    cases l with
    | nil => rw [List.take_nil]; rfl
    | cons c l => simp at h
  | succ n ih =>
    intro l m h e
    cases l with
    | nil => rw [List.take_nil]; rfl
    | cons c r =>
      simp only [List.length_cons] at h
      by_cases h2 : c = 92
      · subst h2
        cases r with
        | nil => rw [rn_lone] at e; cases e
        | cons d r =>
          rw [rn_esc] at e
          obtain ⟨x, hx, rfl⟩ := Option.map_eq_some_iff.1 e
          simp only [List.length_cons] at h
          have := ih r x (by omega) hx
          show (sgn (92 :: d :: r.take x)).any isE = false
          rw [sgn_esc]
          simpa [isE] using this
      · by_cases hR : isR c = true
        · rw [rn_run c r hR] at e
          obtain ⟨x, hx, rfl⟩ := Option.map_eq_some_iff.1 e
          have := ih r x (by omega) hx
          show (sgn (c :: r.take x)).any isE = false
          rw [sgn_oth _ _ h2]
          simp [isE, h2] at this ⊢
          exact this
        · rw [rn_end c r (by simpa using hR) h2] at e
          cases e
          rfl
theorem qo_good : ∀ (n : Nat) (l : List UInt8) (m : Nat), l.length ≤ n → qoL l = some m → (sgn (l.take (m - 1))).any isE = false := by
  intro n
  induction n with
  | zero =>
    intro l m h e
    cases l with
    | nil => rw [List.take_nil]; rfl
    | cons c l => simp at h
  | succ n ih =>
    intro l m h e
    cases l with
    | nil => rw [List.take_nil]; rfl
    | cons c r =>
      simp only [List.length_cons] at h
      by_cases h1 : c = 34
      · subst h1
        rw [qo_end] at e
        cases e
        rfl
      · by_cases h2 : c = 92
        · subst h2
          cases r with
          | nil => rw [qo_lone] at e; cases e
          | cons d r =>
            rw [qo_esc] at e
            obtain ⟨x, hx, rfl⟩ := Option.map_eq_some_iff.1 e
            simp only [List.length_cons] at h
            have h1 := ih r x (by omega) hx
            have h3 := (qo_le _ _ x (Nat.le_refl _) hx).1
            have e3 : x + 2 - 1 = (x - 1) + 2 := by omega
            rw [e3]
            show (sgn (92 :: d :: r.take (x - 1))).any isE = false
            rw [sgn_esc]
            simpa [isE] using h1
        · rw [qo_oth c r h1 h2] at e
          obtain ⟨x, hx, rfl⟩ := Option.map_eq_some_iff.1 e
          have h1 := ih r x (by omega) hx
          have h3 := (qo_le _ _ x (Nat.le_refl _) hx).1
          have e3 : x + 1 - 1 = (x - 1) + 1 := by omega
          rw [e3]
          show (sgn (c :: r.take (x - 1))).any isE = false
          rw [sgn_oth _ _ h2]
          simp [isE, h2] at h1 ⊢
          exact h1
abbrev ZL := List Lx × Option Nat
variable {w0 w w' : World} {b : Nat} {l : List UInt8} {p k : Nat} {t : List UInt8} {n : Int} {a e : Nat} {v : Value} {m : Nat} {L : List Lx} {Z : ZL} {r : Nat}
/-- What holds at the labels. -/
def St0 (w0 : World) (b : Nat) (l : List UInt8) (Z : ZL) (r : Nat) (w : World) : Prop := ∃ (p k : Nat) (t : List UInt8) (n : Int) (a e : Nat) (v : Value) (m : Nat) (L : List Lx) (f : Nat), Sc w0 w b l p k t n a e v m L ∧ p ≤ l.length ∧ m ≤ p ∧ Z = cmL L (scF f p (l.drop p)) ∧ l.length - p < f ∧ r = (l.length + 10) * (l.length - p) + (l.length + 9)
def St1 (w0 : World) (b : Nat) (l : List UInt8) (Z : ZL) (r : Nat) (w : World) : Prop := ∃ (p a : Nat) (v : Value) (m : Nat) (L : List Lx) (f : Nat) (c : UInt8) (s : List UInt8), Sc w0 w b l p 1 [] 0 a 0 v m L ∧ a ≤ p ∧ p ≤ l.length ∧ m ≤ a ∧ l.drop a = c :: s ∧ isB c = true ∧ rnL (l.drop a) = (rnL (l.drop p)).map (· + (p - a)) ∧ Z = cmL L (scF (f + 1) a (l.drop a)) ∧ l.length - a < f + 1 ∧ r = (l.length + 10) * (l.length - a) + 1 + (l.length - p)
def St2 (w0 : World) (b : Nat) (l : List UInt8) (Z : ZL) (r : Nat) (w : World) : Prop := ∃ (p a : Nat) (v : Value) (m : Nat) (L : List Lx) (f : Nat) (s : List UInt8), Sc w0 w b l p 3 [] 0 a 0 v m L ∧ a < p ∧ p ≤ l.length ∧ m ≤ a ∧ l.drop a = 34 :: s ∧ qoL s = (qoL (l.drop p)).map (· + (p - (a + 1))) ∧ Z = cmL L (scF (f + 1) a (l.drop a)) ∧ l.length - a < f + 1 ∧ r = (l.length + 10) * (l.length - a) + 1 + (l.length - p)
def St3 (w0 : World) (b : Nat) (l : List UInt8) (Z : ZL) (r : Nat) (w : World) : Prop := ∃ (p k : Nat) (t : List UInt8) (n : Int) (a : Nat) (v : Value) (m : Nat) (L : List Lx) (f : Nat), Sc w0 w b l p k t n a 0 v m L ∧ a < p ∧ p ≤ l.length ∧ m ≤ a ∧ Z = cmL (L ++ [⟨k, t, n, a, p⟩]) (scF f p (l.drop p)) ∧ l.length - p < f ∧ r = (l.length + 10) * (l.length - a)
def StL (w0 : World) (b : Nat) (l : List UInt8) (Z : ZL) (r lab : Nat) (w : World) : Prop := (lab = 0 ∧ St0 w0 b l Z r w) ∨ (lab = 1 ∧ St1 w0 b l Z r w) ∨ (lab = 2 ∧ St2 w0 b l Z r w) ∨ (lab = 3 ∧ St3 w0 b l Z r w)
/-- What is left where scan ends. -/
def scPost (w0 : World) (b : Nat) (l : List UInt8) (Z : ZL) (x : Ending) (w' : World) : Prop :=
  (Z.2 = none ∧ x = .returned (.bool true) ∧ ∃ p k t n a e v m, Sc w0 w' b l p k t n a e v m Z.1) ∨ (∃ f, Z.2 = some f ∧ x = .returned (.bool false) ∧ ∃ p k t n e v m L, Sc w0 w' b l p k t n f e v m L)
theorem arrN (A : Array Value) (n : Nat) (h : A.size = n) : A = (List.ofFn (fun i : Fin n => A.getD i.val undef)).toArray := by
  apply Array.ext
  · simp [h]
  · intro i h1 h2
    simp [Array.getD, h1]
theorem arr126 (A : Array Value) (h : A.size = 126) : A = #[(A.getD 0 undef), (A.getD 1 undef), (A.getD 2 undef), (A.getD 3 undef), (A.getD 4 undef), (A.getD 5 undef), (A.getD 6 undef), (A.getD 7 undef), (A.getD 8 undef), (A.getD 9 undef), (A.getD 10 undef), (A.getD 11 undef), (A.getD 12 undef), (A.getD 13 undef), (A.getD 14 undef), (A.getD 15 undef), (A.getD 16 undef), (A.getD 17 undef), (A.getD 18 undef), (A.getD 19 undef), (A.getD 20 undef), (A.getD 21 undef), (A.getD 22 undef), (A.getD 23 undef), (A.getD 24 undef), (A.getD 25 undef), (A.getD 26 undef), (A.getD 27 undef), (A.getD 28 undef), (A.getD 29 undef), (A.getD 30 undef), (A.getD 31 undef), (A.getD 32 undef), (A.getD 33 undef), (A.getD 34 undef), (A.getD 35 undef), (A.getD 36 undef), (A.getD 37 undef), (A.getD 38 undef), (A.getD 39 undef), (A.getD 40 undef), (A.getD 41 undef), (A.getD 42 undef), (A.getD 43 undef), (A.getD 44 undef), (A.getD 45 undef), (A.getD 46 undef), (A.getD 47 undef), (A.getD 48 undef), (A.getD 49 undef), (A.getD 50 undef), (A.getD 51 undef), (A.getD 52 undef), (A.getD 53 undef), (A.getD 54 undef), (A.getD 55 undef), (A.getD 56 undef), (A.getD 57 undef), (A.getD 58 undef), (A.getD 59 undef), (A.getD 60 undef), (A.getD 61 undef), (A.getD 62 undef), (A.getD 63 undef), (A.getD 64 undef), (A.getD 65 undef), (A.getD 66 undef), (A.getD 67 undef), (A.getD 68 undef), (A.getD 69 undef), (A.getD 70 undef), (A.getD 71 undef), (A.getD 72 undef), (A.getD 73 undef), (A.getD 74 undef), (A.getD 75 undef), (A.getD 76 undef), (A.getD 77 undef), (A.getD 78 undef), (A.getD 79 undef), (A.getD 80 undef), (A.getD 81 undef), (A.getD 82 undef), (A.getD 83 undef), (A.getD 84 undef), (A.getD 85 undef), (A.getD 86 undef), (A.getD 87 undef), (A.getD 88 undef), (A.getD 89 undef), (A.getD 90 undef), (A.getD 91 undef), (A.getD 92 undef), (A.getD 93 undef), (A.getD 94 undef), (A.getD 95 undef), (A.getD 96 undef), (A.getD 97 undef), (A.getD 98 undef), (A.getD 99 undef), (A.getD 100 undef), (A.getD 101 undef), (A.getD 102 undef), (A.getD 103 undef), (A.getD 104 undef), (A.getD 105 undef), (A.getD 106 undef), (A.getD 107 undef), (A.getD 108 undef), (A.getD 109 undef), (A.getD 110 undef), (A.getD 111 undef), (A.getD 112 undef), (A.getD 113 undef), (A.getD 114 undef), (A.getD 115 undef), (A.getD 116 undef), (A.getD 117 undef), (A.getD 118 undef), (A.getD 119 undef), (A.getD 120 undef), (A.getD 121 undef), (A.getD 122 undef), (A.getD 123 undef), (A.getD 124 undef), (A.getD 125 undef)] := (arrN A 126 h).trans rfl
structure JS (w0 : World) (b : Nat) (l : List UInt8) (Z : ZL) (r lab : Nat) (act : Act) (w : World) : Prop where
  sz : act.tmps.size = 126
  s0 : act.tmps.getD 0 undef = .pointer (some ⟨b, 0, none⟩)
  s2 : act.tmps.getD 2 undef = .bool false
  df : act.defers = []
  st : StL w0 b l Z r lab w
theorem js_mk {u1 u3 u4 u5 u6 u7 u8 u9 u10 u11 u12 u13 u14 u15 u16 u17 u18 u19 u20 u21 u22 u23 u24 u25 u26 u27 u28 u29 u30 u31 u32 u33 u34 u35 u36 u37 u38 u39 u40 u41 u42 u43 u44 u45 u46 u47 u48 u49 u50 u51 u52 u53 u54 u55 u56 u57 u58 u59 u60 u61 u62 u63 u64 u65 u66 u67 u68 u69 u70 u71 u72 u73 u74 u75 u76 u77 u78 u79 u80 u81 u82 u83 u84 u85 u86 u87 u88 u89 u90 u91 u92 u93 u94 u95 u96 u97 u98 u99 u100 u101 u102 u103 u104 u105 u106 u107 u108 u109 u110 u111 u112 u113 u114 u115 u116 u117 u118 u119 u120 u121 u122 u123 u124 u125 : Value} {r' lab : Nat} (hr : r' < r) (h : StL w0 b l Z r' lab w) : ∃ r', r' < r ∧ JS w0 b l Z r' lab { tmps := #[.pointer (some ⟨b, 0, none⟩), u1, .bool false, u3, u4, u5, u6, u7, u8, u9, u10, u11, u12, u13, u14, u15, u16, u17, u18, u19, u20, u21, u22, u23, u24, u25, u26, u27, u28, u29, u30, u31, u32, u33, u34, u35, u36, u37, u38, u39, u40, u41, u42, u43, u44, u45, u46, u47, u48, u49, u50, u51, u52, u53, u54, u55, u56, u57, u58, u59, u60, u61, u62, u63, u64, u65, u66, u67, u68, u69, u70, u71, u72, u73, u74, u75, u76, u77, u78, u79, u80, u81, u82, u83, u84, u85, u86, u87, u88, u89, u90, u91, u92, u93, u94, u95, u96, u97, u98, u99, u100, u101, u102, u103, u104, u105, u106, u107, u108, u109, u110, u111, u112, u113, u114, u115, u116, u117, u118, u119, u120, u121, u122, u123, u124, u125], defers := [] } w := ⟨r', hr, rfl, rfl, rfl, rfl, h⟩
theorem js_elim {Pp : Act → World → Prop} {act : Act} {lab : Nat} (hJ : JS w0 b l Z r lab act w) (h : ∀ (u1 u3 u4 u5 u6 u7 u8 u9 u10 u11 u12 u13 u14 u15 u16 u17 u18 u19 u20 u21 u22 u23 u24 u25 u26 u27 u28 u29 u30 u31 u32 u33 u34 u35 u36 u37 u38 u39 u40 u41 u42 u43 u44 u45 u46 u47 u48 u49 u50 u51 u52 u53 u54 u55 u56 u57 u58 u59 u60 u61 u62 u63 u64 u65 u66 u67 u68 u69 u70 u71 u72 u73 u74 u75 u76 u77 u78 u79 u80 u81 u82 u83 u84 u85 u86 u87 u88 u89 u90 u91 u92 u93 u94 u95 u96 u97 u98 u99 u100 u101 u102 u103 u104 u105 u106 u107 u108 u109 u110 u111 u112 u113 u114 u115 u116 u117 u118 u119 u120 u121 u122 u123 u124 u125 : Value), StL w0 b l Z r lab w → Pp { tmps := #[.pointer (some ⟨b, 0, none⟩), u1, .bool false, u3, u4, u5, u6, u7, u8, u9, u10, u11, u12, u13, u14, u15, u16, u17, u18, u19, u20, u21, u22, u23, u24, u25, u26, u27, u28, u29, u30, u31, u32, u33, u34, u35, u36, u37, u38, u39, u40, u41, u42, u43, u44, u45, u46, u47, u48, u49, u50, u51, u52, u53, u54, u55, u56, u57, u58, u59, u60, u61, u62, u63, u64, u65, u66, u67, u68, u69, u70, u71, u72, u73, u74, u75, u76, u77, u78, u79, u80, u81, u82, u83, u84, u85, u86, u87, u88, u89, u90, u91, u92, u93, u94, u95, u96, u97, u98, u99, u100, u101, u102, u103, u104, u105, u106, u107, u108, u109, u110, u111, u112, u113, u114, u115, u116, u117, u118, u119, u120, u121, u122, u123, u124, u125], defers := [] } w) : Pp act w := by
  obtain ⟨A, D⟩ := act
  have e := arr126 A hJ.sz
  have s0 : A.getD 0 undef = .pointer (some ⟨b, 0, none⟩) := hJ.s0
  have s2 : A.getD 2 undef = .bool false := hJ.s2
  have df : D = [] := hJ.df
  rw [s0, s2] at e
  rw [e, df]
  exact h _ _ _ _ _ _ _ _ _ _ _ _ _ _ _ _ _ _ _ _ _ _ _ _ _ _ _ _ _ _ _ _ _ _ _ _ _ _ _ _ _ _ _ _ _ _ _ _ _ _ _ _ _ _ _ _ _ _ _ _ _ _ _ _ _ _ _ _ _ _ _ _ _ _ _ _ _ _ _ _ _ _ _ _ _ _ _ _ _ _ _ _ _ _ _ _ _ _ _ _ _ _ _ _ _ _ _ _ _ _ _ _ _ _ _ _ _ _ _ _ _ _ _ _ hJ.st
set_option maxRecDepth 40000 in
theorem wp_scope_scan {c : Code} {act : Act} {Q : Exit → Act → World → Prop} (r0 : Nat) (h0 : StL w0 b l Z r0 0 w) (hc : ∀ (X : Code) (Q : Exit → Act → World → Prop), findLabel c 0 = some (Code.skip.seq X) → X.wp Tryd.prog Q { tmps := #[.pointer (some ⟨b, 0, none⟩), undef, .bool false, undef, undef, undef, undef, undef, undef, undef, undef, undef, undef, undef, undef, undef, undef, undef, undef, undef, undef, undef, undef, undef, undef, undef, undef, undef, undef, undef, undef, undef, undef, undef, undef, undef, undef, undef, undef, undef, undef, undef, undef, undef, undef, undef, undef, undef, undef, undef, undef, undef, undef, undef, undef, undef, undef, undef, undef, undef, undef, undef, undef, undef, undef, undef, undef, undef, undef, undef, undef, undef, undef, undef, undef, undef, undef, undef, undef, undef, undef, undef, undef, undef, undef, undef, undef, undef, undef, undef, undef, undef, undef, undef, undef, undef, undef, undef, undef, undef, undef, undef, undef, undef, undef, undef, undef, undef, undef, undef, undef, undef, undef, undef, undef, undef, undef, undef, undef, undef, undef, undef, undef, undef, undef, undef], defers := [] } w → c.wp Tryd.prog Q act w)
    (pass : ∀ (r lab : Nat) (W : World) (u1 u3 u4 u5 u6 u7 u8 u9 u10 u11 u12 u13 u14 u15 u16 u17 u18 u19 u20 u21 u22 u23 u24 u25 u26 u27 u28 u29 u30 u31 u32 u33 u34 u35 u36 u37 u38 u39 u40 u41 u42 u43 u44 u45 u46 u47 u48 u49 u50 u51 u52 u53 u54 u55 u56 u57 u58 u59 u60 u61 u62 u63 u64 u65 u66 u67 u68 u69 u70 u71 u72 u73 u74 u75 u76 u77 u78 u79 u80 u81 u82 u83 u84 u85 u86 u87 u88 u89 u90 u91 u92 u93 u94 u95 u96 u97 u98 u99 u100 u101 u102 u103 u104 u105 u106 u107 u108 u109 u110 u111 u112 u113 u114 u115 u116 u117 u118 u119 u120 u121 u122 u123 u124 u125 : Value), StL w0 b l Z r lab W → ∃ X, findLabel c lab = some (Code.skip.seq X) ∧ X.wp Tryd.prog (jumpsL (fun l' a' w' => ∃ r', r' < r ∧ JS w0 b l Z r' l' a' w') Q) { tmps := #[.pointer (some ⟨b, 0, none⟩), u1, .bool false, u3, u4, u5, u6, u7, u8, u9, u10, u11, u12, u13, u14, u15, u16, u17, u18, u19, u20, u21, u22, u23, u24, u25, u26, u27, u28, u29, u30, u31, u32, u33, u34, u35, u36, u37, u38, u39, u40, u41, u42, u43, u44, u45, u46, u47, u48, u49, u50, u51, u52, u53, u54, u55, u56, u57, u58, u59, u60, u61, u62, u63, u64, u65, u66, u67, u68, u69, u70, u71, u72, u73, u74, u75, u76, u77, u78, u79, u80, u81, u82, u83, u84, u85, u86, u87, u88, u89, u90, u91, u92, u93, u94, u95, u96, u97, u98, u99, u100, u101, u102, u103, u104, u105, u106, u107, u108, u109, u110, u111, u112, u113, u114, u115, u116, u117, u118, u119, u120, u121, u122, u123, u124, u125], defers := [] } W) : (Code.scope c).wp Tryd.prog Q act w :=
  wp_scope_labels (JS w0 b l Z) r0 0 ⟨rfl, rfl, rfl, rfl, h0⟩ hc (fun r lab _ W hJ => js_elim (Pp := fun a W => ∃ X, findLabel c lab = some (Code.skip.seq X) ∧ X.wp Tryd.prog (jumpsL (fun l' a' w' => ∃ r', r' < r ∧ JS w0 b l Z r' l' a' w') Q) a W) hJ (pass r lab W))
theorem rank_run {N a p : Nat} (ha : a ≤ N) : (N + 10) * (N - a) + 1 + (N - p) < (N + 10) * (N - a) + (N + 9) := by omega
theorem rank_end {N a p : Nat} (h : a < p) (hp : p ≤ N) : (N + 10) * (N - p) + (N + 9) < (N + 10) * (N - a) := by
  have h1 : N - a = (N - p) + (p - a) := by omega
  rw [h1, Nat.mul_add]
  have h2 : N + 10 ≤ (N + 10) * (p - a) := Nat.le_mul_of_pos_right _ (by omega)
  omega
theorem rank_next {N p : Nat} (hp : p < N) : (N + 10) * (N - (p + 1)) + (N + 9) < (N + 10) * (N - p) + (N + 9) := by
  have h1 : N - p = (N - (p + 1)) + 1 := by omega
  rw [h1, Nat.mul_add]
  omega
theorem tok_run (c : UInt8) (s : List UInt8) (h : isB c = true) (m : Nat) (e : rnL (c :: s) = some m) : tokF (c :: s) = some ⟨kdF ((c :: s).take m), txF ((c :: s).take m), 0, m⟩ := by
  rw [tokF, if_pos h, e]; rfl
theorem tok_run0 (c : UInt8) (s : List UInt8) (h : isB c = true) (e : rnL (c :: s) = none) : tokF (c :: s) = none := by
  rw [tokF, if_pos h, e]; rfl
theorem isB_101 (c : UInt8) (h : isB c = true) : cl c ≠ 101 := by
  have := (isB_iff c).1 h
  omega
theorem run_end {f : Nat} {c : UInt8} {s : List UInt8} (hd : l.drop a = c :: s) (hB : isB c = true) (hap : a ≤ p) (hr : rnL (l.drop a) = some (p - a)) (hZ : Z = cmL L (scF (f + 1) a (l.drop a))) (R : List UInt8) (hR : R = (l.drop a).take (p - a)) : Z = cmL (L ++ [⟨kdF R, txF R, 0, a, p⟩]) (scF f p (l.drop p)) := by
  have e1 : l.drop p = (l.drop a).drop (p - a) := by rw [List.drop_drop]; congr 1; omega
  rw [e1]
  rw [hd] at hr hZ hR ⊢
  have ht := tok_run c s hB _ hr
  rw [← hR] at ht
  rw [hZ, sc_tok f a c s (isB_101 c hB) _ ht, cm_cm]
  show cmL (L ++ [⟨kdF R, txF R, 0, a, a + (p - a)⟩]) (scF f (a + (p - a)) _) = _
  rw [show a + (p - a) = p by omega]
theorem run_bad {f : Nat} {c : UInt8} {s : List UInt8} (hd : l.drop a = c :: s) (hB : isB c = true) (hr : rnL (l.drop a) = none) (hZ : Z = cmL L (scF (f + 1) a (l.drop a))) : Z.2 = some a := by
  rw [hd] at hr hZ
  rw [hZ, sc_bad f a c s (isB_101 c hB) (tok_run0 c s hB hr)]
  rfl
theorem tok_quo (s : List UInt8) (m : Nat) (e : qoL s = some m) : tokF (34 :: s) = some ⟨3, litF (s.take (m - 1)), 0, m + 1⟩ := by
  rw [tokF, if_neg (by decide +kernel), if_pos (by decide +kernel), e]; rfl
theorem tok_quo0 (s : List UInt8) (e : qoL s = none) : tokF (34 :: s) = none := by
  rw [tokF, if_neg (by decide +kernel), if_pos (by decide +kernel), e]; rfl
theorem cl_34 : cl 34 ≠ 101 := by decide +kernel
theorem quo_end {f : Nat} {s : List UInt8} (hd : l.drop a = 34 :: s) (hap : a < p) (hr : qoL s = some (p - (a + 1))) (hZ : Z = cmL L (scF (f + 1) a (l.drop a))) : Z = cmL (L ++ [⟨3, litF (s.take (p - (a + 1) - 1)), 0, a, p⟩]) (scF f p (l.drop p)) := by
  have e1 : l.drop p = (l.drop a).drop (p - a) := by rw [List.drop_drop]; congr 1; omega
  rw [e1]
  rw [hd] at hZ ⊢
  rw [hZ, sc_tok f a 34 s cl_34 _ (tok_quo s _ hr), cm_cm]
  show cmL (L ++ [⟨3, litF (s.take (p - (a + 1) - 1)), 0, a, a + (p - (a + 1) + 1)⟩]) (scF f (a + (p - (a + 1) + 1)) ((34 :: s).drop (p - (a + 1) + 1))) = _
  rw [show a + (p - (a + 1) + 1) = p by omega, show p - (a + 1) + 1 = p - a by omega]
theorem quo_bad {f : Nat} {s : List UInt8} (hd : l.drop a = 34 :: s) (hr : qoL s = none) (hZ : Z = cmL L (scF (f + 1) a (l.drop a))) : Z.2 = some a := by
  rw [hd] at hZ
  rw [hZ, sc_bad f a 34 s cl_34 (tok_quo0 s hr)]
  rfl
theorem cl_quo (c : UInt8) : (cl c == 3) = (c == 34) := by
  have := u8_all (fun c => (cl c == 3) == (c == 34)) (by decide +kernel) c
  simpa using this
/-- The text, the place, the token's place. -/
def S3q (b : Nat) (s : ByteArray) (p a : Nat) (V : World) : Prop := V.cell? ⟨b, 0, none⟩ = some (.string s) ∧ V.cell? ⟨b, 1, none⟩ = some (.int .i64 (p : Int)) ∧ V.cell? ⟨b, 5, none⟩ = some (.int .i64 (a : Int))
theorem s3q (h : Sc w0 w b l p k t n a e v m L) : S3q b (bq l) p a w := ⟨h.cells.1, h.cells.2.1, h.cells.2.2.2.2.2.1⟩
theorem drop_next {x : UInt8} {s : List UInt8} (h : l.drop p = x :: s) : p < l.length ∧ l.drop (p + 1) = s := by
  refine ⟨?_, ?_⟩
  · rcases Nat.lt_or_ge p l.length with q | q
    · exact q
    · rw [List.drop_of_length_le q] at h; cases h
  · have := congrArg (List.drop 1) h
    rw [List.drop_drop] at this
    exact this
theorem map_add (o : Option Nat) (i j : Nat) : (o.map (· + i)).map (· + j) = o.map (· + (i + j)) := by
  cases o with
  | none => rfl
  | some x => show some (x + i + j) = some (x + (i + j)); rw [Nat.add_assoc]
theorem map_none {o : Option Nat} {i : Nat} (h : o = none) : o.map (· + i) = none := by rw [h]; rfl
theorem tok_single (c : UInt8) (s : List UInt8) (h0 : isB c = false) (h1 : cl c ≠ 3) (h2 : cl c ≠ 20) (h3 : cl c ≠ 18) (h4 : cl c ≠ 21) : tokF (c :: s) = some ⟨cl c, [], 0, 1⟩ := by
  rw [tokF, if_neg (by rw [h0]; decide), if_neg h1, if_neg h2, if_neg h3, if_neg h4]
theorem tok_til0 (c : UInt8) (s : List UInt8) (h0 : isB c = false) (h2 : cl c = 20) (h : dgL s = 0) : tokF (c :: s) = some ⟨20, [], -1, 1⟩ := by
  rw [tokF, if_neg (by rw [h0]; decide), if_neg (by omega), if_pos h2, if_pos h]
theorem tok_til (c : UInt8) (s : List UInt8) (h0 : isB c = false) (h2 : cl c = 20) (h : dgL s ≠ 0) : tokF (c :: s) = numT 20 1 s := by
  rw [tokF, if_neg (by rw [h0]; decide), if_neg (by omega), if_pos h2, if_neg h]
theorem tok_const (c : UInt8) (s : List UInt8) (h0 : isB c = false) (h2 : cl c = 18) (h : s.head? = some 61) : tokF (c :: s) = numT 19 2 (s.drop 1) := by
  rw [tokF, if_neg (by rw [h0]; decide), if_neg (by omega), if_neg (by omega), if_pos h2, if_pos h]
theorem tok_boost (c : UInt8) (s : List UInt8) (h0 : isB c = false) (h2 : cl c = 18) (h : s.head? ≠ some 61) : tokF (c :: s) = numT 18 1 s := by
  rw [tokF, if_neg (by rw [h0]; decide), if_neg (by omega), if_neg (by omega), if_pos h2, if_neg h]
theorem tok_least (c : UInt8) (s : List UInt8) (h0 : isB c = false) (h2 : cl c = 21) : tokF (c :: s) = numT 21 1 s := by
  rw [tokF, if_neg (by rw [h0]; decide), if_neg (by omega), if_neg (by omega), if_neg (by omega), if_pos h2]
theorem isB_no (c : UInt8) (h : cl c = 3 ∨ cl c = 20 ∨ cl c = 18 ∨ cl c = 21) : isB c = false := by
  cases e : isB c with
  | false => rfl
  | true => have := (isB_iff c).1 e; omega
theorem cl_not (c : UInt8) : cl c ≠ 1 ∧ cl c ≠ 19 ∧ cl c ≠ 105 := by
  have := u8_all (fun c => !(cl c == 1) && !(cl c == 19) && !(cl c == 105)) (by decide +kernel) c
  simp at this
  exact ⟨this.1.1, this.1.2, this.2⟩
theorem tok_step {g q : Nat} {c : UInt8} {s : List UInt8} {tk : Tk} (hd : l.drop p = c :: s) (hc : cl c ≠ 101) (ht : tokF (c :: s) = some tk) (hq : q = p + tk.z) (hZ : Z = cmL L (scF (g + 1) p (l.drop p))) : Z = cmL (L ++ [⟨tk.k, tk.t, tk.n, p, q⟩]) (scF g q (l.drop q)) := by
  have e1 : l.drop q = (l.drop p).drop tk.z := by rw [List.drop_drop, hq]
  rw [e1]
  rw [hd] at hZ ⊢
  rw [hZ, sc_tok g p c s hc tk ht, cm_cm, hq]
theorem tok_fault {g : Nat} {c : UInt8} {s : List UInt8} (hd : l.drop p = c :: s) (hc : cl c ≠ 101) (ht : tokF (c :: s) = none) (hZ : Z = cmL L (scF (g + 1) p (l.drop p))) : Z.2 = some p := by
  rw [hd] at hZ
  rw [hZ, sc_bad g p c s hc ht]
  rfl
theorem bg_B (c : UInt8) (s : List UInt8) (h : isB c = true) : bgK (c :: s) = 1 ∧ bgM (c :: s) = 0 := ⟨by rw [bgK, if_pos h], by rw [bgM, if_pos h]⟩
theorem bg_O (c : UInt8) (s : List UInt8) (h : isB c = false) (h2 : cl c ≠ 18 ∨ s.head? ≠ some 61) : bgK (c :: s) = cl c ∧ bgM (c :: s) = 1 :=
  ⟨by rw [bgK, if_neg (by rw [h]; decide), if_neg (fun x => h2.elim (fun y => y x.1) (fun y => y x.2))], by rw [bgM, if_neg (by rw [h]; decide), if_neg (fun x => h2.elim (fun y => y x.1) (fun y => y x.2))]⟩
theorem bg_C (c : UInt8) (s : List UInt8) (h : isB c = false) (h1 : cl c = 18) (h2 : s.head? = some 61) : bgK (c :: s) = 19 ∧ bgM (c :: s) = 2 :=
  ⟨by rw [bgK, if_neg (by rw [h]; decide), if_pos ⟨h1, h2⟩], by rw [bgM, if_neg (by rw [h]; decide), if_pos ⟨h1, h2⟩]⟩
set_option maxRecDepth 40000 in
set_option maxHeartbeats 8000000 in
theorem scan_any (h : Sc w0 w b l 0 k t n a e v 0 []) (hC : ClsAt w0) (hl : l.length ≤ 400000000000) :
    Calls Tryd.prog 24 #[.pointer (some ⟨b, 0, none⟩)] w (scPost w0 b l (scanF l)) := by
  obtain ⟨Z, hZ⟩ : ∃ Z, Z = scanF l := ⟨_, rfl⟩
  have H0 : Hid (StL w0 b l Z ((l.length + 10) * (l.length - 0) + (l.length + 9)) 0 w) := hideL (.inl ⟨rfl, 0, k, t, n, a, e, v, 0, [], l.length + 1, h, by omega, by omega, hZ, by omega, rfl⟩)
  rw [← hZ]
  have HC := hideL hC
  clear hZ h hC
  go_enter Tryd.func24, Tryd.ntmps24
  go_wp2_with fail
  refine wp_scope_scan _ H0.out ?_ ?_
  · intro X Q' hX hx
    cases hX
    go_wp2_with fail
    refine wp_label ?_
    rename_i K hK
    exact hK _ _ hx
  · clear H0
    intro r lab w' u1 u3 u4 u5 u6 u7 u8 u9 u10 u11 u12 u13 u14 u15 u16 u17 u18 u19 u20 u21 u22 u23 u24 u25 u26 u27 u28 u29 u30 u31 u32 u33 u34 u35 u36 u37 u38 u39 u40 u41 u42 u43 u44 u45 u46 u47 u48 u49 u50 u51 u52 u53 u54 u55 u56 u57 u58 u59 u60 u61 u62 u63 u64 u65 u66 u67 u68 u69 u70 u71 u72 u73 u74 u75 u76 u77 u78 u79 u80 u81 u82 u83 u84 u85 u86 u87 u88 u89 u90 u91 u92 u93 u94 u95 u96 u97 u98 u99 u100 u101 u102 u103 u104 u105 u106 u107 u108 u109 u110 u111 u112 u113 u114 u115 u116 u117 u118 u119 u120 u121 u122 u123 u124 u125 hS
    rcases hS with ⟨rfl, hS⟩ | ⟨rfl, hS⟩ | ⟨rfl, hS⟩ | ⟨rfl, hS⟩
    · refine ⟨_, rfl, ?_⟩
      obtain ⟨p, k, t, n, a, e, v, m, L, f, hs, hp, hmp, hZ, hf, rfl⟩ := hS
      obtain ⟨g, rfl⟩ : ∃ g, f = g + 1 := ⟨f - 1, by omega⟩
      have HS := hideL hs
      have hpb : p ≤ 400000000000 := by omega
      have C0 := hideL (class_any hs (HC.out.later hs.kept) hp hl)
      have CB0 := hideL (fun (W : World) (hW : Sc w0 W b l p k t n a e v m L) => begin_any hW HC.out hp hl)
      unfold bgPost at CB0
      cases hdp : l.drop p with
      | nil =>
        rw [hdp] at C0 CB0
        have C2 : Hid (Calls Tryd.prog 47 #[.pointer (some ⟨b, 0, none⟩)] w' fun e w'' => e = .returned (.int .i64 (105 : Nat)) ∧ Kept (fun _ => False) w' w'') := C0
        have CB : Hid (∀ (W : World), Sc w0 W b l p k t n a e v m L → Calls Tryd.prog 48 #[.pointer (some ⟨b, 0, none⟩)] W fun x w' => x = .returned (.tuple #[]) ∧ Sc w0 w' b l p 0 [] 0 p 0 v m L) := CB0
        have CE := hideL (fun (W : World) (hW : Sc w0 W b l p 0 [] 0 p 0 v m L) => end_any hW (by omega))
        rw [hdp, sc_nil] at hZ
        have HZ := hideL hZ
        clear C0 CB0 hs hdp hZ
        go_wp2_with (first
          | (go_at_call 47; refine C2.out.mono ?_; clear C2; rintro x W1 ⟨rfl, k1⟩; have H1 := hideL (HS.out.later k1); have x1 := H1.out.cells.2.1; have f1 := H1.out.free 1; clear HS k1)
          | (go_at_call 48; refine (CB.out _ H1.out).mono ?_; clear CB; rintro x W2 ⟨rfl, h2⟩; have H2 := hideL h2; have x2 := H2.out.cells.2.2.1; clear h2 H1 x1 f1)
          | (go_at_call 49; refine (CE.out _ H2.out).mono ?_; clear CE; rintro x W3 ⟨rfl, v', h3⟩; have H3 := hideL h3; clear h3 H2 x2))
        rw [jumpsL_ret]
        go_ret
        exact .inl ⟨by rw [HZ.out]; rfl, rfl, p, 0, [], 0, p, p, v', m + 1, by rw [HZ.out]; exact H3.out⟩
      | cons c s =>
        obtain ⟨hplt, hd1⟩ := drop_next hdp
        rw [hdp] at C0 CB0
        have C2 : Hid (Calls Tryd.prog 47 #[.pointer (some ⟨b, 0, none⟩)] w' fun e w'' => e = .returned (.int .i64 (cl c : Nat)) ∧ Kept (fun _ => False) w' w'') := C0
        have HW1 : Hid ((p : Int) + 1 = ((p + 1 : Nat) : Int)) := hideL (by omega)
        by_cases h101 : cl c = 101
        · rw [h101] at C2
          have HZ : Hid (Z = cmL L (scF g (p + 1) (l.drop (p + 1)))) := hideL (by rw [hZ, hdp, sc_blank g p c s h101, hd1])
          have HRK := hideL (rank_next hplt)
          have HQ : Hid (p + 1 ≤ l.length ∧ m ≤ p + 1 ∧ l.length - (p + 1) < g) := hideL ⟨by omega, by omega, by omega⟩
          clear C0 CB0 hs hdp hZ hd1 h101
          go_wp2_with (go_at_call 47; refine C2.out.mono ?_; clear C2; rintro x W1 ⟨rfl, k1⟩; have H1 := hideL (HS.out.later k1); have x1 := H1.out.cells.2.1; have f1 := H1.out.free 1; clear HS k1)
          have H4 := hideL (H1.out.setP (p + 1) ((p : Int) + 1) HW1.out)
          go_step3
          exact js_mk HRK.out (.inl ⟨rfl, p + 1, k, t, n, a, e, v, m, L, g, H4.out, HQ.out.1, HQ.out.2.1, HZ.out, HQ.out.2.2, rfl⟩)
        · have q101 : ((cl c : Int) == 101) = false := by rw [beq_eq_false_iff_ne]; omega
          have hc4 := cl_lt c
          obtain ⟨n1, n19, n105⟩ := cl_not c
          by_cases hB : isB c = true
          · rw [(bg_B c s hB).1, (bg_B c s hB).2] at CB0
            have CB : Hid (∀ (W : World), Sc w0 W b l p k t n a e v m L → Calls Tryd.prog 48 #[.pointer (some ⟨b, 0, none⟩)] W fun x w' => x = .returned (.tuple #[]) ∧ Sc w0 w' b l p 1 [] 0 p 0 v m L) := CB0
            have HRK := hideL (rank_run (N := l.length) (a := p) (p := p) hp)
            have HO : Hid (rnL (l.drop p) = (rnL (l.drop p)).map (· + (p - p))) := hideL (by rw [Nat.sub_self]; cases rnL (l.drop p) <;> rfl)
            have HQ := hideL (show p ≤ l.length ∧ m ≤ p ∧ l.drop p = c :: s ∧ isB c = true ∧ Z = cmL L (scF (g + 1) p (l.drop p)) ∧ l.length - p < g + 1 from ⟨hp, hmp, hdp, hB, hZ, hf⟩)
            generalize cl c = kk at *
            clear C0 CB0 hs hdp hZ hd1 h101 hB hc4 n1 n19 n105
            go_wp2_with (first
              | (go_at_call 47; refine C2.out.mono ?_; clear C2; rintro x W1 ⟨rfl, k1⟩; have H1 := hideL (HS.out.later k1); have x1 := H1.out.cells.2.1; have f1 := H1.out.free 1; clear HS k1)
              | (go_at_call 48; refine (CB.out _ H1.out).mono ?_; clear CB; rintro x W2 ⟨rfl, h2⟩; have H2 := hideL h2; have x2 := H2.out.cells.2.2.1; clear h2 H1 x1 f1))
            go_step3
            exact js_mk HRK.out (.inr (.inl ⟨rfl, p, p, v, m, L, g, c, s, H2.out, Nat.le_refl _, HQ.out.1, HQ.out.2.1, HQ.out.2.2.1, HQ.out.2.2.2.1, HO.out, HQ.out.2.2.2.2.1, HQ.out.2.2.2.2.2, rfl⟩))
          · have hB0 : isB c = false := by simpa using hB
            by_cases h3 : cl c = 3
            · obtain rfl : c = 34 := by
                have := cl_quo c
                rw [h3] at this
                exact eq_of_beq this.symm
              rw [(bg_O 34 s hB0 (.inl (by omega))).1, (bg_O 34 s hB0 (.inl (by omega))).2, h3] at CB0
              have CB : Hid (∀ (W : World), Sc w0 W b l p k t n a e v m L → Calls Tryd.prog 48 #[.pointer (some ⟨b, 0, none⟩)] W fun x w' => x = .returned (.tuple #[]) ∧ Sc w0 w' b l (p + 1) 3 [] 0 p 0 v m L) := CB0
              have HRK := hideL (rank_run (N := l.length) (a := p) (p := p + 1) hp)
              have HO : Hid (qoL s = (qoL (l.drop (p + 1))).map (· + (p + 1 - (p + 1)))) := hideL (by rw [Nat.sub_self, hd1]; cases qoL s <;> rfl)
              have HQ := hideL (show p < p + 1 ∧ p + 1 ≤ l.length ∧ m ≤ p ∧ l.drop p = 34 :: s ∧ Z = cmL L (scF (g + 1) p (l.drop p)) ∧ l.length - p < g + 1 from ⟨by omega, by omega, hmp, hdp, hZ, hf⟩)
              rw [h3] at C2
              clear C0 CB0 hs hdp hZ hd1 h101 hB hB0 hc4 n1 n19 n105 h3 q101
              go_wp2_with (first
                | (go_at_call 47; refine C2.out.mono ?_; clear C2; rintro x W1 ⟨rfl, k1⟩; have H1 := hideL (HS.out.later k1); have x1 := H1.out.cells.2.1; have f1 := H1.out.free 1; clear HS k1)
                | (go_at_call 48; refine (CB.out _ H1.out).mono ?_; clear CB; rintro x W2 ⟨rfl, h2⟩; have H2 := hideL h2; have x2 := H2.out.cells.2.2.1; clear h2 H1 x1 f1))
              go_step3
              exact js_mk HRK.out (.inr (.inr (.inl ⟨rfl, p + 1, p, v, m, L, g, s, H2.out, HQ.out.1, HQ.out.2.1, HQ.out.2.2.1, HQ.out.2.2.2.1, HO.out, HQ.out.2.2.2.2.1, HQ.out.2.2.2.2.2, rfl⟩)))
            · by_cases h20 : cl c = 20
              · rw [(bg_O c s hB0 (.inl (by omega))).1, (bg_O c s hB0 (.inl (by omega))).2, h20] at CB0
                have CB : Hid (∀ (W : World), Sc w0 W b l p k t n a e v m L → Calls Tryd.prog 48 #[.pointer (some ⟨b, 0, none⟩)] W fun x w' => x = .returned (.tuple #[]) ∧ Sc w0 w' b l (p + 1) 20 [] 0 p 0 v m L) := CB0
                have CD := hideL (fun (W : World) (hW : Sc w0 W b l (p + 1) 20 [] 0 p 0 v m L) => class_any hW (HC.out.later hW.kept) (by omega) hl)
                rw [h20] at C2
                by_cases hdg : dgL s = 0
                · have hcl : clA (l.drop (p + 1)) ≠ 102 := by
                    rw [hd1]
                    cases s with
                    | nil => exact fun x => by cases x
                    | cons d r => intro x; have x2 : cl d = 102 := x; rw [dg_yes d r x2] at hdg; cases hdg
                  have hle := clA_le (l.drop (p + 1))
                  have HZ := hideL (tok_step (q := p + 1) hdp h101 (tok_til0 c s hB0 h20 hdg) rfl hZ)
                  have HRK : Hid ((l.length + 10) * (l.length - p) < (l.length + 10) * (l.length - p) + (l.length + 9)) := hideL (by omega)
                  have HQ := hideL (show p < p + 1 ∧ p + 1 ≤ l.length ∧ m ≤ p ∧ l.length - (p + 1) < g from ⟨by omega, by omega, hmp, by omega⟩)
                  generalize clA (l.drop (p + 1)) = kk at *
                  have q2 : ((kk : Int) != 102) = true := by simp; omega
                  clear C0 CB0 hs hdp hZ hd1 h101 hB hB0 hc4 n1 n19 n105 h3 q101 h20 hdg hcl hle
                  go_wp2_with (first
                    | (go_at_call 47; refine C2.out.mono ?_; clear C2; rintro x W1 ⟨rfl, k1⟩; have H1 := hideL (HS.out.later k1); have x1 := H1.out.cells.2.1; have f1 := H1.out.free 1; clear HS k1)
                    | (go_at_call 48; refine (CB.out _ H1.out).mono ?_; clear CB; rintro x W2 ⟨rfl, h2⟩; have H2 := hideL h2; have x2 := H2.out.cells.2.2.1; clear h2 H1 x1 f1)
                    | (go_at_call 47; refine (CD.out _ H2.out).mono ?_; clear CD; rintro x W3 ⟨rfl, k3⟩; have H3 := hideL (H2.out.later k3); have x4 := H3.out.cells.2.2.2.2.1; have f4 := H3.out.free 4; clear H2 k3 x2))
                  have H4 := hideL (H3.out.setN (-1))
                  go_step3
                  exact js_mk HRK.out (.inr (.inr (.inr ⟨rfl, p + 1, 20, [], -1, p, v, m, L, g, H4.out, HQ.out.1, HQ.out.2.1, HQ.out.2.2.1, HZ.out, HQ.out.2.2.2, rfl⟩)))
                · have hcl : clA (l.drop (p + 1)) = 102 := by
                    rw [hd1]
                    cases s with
                    | nil => exact absurd rfl hdg
                    | cons d r =>
                      show cl d = 102
                      by_cases x2 : cl d = 102
                      · exact x2
                      · exact absurd (dg_no d r x2) hdg
                  rw [hcl] at CD
                  have htk : tokF (c :: s) = numT 20 1 (l.drop (p + 1)) := by rw [hd1]; exact tok_til c s hB0 h20 hdg
                  clear hcl hdg h20
                  have hpM : p + 1 ≤ l.length := by omega
                  have CNm := hideL (fun (W : World) (hW : Sc w0 W b l (p + 1) 20 [] ((0 : Nat) : Int) p 0 v m L) => number_any 0 hW HC.out hpM hl (by omega))
                  have hdl := dg_le (l.drop (p + 1))
                  rw [List.length_drop] at hdl
                  by_cases hN : 0 < dgL (l.drop (p + 1)) ∧ nmV 0 (l.drop (p + 1)) ≤ 999999999
                  · rw [decide_eq_true hN.1, decide_eq_true hN.2] at CNm
                    have htk2 : tokF (c :: s) = some ⟨20, [], (nmV 0 (l.drop (p + 1)) : Nat), 1 + dgL (l.drop (p + 1))⟩ := by rw [htk, numT, if_pos hN]
                    have HZ := hideL (tok_step (q := p + 1 + dgL (l.drop (p + 1))) hdp h101 htk2 (by show _ = p + (1 + _); omega) hZ)
                    have HRK : Hid ((l.length + 10) * (l.length - p) < (l.length + 10) * (l.length - p) + (l.length + 9)) := hideL (by omega)
                    have HQ := hideL (show p < p + 1 + dgL (l.drop (p + 1)) ∧ p + 1 + dgL (l.drop (p + 1)) ≤ l.length ∧ m ≤ p ∧ l.length - (p + 1 + dgL (l.drop (p + 1))) < g from ⟨by omega, by omega, hmp, by omega⟩)
                    have CN2 : Hid (∀ (W : World), Sc w0 W b l (p + 1) 20 [] 0 p 0 v m L → Calls Tryd.prog 50 #[.pointer (some ⟨b, 0, none⟩)] W fun x w' => x = .returned (.bool true) ∧ Sc w0 w' b l (p + 1 + dgL (l.drop (p + 1))) 20 [] (nmV 0 (l.drop (p + 1)) : Nat) p 0 v m L) := CNm
                    generalize p + 1 + dgL (l.drop (p + 1)) = pe at *
                    generalize nmV 0 (l.drop (p + 1)) = nv at *
                    clear C0 CB0 hs hdp hZ hd1 h101 hB hB0 hc4 n1 n19 n105 h3 q101 htk htk2 hN CNm hdl
                    go_wp2_with (first
                      | (go_at_call 47; refine C2.out.mono ?_; clear C2; rintro x W1 ⟨rfl, k1⟩; have H1 := hideL (HS.out.later k1); have x1 := H1.out.cells.2.1; have f1 := H1.out.free 1; clear HS k1)
                      | (go_at_call 48; refine (CB.out _ H1.out).mono ?_; clear CB; rintro x W2 ⟨rfl, h2⟩; have H2 := hideL h2; have x2 := H2.out.cells.2.2.1; clear h2 H1 x1 f1)
                      | (go_at_call 47; refine (CD.out _ H2.out).mono ?_; clear CD; rintro x W3 ⟨rfl, k3⟩; have H3 := hideL (H2.out.later k3); clear H2 k3 x2)
                      | (go_at_call 50; refine (CN2.out _ H3.out).mono ?_; clear CN2; rintro x W4 ⟨rfl, h4⟩; have H4 := hideL h4; clear h4 H3))
                    go_step3
                    exact js_mk HRK.out (.inr (.inr (.inr ⟨rfl, pe, 20, [], (nv : Nat), p, v, m, L, g, H4.out, HQ.out.1, HQ.out.2.1, HQ.out.2.2.1, HZ.out, HQ.out.2.2.2, rfl⟩)))
                  · have hb0 : (decide (0 < dgL (l.drop (p + 1))) && decide (nmV 0 (l.drop (p + 1)) ≤ 999999999)) = false := by
                      rw [Bool.and_eq_false_iff, decide_eq_false_iff_not, decide_eq_false_iff_not]
                      omega
                    rw [hb0] at CNm
                    have HB2 : Hid (Z.2 = some p) := hideL (tok_fault hdp h101 (by rw [htk, numT, if_neg hN]) hZ)
                    have CN2 : Hid (∀ (W : World), Sc w0 W b l (p + 1) 20 [] 0 p 0 v m L → Calls Tryd.prog 50 #[.pointer (some ⟨b, 0, none⟩)] W fun x w' => x = .returned (.bool false) ∧ Sc w0 w' b l (p + 1 + dgL (l.drop (p + 1))) 20 [] (nmV 0 (l.drop (p + 1)) : Nat) p 0 v m L) := CNm
                    clear C0 CB0 hs hdp hZ hd1 h101 hB hB0 hc4 n1 n19 n105 h3 q101 htk hN CNm hdl hb0
                    go_wp2_with (first
                      | (go_at_call 47; refine C2.out.mono ?_; clear C2; rintro x W1 ⟨rfl, k1⟩; have H1 := hideL (HS.out.later k1); have x1 := H1.out.cells.2.1; have f1 := H1.out.free 1; clear HS k1)
                      | (go_at_call 48; refine (CB.out _ H1.out).mono ?_; clear CB; rintro x W2 ⟨rfl, h2⟩; have H2 := hideL h2; have x2 := H2.out.cells.2.2.1; clear h2 H1 x1 f1)
                      | (go_at_call 47; refine (CD.out _ H2.out).mono ?_; clear CD; rintro x W3 ⟨rfl, k3⟩; have H3 := hideL (H2.out.later k3); clear H2 k3 x2)
                      | (go_at_call 50; refine (CN2.out _ H3.out).mono ?_; clear CN2; rintro x W4 ⟨rfl, h4⟩; have H4 := hideL h4; clear h4 H3))
                    rw [jumpsL_ret]
                    go_ret
                    exact .inr ⟨p, HB2.out, rfl, _, _, _, _, _, _, _, _, H4.out⟩
              · by_cases h18 : cl c = 18
                · rw [h18] at C2
                  by_cases hh : s.head? = some 61
                  · rw [(bg_C c s hB0 h18 hh).1, (bg_C c s hB0 h18 hh).2] at CB0
                    have CB : Hid (∀ (W : World), Sc w0 W b l p k t n a e v m L → Calls Tryd.prog 48 #[.pointer (some ⟨b, 0, none⟩)] W fun x w' => x = .returned (.tuple #[]) ∧ Sc w0 w' b l (p + 2) 19 [] 0 p 0 v m L) := CB0
                    have hd2 : l.drop (p + 2) = s.drop 1 := by rw [← hd1, List.drop_drop]
                    have hp2 : p + 2 ≤ l.length := by
                      cases s with
                      | nil => cases hh
                      | cons d r => have := (drop_next hd1).1; omega
                    have htk : tokF (c :: s) = numT 19 2 (l.drop (p + 2)) := by rw [hd2]; exact tok_const c s hB0 h18 hh
                    clear hh hd2 h20 h18
                    have hpM : p + 2 ≤ l.length := by omega
                    have CNm := hideL (fun (W : World) (hW : Sc w0 W b l (p + 2) 19 [] ((0 : Nat) : Int) p 0 v m L) => number_any 0 hW HC.out hpM hl (by omega))
                    have hdl := dg_le (l.drop (p + 2))
                    rw [List.length_drop] at hdl
                    by_cases hN : 0 < dgL (l.drop (p + 2)) ∧ nmV 0 (l.drop (p + 2)) ≤ 999999999
                    · rw [decide_eq_true hN.1, decide_eq_true hN.2] at CNm
                      have htk2 : tokF (c :: s) = some ⟨19, [], (nmV 0 (l.drop (p + 2)) : Nat), 2 + dgL (l.drop (p + 2))⟩ := by rw [htk, numT, if_pos hN]
                      have HZ := hideL (tok_step (q := p + 2 + dgL (l.drop (p + 2))) hdp h101 htk2 (by show _ = p + (2 + _); omega) hZ)
                      have HRK : Hid ((l.length + 10) * (l.length - p) < (l.length + 10) * (l.length - p) + (l.length + 9)) := hideL (by omega)
                      have HQ := hideL (show p < p + 2 + dgL (l.drop (p + 2)) ∧ p + 2 + dgL (l.drop (p + 2)) ≤ l.length ∧ m ≤ p ∧ l.length - (p + 2 + dgL (l.drop (p + 2))) < g from ⟨by omega, by omega, hmp, by omega⟩)
                      have CN2 : Hid (∀ (W : World), Sc w0 W b l (p + 2) 19 [] 0 p 0 v m L → Calls Tryd.prog 50 #[.pointer (some ⟨b, 0, none⟩)] W fun x w' => x = .returned (.bool true) ∧ Sc w0 w' b l (p + 2 + dgL (l.drop (p + 2))) 19 [] (nmV 0 (l.drop (p + 2)) : Nat) p 0 v m L) := CNm
                      generalize p + 2 + dgL (l.drop (p + 2)) = pe at *
                      generalize nmV 0 (l.drop (p + 2)) = nv at *
                      clear C0 CB0 hs hdp hZ hd1 h101 hB hB0 hc4 n1 n19 n105 h3 q101 htk htk2 hN CNm hdl
                      go_wp2_with (first
                        | (go_at_call 47; refine C2.out.mono ?_; clear C2; rintro x W1 ⟨rfl, k1⟩; have H1 := hideL (HS.out.later k1); have x1 := H1.out.cells.2.1; have f1 := H1.out.free 1; clear HS k1)
                        | (go_at_call 48; refine (CB.out _ H1.out).mono ?_; clear CB; rintro x W2 ⟨rfl, h2⟩; have H2 := hideL h2; have x2 := H2.out.cells.2.2.1; clear h2 H1 x1 f1)
                        | (go_at_call 50; refine (CN2.out _ H2.out).mono ?_; clear CN2; rintro x W4 ⟨rfl, h4⟩; have H4 := hideL h4; clear h4 H2 x2))
                      go_step3
                      exact js_mk HRK.out (.inr (.inr (.inr ⟨rfl, pe, 19, [], (nv : Nat), p, v, m, L, g, H4.out, HQ.out.1, HQ.out.2.1, HQ.out.2.2.1, HZ.out, HQ.out.2.2.2, rfl⟩)))
                    · have hb0 : (decide (0 < dgL (l.drop (p + 2))) && decide (nmV 0 (l.drop (p + 2)) ≤ 999999999)) = false := by
                        rw [Bool.and_eq_false_iff, decide_eq_false_iff_not, decide_eq_false_iff_not]
                        omega
                      rw [hb0] at CNm
                      have HB2 : Hid (Z.2 = some p) := hideL (tok_fault hdp h101 (by rw [htk, numT, if_neg hN]) hZ)
                      have CN2 : Hid (∀ (W : World), Sc w0 W b l (p + 2) 19 [] 0 p 0 v m L → Calls Tryd.prog 50 #[.pointer (some ⟨b, 0, none⟩)] W fun x w' => x = .returned (.bool false) ∧ Sc w0 w' b l (p + 2 + dgL (l.drop (p + 2))) 19 [] (nmV 0 (l.drop (p + 2)) : Nat) p 0 v m L) := CNm
                      clear C0 CB0 hs hdp hZ hd1 h101 hB hB0 hc4 n1 n19 n105 h3 q101 htk hN CNm hdl hb0
                      go_wp2_with (first
                        | (go_at_call 47; refine C2.out.mono ?_; clear C2; rintro x W1 ⟨rfl, k1⟩; have H1 := hideL (HS.out.later k1); have x1 := H1.out.cells.2.1; have f1 := H1.out.free 1; clear HS k1)
                        | (go_at_call 48; refine (CB.out _ H1.out).mono ?_; clear CB; rintro x W2 ⟨rfl, h2⟩; have H2 := hideL h2; have x2 := H2.out.cells.2.2.1; clear h2 H1 x1 f1)
                        | (go_at_call 50; refine (CN2.out _ H2.out).mono ?_; clear CN2; rintro x W4 ⟨rfl, h4⟩; have H4 := hideL h4; clear h4 H2 x2))
                      rw [jumpsL_ret]
                      go_ret
                      exact .inr ⟨p, HB2.out, rfl, _, _, _, _, _, _, _, _, H4.out⟩
                  · rw [(bg_O c s hB0 (.inr hh)).1, (bg_O c s hB0 (.inr hh)).2, h18] at CB0
                    have CB : Hid (∀ (W : World), Sc w0 W b l p k t n a e v m L → Calls Tryd.prog 48 #[.pointer (some ⟨b, 0, none⟩)] W fun x w' => x = .returned (.tuple #[]) ∧ Sc w0 w' b l (p + 1) 18 [] 0 p 0 v m L) := CB0
                    have htk : tokF (c :: s) = numT 18 1 (l.drop (p + 1)) := by rw [hd1]; exact tok_boost c s hB0 h18 hh
                    clear hh h20 h18
                    have hpM : p + 1 ≤ l.length := by omega
                    have CNm := hideL (fun (W : World) (hW : Sc w0 W b l (p + 1) 18 [] ((0 : Nat) : Int) p 0 v m L) => number_any 0 hW HC.out hpM hl (by omega))
                    have hdl := dg_le (l.drop (p + 1))
                    rw [List.length_drop] at hdl
                    by_cases hN : 0 < dgL (l.drop (p + 1)) ∧ nmV 0 (l.drop (p + 1)) ≤ 999999999
                    · rw [decide_eq_true hN.1, decide_eq_true hN.2] at CNm
                      have htk2 : tokF (c :: s) = some ⟨18, [], (nmV 0 (l.drop (p + 1)) : Nat), 1 + dgL (l.drop (p + 1))⟩ := by rw [htk, numT, if_pos hN]
                      have HZ := hideL (tok_step (q := p + 1 + dgL (l.drop (p + 1))) hdp h101 htk2 (by show _ = p + (1 + _); omega) hZ)
                      have HRK : Hid ((l.length + 10) * (l.length - p) < (l.length + 10) * (l.length - p) + (l.length + 9)) := hideL (by omega)
                      have HQ := hideL (show p < p + 1 + dgL (l.drop (p + 1)) ∧ p + 1 + dgL (l.drop (p + 1)) ≤ l.length ∧ m ≤ p ∧ l.length - (p + 1 + dgL (l.drop (p + 1))) < g from ⟨by omega, by omega, hmp, by omega⟩)
                      have CN2 : Hid (∀ (W : World), Sc w0 W b l (p + 1) 18 [] 0 p 0 v m L → Calls Tryd.prog 50 #[.pointer (some ⟨b, 0, none⟩)] W fun x w' => x = .returned (.bool true) ∧ Sc w0 w' b l (p + 1 + dgL (l.drop (p + 1))) 18 [] (nmV 0 (l.drop (p + 1)) : Nat) p 0 v m L) := CNm
                      generalize p + 1 + dgL (l.drop (p + 1)) = pe at *
                      generalize nmV 0 (l.drop (p + 1)) = nv at *
                      clear C0 CB0 hs hdp hZ hd1 h101 hB hB0 hc4 n1 n19 n105 h3 q101 htk htk2 hN CNm hdl
                      go_wp2_with (first
                        | (go_at_call 47; refine C2.out.mono ?_; clear C2; rintro x W1 ⟨rfl, k1⟩; have H1 := hideL (HS.out.later k1); have x1 := H1.out.cells.2.1; have f1 := H1.out.free 1; clear HS k1)
                        | (go_at_call 48; refine (CB.out _ H1.out).mono ?_; clear CB; rintro x W2 ⟨rfl, h2⟩; have H2 := hideL h2; have x2 := H2.out.cells.2.2.1; clear h2 H1 x1 f1)
                        | (go_at_call 50; refine (CN2.out _ H2.out).mono ?_; clear CN2; rintro x W4 ⟨rfl, h4⟩; have H4 := hideL h4; clear h4 H2 x2))
                      go_step3
                      exact js_mk HRK.out (.inr (.inr (.inr ⟨rfl, pe, 18, [], (nv : Nat), p, v, m, L, g, H4.out, HQ.out.1, HQ.out.2.1, HQ.out.2.2.1, HZ.out, HQ.out.2.2.2, rfl⟩)))
                    · have hb0 : (decide (0 < dgL (l.drop (p + 1))) && decide (nmV 0 (l.drop (p + 1)) ≤ 999999999)) = false := by
                        rw [Bool.and_eq_false_iff, decide_eq_false_iff_not, decide_eq_false_iff_not]
                        omega
                      rw [hb0] at CNm
                      have HB2 : Hid (Z.2 = some p) := hideL (tok_fault hdp h101 (by rw [htk, numT, if_neg hN]) hZ)
                      have CN2 : Hid (∀ (W : World), Sc w0 W b l (p + 1) 18 [] 0 p 0 v m L → Calls Tryd.prog 50 #[.pointer (some ⟨b, 0, none⟩)] W fun x w' => x = .returned (.bool false) ∧ Sc w0 w' b l (p + 1 + dgL (l.drop (p + 1))) 18 [] (nmV 0 (l.drop (p + 1)) : Nat) p 0 v m L) := CNm
                      clear C0 CB0 hs hdp hZ hd1 h101 hB hB0 hc4 n1 n19 n105 h3 q101 htk hN CNm hdl hb0
                      go_wp2_with (first
                        | (go_at_call 47; refine C2.out.mono ?_; clear C2; rintro x W1 ⟨rfl, k1⟩; have H1 := hideL (HS.out.later k1); have x1 := H1.out.cells.2.1; have f1 := H1.out.free 1; clear HS k1)
                        | (go_at_call 48; refine (CB.out _ H1.out).mono ?_; clear CB; rintro x W2 ⟨rfl, h2⟩; have H2 := hideL h2; have x2 := H2.out.cells.2.2.1; clear h2 H1 x1 f1)
                        | (go_at_call 50; refine (CN2.out _ H2.out).mono ?_; clear CN2; rintro x W4 ⟨rfl, h4⟩; have H4 := hideL h4; clear h4 H2 x2))
                      rw [jumpsL_ret]
                      go_ret
                      exact .inr ⟨p, HB2.out, rfl, _, _, _, _, _, _, _, _, H4.out⟩
                · by_cases h21 : cl c = 21
                  · rw [(bg_O c s hB0 (.inl h18)).1, (bg_O c s hB0 (.inl h18)).2, h21] at CB0
                    rw [h21] at C2
                    have CB : Hid (∀ (W : World), Sc w0 W b l p k t n a e v m L → Calls Tryd.prog 48 #[.pointer (some ⟨b, 0, none⟩)] W fun x w' => x = .returned (.tuple #[]) ∧ Sc w0 w' b l (p + 1) 21 [] 0 p 0 v m L) := CB0
                    have htk : tokF (c :: s) = numT 21 1 (l.drop (p + 1)) := by rw [hd1]; exact tok_least c s hB0 h21
                    clear h20 h18 h21
                    have hpM : p + 1 ≤ l.length := by omega
                    have CNm := hideL (fun (W : World) (hW : Sc w0 W b l (p + 1) 21 [] ((0 : Nat) : Int) p 0 v m L) => number_any 0 hW HC.out hpM hl (by omega))
                    have hdl := dg_le (l.drop (p + 1))
                    rw [List.length_drop] at hdl
                    by_cases hN : 0 < dgL (l.drop (p + 1)) ∧ nmV 0 (l.drop (p + 1)) ≤ 999999999
                    · rw [decide_eq_true hN.1, decide_eq_true hN.2] at CNm
                      have htk2 : tokF (c :: s) = some ⟨21, [], (nmV 0 (l.drop (p + 1)) : Nat), 1 + dgL (l.drop (p + 1))⟩ := by rw [htk, numT, if_pos hN]
                      have HZ := hideL (tok_step (q := p + 1 + dgL (l.drop (p + 1))) hdp h101 htk2 (by show _ = p + (1 + _); omega) hZ)
                      have HRK : Hid ((l.length + 10) * (l.length - p) < (l.length + 10) * (l.length - p) + (l.length + 9)) := hideL (by omega)
                      have HQ := hideL (show p < p + 1 + dgL (l.drop (p + 1)) ∧ p + 1 + dgL (l.drop (p + 1)) ≤ l.length ∧ m ≤ p ∧ l.length - (p + 1 + dgL (l.drop (p + 1))) < g from ⟨by omega, by omega, hmp, by omega⟩)
                      have CN2 : Hid (∀ (W : World), Sc w0 W b l (p + 1) 21 [] 0 p 0 v m L → Calls Tryd.prog 50 #[.pointer (some ⟨b, 0, none⟩)] W fun x w' => x = .returned (.bool true) ∧ Sc w0 w' b l (p + 1 + dgL (l.drop (p + 1))) 21 [] (nmV 0 (l.drop (p + 1)) : Nat) p 0 v m L) := CNm
                      generalize p + 1 + dgL (l.drop (p + 1)) = pe at *
                      generalize nmV 0 (l.drop (p + 1)) = nv at *
                      clear C0 CB0 hs hdp hZ hd1 h101 hB hB0 hc4 n1 n19 n105 h3 q101 htk htk2 hN CNm hdl
                      go_wp2_with (first
                        | (go_at_call 47; refine C2.out.mono ?_; clear C2; rintro x W1 ⟨rfl, k1⟩; have H1 := hideL (HS.out.later k1); have x1 := H1.out.cells.2.1; have f1 := H1.out.free 1; clear HS k1)
                        | (go_at_call 48; refine (CB.out _ H1.out).mono ?_; clear CB; rintro x W2 ⟨rfl, h2⟩; have H2 := hideL h2; have x2 := H2.out.cells.2.2.1; clear h2 H1 x1 f1)
                        | (go_at_call 50; refine (CN2.out _ H2.out).mono ?_; clear CN2; rintro x W4 ⟨rfl, h4⟩; have H4 := hideL h4; clear h4 H2 x2))
                      go_step3
                      exact js_mk HRK.out (.inr (.inr (.inr ⟨rfl, pe, 21, [], (nv : Nat), p, v, m, L, g, H4.out, HQ.out.1, HQ.out.2.1, HQ.out.2.2.1, HZ.out, HQ.out.2.2.2, rfl⟩)))
                    · have hb0 : (decide (0 < dgL (l.drop (p + 1))) && decide (nmV 0 (l.drop (p + 1)) ≤ 999999999)) = false := by
                        rw [Bool.and_eq_false_iff, decide_eq_false_iff_not, decide_eq_false_iff_not]
                        omega
                      rw [hb0] at CNm
                      have HB2 : Hid (Z.2 = some p) := hideL (tok_fault hdp h101 (by rw [htk, numT, if_neg hN]) hZ)
                      have CN2 : Hid (∀ (W : World), Sc w0 W b l (p + 1) 21 [] 0 p 0 v m L → Calls Tryd.prog 50 #[.pointer (some ⟨b, 0, none⟩)] W fun x w' => x = .returned (.bool false) ∧ Sc w0 w' b l (p + 1 + dgL (l.drop (p + 1))) 21 [] (nmV 0 (l.drop (p + 1)) : Nat) p 0 v m L) := CNm
                      clear C0 CB0 hs hdp hZ hd1 h101 hB hB0 hc4 n1 n19 n105 h3 q101 htk hN CNm hdl hb0
                      go_wp2_with (first
                        | (go_at_call 47; refine C2.out.mono ?_; clear C2; rintro x W1 ⟨rfl, k1⟩; have H1 := hideL (HS.out.later k1); have x1 := H1.out.cells.2.1; have f1 := H1.out.free 1; clear HS k1)
                        | (go_at_call 48; refine (CB.out _ H1.out).mono ?_; clear CB; rintro x W2 ⟨rfl, h2⟩; have H2 := hideL h2; have x2 := H2.out.cells.2.2.1; clear h2 H1 x1 f1)
                        | (go_at_call 50; refine (CN2.out _ H2.out).mono ?_; clear CN2; rintro x W4 ⟨rfl, h4⟩; have H4 := hideL h4; clear h4 H2 x2))
                      rw [jumpsL_ret]
                      go_ret
                      exact .inr ⟨p, HB2.out, rfl, _, _, _, _, _, _, _, _, H4.out⟩
                  · rw [(bg_O c s hB0 (.inl h18)).1, (bg_O c s hB0 (.inl h18)).2] at CB0
                    have CB : Hid (∀ (W : World), Sc w0 W b l p k t n a e v m L → Calls Tryd.prog 48 #[.pointer (some ⟨b, 0, none⟩)] W fun x w' => x = .returned (.tuple #[]) ∧ Sc w0 w' b l (p + 1) (cl c) [] 0 p 0 v m L) := CB0
                    have HZ := hideL (tok_step (q := p + 1) hdp h101 (tok_single c s hB0 h3 h20 h18 h21) rfl hZ)
                    have HRK : Hid ((l.length + 10) * (l.length - p) < (l.length + 10) * (l.length - p) + (l.length + 9)) := hideL (by omega)
                    have HQ := hideL (show p < p + 1 ∧ p + 1 ≤ l.length ∧ m ≤ p ∧ l.length - (p + 1) < g from ⟨by omega, by omega, hmp, by omega⟩)
                    have n0 : cl c ≠ 0 := fun x => hB ((isB_iff c).2 (.inl x))
                    have HT : Hid (tokF (c :: s) = some ⟨cl c, [], 0, 1⟩) := hideL (tok_single c s hB0 h3 h20 h18 h21)
                    clear HT
                    generalize cl c = kk at *
                    have r0 : ((kk : Int) == 0) = false := by rw [beq_eq_false_iff_ne]; omega
                    have r1 : ((kk : Int) == 1) = false := by rw [beq_eq_false_iff_ne]; omega
                    have r3 : ((kk : Int) == 3) = false := by rw [beq_eq_false_iff_ne]; omega
                    have r20 : ((kk : Int) == 20) = false := by rw [beq_eq_false_iff_ne]; omega
                    have r18 : ((kk : Int) == 18) = false := by rw [beq_eq_false_iff_ne]; omega
                    have r19 : ((kk : Int) == 19) = false := by rw [beq_eq_false_iff_ne]; omega
                    have r21 : ((kk : Int) == 21) = false := by rw [beq_eq_false_iff_ne]; omega
                    clear C0 CB0 hs hdp hZ hd1 h101 hB hB0 hc4 n1 n19 n105 h3 h20 h18 h21 n0
                    go_wp2_with (first
                      | (go_at_call 47; refine C2.out.mono ?_; clear C2; rintro x W1 ⟨rfl, k1⟩; have H1 := hideL (HS.out.later k1); have x1 := H1.out.cells.2.1; have f1 := H1.out.free 1; clear HS k1)
                      | (go_at_call 48; refine (CB.out _ H1.out).mono ?_; clear CB; rintro x W2 ⟨rfl, h2⟩; have H2 := hideL h2; have x2 := H2.out.cells.2.2.1; clear h2 H1 x1 f1))
                    go_step3
                    exact js_mk HRK.out (.inr (.inr (.inr ⟨rfl, p + 1, kk, [], 0, p, v, m, L, g, H2.out, HQ.out.1, HQ.out.2.1, HQ.out.2.2.1, HZ.out, HQ.out.2.2.2, rfl⟩)))
    · refine ⟨_, rfl, ?_⟩
      obtain ⟨p, a, v, m, L, f, c, s, hs, hap, hp, hma, hd, hB, hrn, hZ, hf, rfl⟩ := hS
      have HS := hideL hs
      have hpb : p ≤ 400000000000 := by omega
      cases hdp : l.drop p with
      | nil =>
        have C1 := hideL (class_any hs (HC.out.later hs.kept) hp hl)
        rw [hdp] at C1
        have C2 : Hid (Calls Tryd.prog 47 #[.pointer (some ⟨b, 0, none⟩)] w' fun e w'' => e = .returned (.int .i64 (105 : Nat)) ∧ Kept (fun _ => False) w' w'') := C1
        have hr : rnL (l.drop a) = some (p - a) := by rw [hrn, hdp, rn_nil]; show some (0 + (p - a)) = _; rw [Nat.zero_add]
        obtain ⟨R, hR0⟩ : ∃ R, R = (l.drop a).take (p - a) := ⟨_, rfl⟩
        have hpos : 1 ≤ p - a := rn_pos c s hB _ (by rw [← hd]; exact hr)
        have HZ := hideL (run_end hd hB hap hr hZ R hR0)
        have CN := hideL (fun (W : World) (hW : Sc w0 W b l p 1 [] 0 a 0 v m L) => name_any R hW HC.out hap hp hl hR0 (by rw [hR0]; exact rn_good _ _ _ (Nat.le_refl _) hr))
        have HQ : Hid (a < p ∧ l.length - p < f) := hideL ⟨by omega, by omega⟩
        have HRK : Hid ((l.length + 10) * (l.length - a) < (l.length + 10) * (l.length - a) + 1 + (l.length - p)) := hideL (by omega)
        clear hR0 hpos
        clear C1 hs hdp hrn hr hd hB hZ
        go_wp2_with (first
          | (go_at_call 47; refine C2.out.mono ?_; clear C2; rintro x W1 ⟨rfl, k1⟩; have H1 := hideL (HS.out.later k1); have x1 := H1.out.cells.2.1; have f1 := H1.out.free 1; clear HS k1)
          | (go_at_call 51; refine (CN.out _ H1.out).mono ?_; clear CN; rintro x W2 ⟨rfl, h2⟩; have H2 := hideL h2; clear h2 H1))
        go_step3
        exact js_mk HRK.out (.inr (.inr (.inr ⟨rfl, p, kdF R, txF R, 0, a, v, m, L, f, H2.out, HQ.out.1, hp, hma, HZ.out, HQ.out.2, rfl⟩)))
      | cons x s' =>
        have C1 := hideL (class_any hs (HC.out.later hs.kept) hp hl)
        rw [hdp] at C1
        have C2 : Hid (Calls Tryd.prog 47 #[.pointer (some ⟨b, 0, none⟩)] w' fun e w'' => e = .returned (.int .i64 (cl x : Nat)) ∧ Kept (fun _ => False) w' w'') := C1
        obtain ⟨hplt, hd1⟩ := drop_next hdp
        by_cases h92 : x = 92
        · subst h92
          have C3 : Hid (Calls Tryd.prog 47 #[.pointer (some ⟨b, 0, none⟩)] w' fun e w'' => e = .returned (.int .i64 (104 : Nat)) ∧ Kept (fun _ => False) w' w'') := C2
          clear C1 C2
          have CC := hideL (fun (W : World) (hW : Sc w0 W b l (p + 1) 1 [] 0 a 0 v m L) => class_any hW (HC.out.later hW.kept) (by omega) hl)
          have hw1 : (p : Int) + 1 = ((p + 1 : Nat) : Int) := by omega
          have HW1 := hideL hw1
          clear hw1
          cases s' with
          | nil =>
            rw [hd1] at CC
            have CD : Hid (∀ (W : World), Sc w0 W b l (p + 1) 1 [] 0 a 0 v m L → Calls Tryd.prog 47 #[.pointer (some ⟨b, 0, none⟩)] W fun e w'' => e = .returned (.int .i64 (105 : Nat)) ∧ Kept (fun _ => False) W w'') := CC
            have HB2 : Hid (Z.2 = some a) := hideL (run_bad hd hB (by rw [hrn, hdp, rn_lone]; rfl) hZ)
            clear hs hdp hrn hd hB hZ CC hd1
            go_wp2_with (first
              | (go_at_call 47; refine C3.out.mono ?_; clear C3; rintro x W1 ⟨rfl, k1⟩; have H1 := hideL (HS.out.later k1); have x1 := H1.out.cells.2.1; have f1 := H1.out.free 1; clear HS k1)
              | (go_at_call 47; have H2 := hideL (H1.out.setP (p + 1) ((p : Int) + 1) HW1.out); refine (CD.out _ H2.out).mono ?_; clear CD; rintro x W2 ⟨rfl, k2⟩; have H3 := hideL (H2.out.later k2); clear H1 H2 k2))
            rw [jumpsL_ret]
            go_ret
            exact .inr ⟨a, HB2.out, rfl, _, _, _, _, _, _, _, _, H3.out⟩
          | cons d s'' =>
            rw [hd1] at CC
            obtain ⟨hplt2, hd2⟩ := drop_next hd1
            have hdc := cl_lt d
            have CD : Hid (∀ (W : World), Sc w0 W b l (p + 1) 1 [] 0 a 0 v m L → Calls Tryd.prog 47 #[.pointer (some ⟨b, 0, none⟩)] W fun e w'' => e = .returned (.int .i64 (cl d : Nat)) ∧ Kept (fun _ => False) W w'') := CC
            have HRN : Hid (rnL (l.drop a) = (rnL (l.drop (p + 2))).map (· + (p + 2 - a))) := hideL (by
              rw [hrn, hdp, rn_esc, map_add, ← hd2, show 2 + (p - a) = p + 2 - a by omega])
            have HW2 : Hid ((p : Int) + 1 + 1 = ((p + 2 : Nat) : Int)) := hideL (by omega)
            have HRK : Hid ((l.length + 10) * (l.length - a) + 1 + (l.length - (p + 2)) < (l.length + 10) * (l.length - a) + 1 + (l.length - p)) := hideL (by omega)
            have HQ : Hid (a ≤ p + 2 ∧ p + 2 ≤ l.length) := hideL ⟨by omega, by omega⟩
            have HO := hideL (show m ≤ a ∧ l.drop a = c :: s ∧ isB c = true ∧ Z = cmL L (scF (f + 1) a (l.drop a)) ∧ l.length - a < f + 1 from ⟨hma, hd, hB, hZ, hf⟩)
            generalize cl d = kk at *
            have q5 : ((kk : Int) == 105) = false := by rw [beq_eq_false_iff_ne]; omega
            clear hs hdp hrn hd hB hZ CC hd1 hd2 hma hf
            go_wp2_with (first
              | (go_at_call 47; refine C3.out.mono ?_; clear C3; rintro x W1 ⟨rfl, k1⟩; have H1 := hideL (HS.out.later k1); have x1 := H1.out.cells.2.1; have f1 := H1.out.free 1; clear HS k1)
              | (go_at_call 47; have H2 := hideL (H1.out.setP (p + 1) ((p : Int) + 1) HW1.out); refine (CD.out _ H2.out).mono ?_; clear CD; rintro x W2 ⟨rfl, k2⟩; have H3 := hideL (H2.out.later k2); have y1 : W2.cell? ⟨b, 1, none⟩ = some (.int .i64 ((p : Int) + 1)) := (by rw [HW1.out]; exact H3.out.cells.2.1); have g1 := H3.out.free 1; clear H1 H2 k2))
            have H4 := hideL (H3.out.setP (p + 2) ((p : Int) + 1 + 1) HW2.out)
            go_step3
            exact js_mk HRK.out (.inr (.inl ⟨rfl, p + 2, a, v, m, L, f, c, s, (by first | exact H4.out | (have q := H4.out; rw [Int.add_assoc] at q; exact q)), HQ.out.1, HQ.out.2, HO.out.1, HO.out.2.1, HO.out.2.2.1, HRN.out, HO.out.2.2.2.1, HO.out.2.2.2.2, rfl⟩))
        · by_cases hR : isR x = true
          · have HRN : Hid (rnL (l.drop a) = (rnL (l.drop (p + 1))).map (· + (p + 1 - a))) := hideL (by
              rw [hrn, hdp, rn_run x s' hR, map_add, ← hd1, show 1 + (p - a) = p + 1 - a by omega])
            have HW1 : Hid ((p : Int) + 1 = ((p + 1 : Nat) : Int)) := hideL (by omega)
            have HRK : Hid ((l.length + 10) * (l.length - a) + 1 + (l.length - (p + 1)) < (l.length + 10) * (l.length - a) + 1 + (l.length - p)) := hideL (by omega)
            have HQ : Hid (a ≤ p + 1 ∧ p + 1 ≤ l.length) := hideL ⟨by omega, by omega⟩
            have HO := hideL (show m ≤ a ∧ l.drop a = c :: s ∧ isB c = true ∧ Z = cmL L (scF (f + 1) a (l.drop a)) ∧ l.length - a < f + 1 from ⟨hma, hd, hB, hZ, hf⟩)
            have hcc : cl x = 0 ∨ cl x = 102 ∨ cl x = 103 ∨ cl x = 15 ∨ cl x = 16 := by
              unfold isR at hR
              simp at hR
              omega
            clear C1 hs hdp hrn hd hB hZ hd1 hma hf hR h92
            rcases hcc with e | e | e | e | e
            all_goals
              rw [e] at C2
              clear e
              go_wp2_with (go_at_call 47; refine C2.out.mono ?_; clear C2; rintro x W1 ⟨rfl, k1⟩; have H1 := hideL (HS.out.later k1); have x1 := H1.out.cells.2.1; have f1 := H1.out.free 1; clear HS k1)
              have H4 := hideL (H1.out.setP (p + 1) ((p : Int) + 1) HW1.out)
              go_step3
              exact js_mk HRK.out (.inr (.inl ⟨rfl, p + 1, a, v, m, L, f, c, s, H4.out, HQ.out.1, HQ.out.2, HO.out.1, HO.out.2.1, HO.out.2.2.1, HRN.out, HO.out.2.2.2.1, HO.out.2.2.2.2, rfl⟩))
          · have hR2 : isR x = false := by simpa using hR
            have hr : rnL (l.drop a) = some (p - a) := by rw [hrn, hdp, rn_end x s' hR2 h92]; show some (0 + (p - a)) = _; rw [Nat.zero_add]
            obtain ⟨R, hR0⟩ : ∃ R, R = (l.drop a).take (p - a) := ⟨_, rfl⟩
            have hpos : 1 ≤ p - a := rn_pos c s hB _ (by rw [← hd]; exact hr)
            have HZ := hideL (run_end hd hB hap hr hZ R hR0)
            have CN := hideL (fun (W : World) (hW : Sc w0 W b l p 1 [] 0 a 0 v m L) => name_any R hW HC.out hap hp hl hR0 (by rw [hR0]; exact rn_good _ _ _ (Nat.le_refl _) hr))
            have HQ : Hid (a < p ∧ l.length - p < f) := hideL ⟨by omega, by omega⟩
            have HRK : Hid ((l.length + 10) * (l.length - a) < (l.length + 10) * (l.length - a) + 1 + (l.length - p)) := hideL (by omega)
            clear hR0 hpos
            have hnn : cl x ≠ 0 ∧ cl x ≠ 102 ∧ cl x ≠ 103 ∧ cl x ≠ 15 ∧ cl x ≠ 16 := by
              unfold isR at hR2
              simp at hR2
              omega
            have h104 : cl x ≠ 104 := by
              intro h
              have := cl_esc x
              rw [h] at this
              exact h92 (eq_of_beq this.symm)
            generalize cl x = kk at *
            have q0 : ((kk : Int) == 0) = false := by rw [beq_eq_false_iff_ne]; omega
            have q1 : ((kk : Int) == 102) = false := by rw [beq_eq_false_iff_ne]; omega
            have q2 : ((kk : Int) == 103) = false := by rw [beq_eq_false_iff_ne]; omega
            have q3 : ((kk : Int) == 104) = false := by rw [beq_eq_false_iff_ne]; omega
            have q4 : ((kk : Int) == 15) = false := by rw [beq_eq_false_iff_ne]; omega
            have q5 : ((kk : Int) == 16) = false := by rw [beq_eq_false_iff_ne]; omega
            clear C1 hs hdp hrn hr hd hB hZ hd1 hnn h104 hR hR2 h92
            go_wp2_with (first
              | (go_at_call 47; refine C2.out.mono ?_; clear C2; rintro x W1 ⟨rfl, k1⟩; have H1 := hideL (HS.out.later k1); have x1 := H1.out.cells.2.1; have f1 := H1.out.free 1; clear HS k1)
              | (go_at_call 51; refine (CN.out _ H1.out).mono ?_; clear CN; rintro x W2 ⟨rfl, h2⟩; have H2 := hideL h2; clear h2 H1))
            go_step3
            exact js_mk HRK.out (.inr (.inr (.inr ⟨rfl, p, kdF R, txF R, 0, a, v, m, L, f, H2.out, HQ.out.1, hp, hma, HZ.out, HQ.out.2, rfl⟩)))
    · refine ⟨_, rfl, ?_⟩
      obtain ⟨p, a, v, m, L, f, s, hs, hap, hp, hma, hd, hqo, hZ, hf, rfl⟩ := hS
      have HS := hideL hs
      have hpb : p ≤ 400000000000 := by omega
      have CP := hideL (fun (W : World) (hW : Sc w0 W b l p 3 [] 0 a 0 v m L) => class_any hW (HC.out.later hW.kept) hp hl)
      cases hdp : l.drop p with
      | nil =>
        rw [hdp] at CP
        have CQ : Hid (∀ (W : World), Sc w0 W b l p 3 [] 0 a 0 v m L → Calls Tryd.prog 47 #[.pointer (some ⟨b, 0, none⟩)] W fun e w'' => e = .returned (.int .i64 (105 : Nat)) ∧ Kept (fun _ => False) W w'') := CP
        have HB2 : Hid (Z.2 = some a) := hideL (quo_bad hd (by rw [hqo, hdp, qo_nil]; rfl) hZ)
        clear CP hs hdp hqo hd hZ
        go_wp2_with (first
          | (go_at_call 47; refine (CQ.out _ HS.out).mono ?_; rintro x W1 ⟨rfl, k1⟩; have H1 := hideL (HS.out.later k1); clear HS k1)
          | (go_at_call 47; refine (CQ.out _ H1.out).mono ?_; clear CQ; rintro x W2 ⟨rfl, k2⟩; have H2 := hideL (H1.out.later k2); clear H1 k2))
        rw [jumpsL_ret]
        go_ret
        exact .inr ⟨a, HB2.out, rfl, _, _, _, _, _, _, _, _, H2.out⟩
      | cons x s' =>
        rw [hdp] at CP
        have CQ : Hid (∀ (W : World), Sc w0 W b l p 3 [] 0 a 0 v m L → Calls Tryd.prog 47 #[.pointer (some ⟨b, 0, none⟩)] W fun e w'' => e = .returned (.int .i64 (cl x : Nat)) ∧ Kept (fun _ => False) W w'') := CP
        clear CP
        obtain ⟨hplt, hd1⟩ := drop_next hdp
        have HW1 : Hid ((p : Int) + 1 = ((p + 1 : Nat) : Int)) := hideL (by omega)
        by_cases h92 : x = 92
        · subst h92
          have C3 : Hid (Calls Tryd.prog 47 #[.pointer (some ⟨b, 0, none⟩)] w' fun e w'' => e = .returned (.int .i64 (104 : Nat)) ∧ Kept (fun _ => False) w' w'') := hideL (CQ.out _ HS.out)
          clear CQ
          have CC := hideL (fun (W : World) (hW : Sc w0 W b l (p + 1) 3 [] 0 a 0 v m L) => class_any hW (HC.out.later hW.kept) (by omega) hl)
          cases s' with
          | nil =>
            rw [hd1] at CC
            have CD : Hid (∀ (W : World), Sc w0 W b l (p + 1) 3 [] 0 a 0 v m L → Calls Tryd.prog 47 #[.pointer (some ⟨b, 0, none⟩)] W fun e w'' => e = .returned (.int .i64 (105 : Nat)) ∧ Kept (fun _ => False) W w'') := CC
            have HB2 : Hid (Z.2 = some a) := hideL (quo_bad hd (by rw [hqo, hdp, qo_lone]; rfl) hZ)
            clear hs hdp hqo hd hZ CC hd1
            go_wp2_with (first
              | (go_at_call 47; refine C3.out.mono ?_; clear C3; rintro x W1 ⟨rfl, k1⟩; have H1 := hideL (HS.out.later k1); have x1 := H1.out.cells.2.1; have f1 := H1.out.free 1; clear HS k1)
              | (go_at_call 47; have H2 := hideL (H1.out.setP (p + 1) ((p : Int) + 1) HW1.out); refine (CD.out _ H2.out).mono ?_; clear CD; rintro x W2 ⟨rfl, k2⟩; have H3 := hideL (H2.out.later k2); clear H1 H2 k2))
            rw [jumpsL_ret]
            go_ret
            exact .inr ⟨a, HB2.out, rfl, _, _, _, _, _, _, _, _, H3.out⟩
          | cons d s'' =>
            rw [hd1] at CC
            obtain ⟨hplt2, hd2⟩ := drop_next hd1
            have hdc := cl_lt d
            have CD : Hid (∀ (W : World), Sc w0 W b l (p + 1) 3 [] 0 a 0 v m L → Calls Tryd.prog 47 #[.pointer (some ⟨b, 0, none⟩)] W fun e w'' => e = .returned (.int .i64 (cl d : Nat)) ∧ Kept (fun _ => False) W w'') := CC
            have HRN : Hid (qoL s = (qoL (l.drop (p + 2))).map (· + (p + 2 - (a + 1)))) := hideL (by
              rw [hqo, hdp, qo_esc, map_add, ← hd2, show 2 + (p - (a + 1)) = p + 2 - (a + 1) by omega])
            have HW2 : Hid ((p : Int) + 1 + 1 = ((p + 2 : Nat) : Int)) := hideL (by omega)
            have HRK : Hid ((l.length + 10) * (l.length - a) + 1 + (l.length - (p + 2)) < (l.length + 10) * (l.length - a) + 1 + (l.length - p)) := hideL (by omega)
            have HQ : Hid (a < p + 2 ∧ p + 2 ≤ l.length) := hideL ⟨by omega, by omega⟩
            have HO := hideL (show m ≤ a ∧ l.drop a = 34 :: s ∧ Z = cmL L (scF (f + 1) a (l.drop a)) ∧ l.length - a < f + 1 from ⟨hma, hd, hZ, hf⟩)
            generalize cl d = kk at *
            have q5 : ((kk : Int) == 105) = false := by rw [beq_eq_false_iff_ne]; omega
            clear hs hdp hqo hd hZ CC hd1 hd2 hma hf
            go_wp2_with (first
              | (go_at_call 47; refine C3.out.mono ?_; clear C3; rintro x W1 ⟨rfl, k1⟩; have H1 := hideL (HS.out.later k1); have x1 := H1.out.cells.2.1; have f1 := H1.out.free 1; clear HS k1)
              | (go_at_call 47; have H2 := hideL (H1.out.setP (p + 1) ((p : Int) + 1) HW1.out); refine (CD.out _ H2.out).mono ?_; clear CD; rintro x W2 ⟨rfl, k2⟩; have H3 := hideL (H2.out.later k2); have y1 : W2.cell? ⟨b, 1, none⟩ = some (.int .i64 ((p : Int) + 1)) := (by rw [HW1.out]; exact H3.out.cells.2.1); have g1 := H3.out.free 1; clear H1 H2 k2))
            have H4 := hideL (H3.out.setP (p + 2) ((p : Int) + 1 + 1) HW2.out)
            go_step3
            exact js_mk HRK.out (.inr (.inr (.inl ⟨rfl, p + 2, a, v, m, L, f, s, (by first | exact H4.out | (have q := H4.out; rw [Int.add_assoc] at q; exact q)), HQ.out.1, HQ.out.2, HO.out.1, HO.out.2.1, HRN.out, HO.out.2.2.1, HO.out.2.2.2, rfl⟩)))
        · by_cases h34 : x = 34
          · subst h34
            have C3 : Hid (Calls Tryd.prog 47 #[.pointer (some ⟨b, 0, none⟩)] w' fun e w'' => e = .returned (.int .i64 (3 : Nat)) ∧ Kept (fun _ => False) w' w'') := hideL (CQ.out _ HS.out)
            clear CQ
            have hq1 : qoL s = some (p + 1 - (a + 1)) := by
              rw [hqo, hdp, qo_end]
              show some (1 + (p - (a + 1))) = _
              rw [show 1 + (p - (a + 1)) = p + 1 - (a + 1) by omega]
            have hs2 : s = l.drop (a + 1) := (drop_next hd).2.symm
            obtain ⟨R, hR0⟩ : ∃ R, R = (l.drop (a + 1)).take (p - (a + 1)) := ⟨_, rfl⟩
            have hge : a + 1 ≤ p := by omega
            have hRl : R.length ≤ 400000000000 := by rw [hR0, List.length_take, List.length_drop]; omega
            have hE : (sgn R).any isE = false := by
              have := qo_good _ _ _ (Nat.le_refl _) hq1
              rw [hs2, show p + 1 - (a + 1) - 1 = p - (a + 1) by omega] at this
              rw [hR0]; exact this
            have hZ2 := quo_end (p := p + 1) hd (by omega) hq1 hZ
            rw [show p + 1 - (a + 1) - 1 = p - (a + 1) by omega, hs2, ← hR0] at hZ2
            have HZ := hideL hZ2
            have CLi := hideL (fun (W : World) (k : Kept (fun _ => False) w0 W) => literal_any R W (HC.out.later k) hRl hE)
            have hx0 : (bq l).extract (a + 1) p = bq R := by rw [bq_extract, hR0]
            have HRK := hideL (rank_end (N := l.length) (a := a) (p := p + 1) (by omega) (by omega))
            have HRK2 : Hid ((l.length + 10) * (l.length - (p + 1)) + (l.length + 9) < (l.length + 10) * (l.length - a) + 1 + (l.length - p)) := hideL (by have := HRK.out; omega)
            have HQ : Hid (p + 1 ≤ l.length ∧ m + 1 ≤ p + 1 ∧ l.length - (p + 1) < f) := hideL ⟨by omega, by omega, by omega⟩
            have CE := hideL (fun (W : World) (t : List UInt8) (hW : Sc w0 W b l (p + 1) 3 t 0 a 0 v m L) => end_any hW (by omega))
            have hz : (bq l).size = l.length := bq_size l
            obtain ⟨sb, hsb⟩ : ∃ sb, sb = bq l := ⟨_, rfl⟩
            rw [← hsb] at hx0 hz
            obtain ⟨rb, hrb⟩ : ∃ rb, rb = bq R := ⟨_, rfl⟩
            rw [← hrb] at hx0
            have HRB := hideL hrb
            rw [← hrb] at CLi
            have i0 : a + 1 ≤ p := by omega
            have i1 : (a : Int) + 1 ≤ (p : Int) := by omega
            have i2 : (p : Int) ≤ (sb.size : Int) := by omega
            have i3 : ((a : Int) + 1).toNat = a + 1 := by omega
            have hsl : ∀ W : World, (Instr.slice 9 (.string sb) (some (.int .i64 ((a : Int) + 1))) (some (.int .i64 (p : Int))) none).run Tryd.prog W = .ok (.string rb) W := fun W => by
              rw [run_slice_string W 9 sb .i64 .i64 ((a : Int) + 1) (p : Int) Tryd.underlying9 (by omega) i1 i2, i3, Int.toNat_natCast, hx0]
            have hbb : sb.size ≤ 400000000000 := by omega
            have hab : a ≤ 400000000000 := by omega
            have HSB := hideL hsb
            clear hs hdp hqo hd hZ hZ2 hd1 hq1 hs2 hR0 hE hRl hsb hrb HRK hma hf hge h92 hz
            go_wp2_with (go_at_call 47; refine C3.out.mono ?_; clear C3; rintro x W1 ⟨rfl, k1⟩; have H1 := hideL (HS.out.later k1); have x1 := H1.out.cells.2.1; have f1 := H1.out.free 1; clear HS k1)
            have H2 := hideL (H1.out.setP (p + 1) ((p : Int) + 1) HW1.out)
            generalize W1.setCell ⟨b, 1, none⟩ (.int .i64 ((p : Int) + 1)) = V1 at *
            clear H1 x1 f1
            refine wp_region_held (S := S3q b sb (p + 1) a) (by kernel_rfl) ?_
            change wpAnyH _ _ _ _ _ _ _ _ (World.drew _)
            have HV := hideL (H2.out.later (Kept.drew V1))
            clear H2
            generalize V1.drew = V0 at *
            have hS : S3q b sb (p + 1) a V0 := by rw [HSB.out]; exact s3q HV.out
            refine takeZ (i := 0) (d := 103) (v := .pointer (some ⟨b, 0, none⟩)) rfl rfl (by kernel_rfl) (by kernel_rfl) (by kernel_rfl) (fun _ _ _ h => h) (Or.inl ⟨by rfl, fun W hW => ?_⟩) hS ?_
            · (go_simp)
            simp only [Act.put, List.setIfInBounds_toArray, List.set_cons_zero, List.set_cons_succ]
            refine takeZ (i := 1) (d := 104) (v := .pointer (some ⟨b, 0, none⟩)) rfl rfl (by kernel_rfl) (by kernel_rfl) (by kernel_rfl) (fun _ _ _ h => h) (Or.inl ⟨by rfl, fun W hW => ?_⟩) hS ?_
            · (go_simp)
            simp only [Act.put, List.setIfInBounds_toArray, List.set_cons_zero, List.set_cons_succ]
            refine takeZ (i := 2) (d := 105) (v := .pointer (some ⟨b, 0, none⟩)) rfl rfl (by kernel_rfl) (by kernel_rfl) (by kernel_rfl) (fun _ _ _ h => h) (Or.inl ⟨by rfl, fun W hW => ?_⟩) hS ?_
            · (go_simp)
            simp only [Act.put, List.setIfInBounds_toArray, List.set_cons_zero, List.set_cons_succ]
            refine takeZ (i := 3) (d := 106) (v := .pointer (some ⟨b, 0, none⟩)) rfl rfl (by kernel_rfl) (by kernel_rfl) (by kernel_rfl) (fun _ _ _ h => h) (Or.inl ⟨by rfl, fun W hW => ?_⟩) hS ?_
            · (go_simp)
            simp only [Act.put, List.setIfInBounds_toArray, List.set_cons_zero, List.set_cons_succ]
            refine takeZ (i := 4) (d := 107) (v := .string sb) rfl rfl (by kernel_rfl) (by kernel_rfl) (by kernel_rfl) (fun _ _ _ h => h) (Or.inl ⟨by rfl, fun W hW => ?_⟩) hS ?_
            · (obtain ⟨c0, c1, c5⟩ := hW; go_simp)
            simp only [Act.put, List.setIfInBounds_toArray, List.set_cons_zero, List.set_cons_succ]
            refine takeZ (i := 5) (d := 108) (v := .pointer (some ⟨b, 0, none⟩)) rfl rfl (by kernel_rfl) (by kernel_rfl) (by kernel_rfl) (fun _ _ _ h => h) (Or.inl ⟨by rfl, fun W hW => ?_⟩) hS ?_
            · (go_simp)
            simp only [Act.put, List.setIfInBounds_toArray, List.set_cons_zero, List.set_cons_succ]
            refine takeZ (i := 6) (d := 109) (v := .pointer (some ⟨b, 0, none⟩)) rfl rfl (by kernel_rfl) (by kernel_rfl) (by kernel_rfl) (fun _ _ _ h => h) (Or.inl ⟨by rfl, fun W hW => ?_⟩) hS ?_
            · (go_simp)
            simp only [Act.put, List.setIfInBounds_toArray, List.set_cons_zero, List.set_cons_succ]
            refine takeZ (i := 7) (d := 110) (v := .pointer (some ⟨b, 2, none⟩)) rfl rfl (by kernel_rfl) (by kernel_rfl) (by kernel_rfl) (fun _ _ _ h => h) (Or.inl ⟨by rfl, fun W hW => ?_⟩) hS ?_
            · (go_simp)
            simp only [Act.put, List.setIfInBounds_toArray, List.set_cons_zero, List.set_cons_succ]
            refine takeZ (i := 8) (d := 111) (v := .pointer (some ⟨b, 5, none⟩)) rfl rfl (by kernel_rfl) (by kernel_rfl) (by kernel_rfl) (fun _ _ _ h => h) (Or.inl ⟨by rfl, fun W hW => ?_⟩) hS ?_
            · (go_simp)
            simp only [Act.put, List.setIfInBounds_toArray, List.set_cons_zero, List.set_cons_succ]
            refine takeZ (i := 9) (d := 112) (v := .int .i64 (a : Int)) rfl rfl (by kernel_rfl) (by kernel_rfl) (by kernel_rfl) (fun _ _ _ h => h) (Or.inl ⟨by rfl, fun W hW => ?_⟩) hS ?_
            · (obtain ⟨c0, c1, c5⟩ := hW; go_simp)
            simp only [Act.put, List.setIfInBounds_toArray, List.set_cons_zero, List.set_cons_succ]
            refine takeZ (i := 10) (d := 113) (v := .int .i64 ((a : Int) + 1)) rfl rfl (by kernel_rfl) (by kernel_rfl) (by kernel_rfl) (fun _ _ _ h => h) (Or.inl ⟨by rfl, fun W hW => ?_⟩) hS ?_
            · (go_simp; first | done | (rw [IntKind.wrap_i64]; omega))
            simp only [Act.put, List.setIfInBounds_toArray, List.set_cons_zero, List.set_cons_succ]
            refine takeZ (i := 11) (d := 114) (v := .pointer (some ⟨b, 0, none⟩)) rfl rfl (by kernel_rfl) (by kernel_rfl) (by kernel_rfl) (fun _ _ _ h => h) (Or.inl ⟨by rfl, fun W hW => ?_⟩) hS ?_
            · (go_simp)
            simp only [Act.put, List.setIfInBounds_toArray, List.set_cons_zero, List.set_cons_succ]
            refine takeZ (i := 12) (d := 115) (v := .pointer (some ⟨b, 0, none⟩)) rfl rfl (by kernel_rfl) (by kernel_rfl) (by kernel_rfl) (fun _ _ _ h => h) (Or.inl ⟨by rfl, fun W hW => ?_⟩) hS ?_
            · (go_simp)
            simp only [Act.put, List.setIfInBounds_toArray, List.set_cons_zero, List.set_cons_succ]
            refine takeZ (i := 13) (d := 116) (v := .pointer (some ⟨b, 1, none⟩)) rfl rfl (by kernel_rfl) (by kernel_rfl) (by kernel_rfl) (fun _ _ _ h => h) (Or.inl ⟨by rfl, fun W hW => ?_⟩) hS ?_
            · (go_simp)
            simp only [Act.put, List.setIfInBounds_toArray, List.set_cons_zero, List.set_cons_succ]
            refine takeZ (i := 14) (d := 117) (v := .int .i64 ((p + 1 : Nat) : Int)) rfl rfl (by kernel_rfl) (by kernel_rfl) (by kernel_rfl) (fun _ _ _ h => h) (Or.inl ⟨by rfl, fun W hW => ?_⟩) hS ?_
            · (obtain ⟨c0, c1, c5⟩ := hW; go_simp)
            simp only [Act.put, List.setIfInBounds_toArray, List.set_cons_zero, List.set_cons_succ]
            refine takeZ (i := 15) (d := 118) (v := .int .i64 (p : Int)) rfl rfl (by kernel_rfl) (by kernel_rfl) (by kernel_rfl) (fun _ _ _ h => h) (Or.inl ⟨by rfl, fun W hW => ?_⟩) hS ?_
            · (go_simp; first | done | (rw [IntKind.wrap_i64]; omega))
            simp only [Act.put, List.setIfInBounds_toArray, List.set_cons_zero, List.set_cons_succ]
            refine takeZ (i := 16) (d := 119) (v := .string rb) rfl rfl (by kernel_rfl) (by kernel_rfl) (by kernel_rfl) (fun _ _ _ h => h) (Or.inl ⟨by rfl, fun W hW => ?_⟩) hS ?_
            · (go_simp; first | done | (rw [hsl W]; rfl))
            simp only [Act.put, List.setIfInBounds_toArray, List.set_cons_zero, List.set_cons_succ]
            refine wpAnyH_all (rs := [17]) (by kernel_rfl) (by simp) ?_
            intro i' hi'
            obtain rfl : i' = 17 := by simpa using hi'
            have CL1 := hideL (CLi.out V0 HV.out.kept)
            clear CLi
            unfold wpOp
            go_simp
            first | refine CL1.out.mono ?_ | refine Or.inl (CL1.out.mono ?_)
            clear CL1
            rintro e V2 ⟨rfl, k2⟩
            have H3 := hideL (HV.out.later k2)
            have hS2 : S3q b sb (p + 1) a V2 := by rw [HSB.out]; exact s3q H3.out
            clear HV k2 hS
            refine ⟨hS2, ?_⟩
            refine takeZ (i := 18) (d := 121) (v := .pointer (some ⟨b, 0, none⟩)) rfl rfl (by kernel_rfl) (by kernel_rfl) (by kernel_rfl) (fun _ _ _ h => h) (Or.inl ⟨by rfl, fun W hW => ?_⟩) hS2 ?_
            · (go_simp)
            simp only [Act.put, List.setIfInBounds_toArray, List.set_cons_zero, List.set_cons_succ]
            refine takeZ (i := 19) (d := 122) (v := .pointer (some ⟨b, 2, none⟩)) rfl rfl (by kernel_rfl) (by kernel_rfl) (by kernel_rfl) (fun _ _ _ h => h) (Or.inl ⟨by rfl, fun W hW => ?_⟩) hS2 ?_
            · (go_simp)
            simp only [Act.put, List.setIfInBounds_toArray, List.set_cons_zero, List.set_cons_succ]
            refine takeZ (i := 20) (d := 123) (v := .pointer (some ⟨b, 3, none⟩)) rfl rfl (by kernel_rfl) (by kernel_rfl) (by kernel_rfl) (fun _ _ _ h => h) (Or.inl ⟨by rfl, fun W hW => ?_⟩) hS2 ?_
            · (go_simp)
            simp only [Act.put, List.setIfInBounds_toArray, List.set_cons_zero, List.set_cons_succ]
            refine wpAnyH_all (rs := [21]) (by kernel_rfl) (by simp) ?_
            intro i' hi'
            obtain rfl : i' = 21 := by simpa using hi'
            have c3 := H3.out.cells.2.2.2.1
            have f3 := H3.out.free 3
            have HF := hideL (H3.out.setT (litF R))
            have hSF : S3q b sb (p + 1) a (V2.setCell ⟨b, 3, none⟩ (.string (bq (litF R)))) := by rw [HSB.out]; exact s3q HF.out
            clear H3 hS2
            unfold wpOp
            go_simp
            first | refine Or.inl ⟨hSF, ?_⟩ | refine ⟨hSF, ?_⟩ | (change wpAnyH _ _ _ _ _ _ _ _ _) | refine Or.inl ?_
            refine wpAnyH_done (by kernel_rfl) ?_ _
            generalize V2.setCell ⟨b, 3, none⟩ (.string (bq (litF R))) = V3 at *
            have CE1 := hideL (CE.out V3 (litF R) HF.out)
            clear CE hSF c3 f3 HF
            go_wp2_with fail
            refine wp_label ?_
            go_wp2_with (go_at_call 49; refine CE1.out.mono ?_; clear CE1; rintro x W4 ⟨rfl, v', h4⟩; have H4 := hideL h4; clear h4)
            go_step3
            exact js_mk HRK2.out (.inl ⟨rfl, p + 1, 3, litF R, 0, a, p + 1, v', m + 1, _, f, H4.out, HQ.out.1, HQ.out.2.1, HZ.out, HQ.out.2.2, rfl⟩)
          · have HRN : Hid (qoL s = (qoL (l.drop (p + 1))).map (· + (p + 1 - (a + 1)))) := hideL (by
              rw [hqo, hdp, qo_oth x s' h34 h92, map_add, ← hd1, show 1 + (p - (a + 1)) = p + 1 - (a + 1) by omega])
            have HRK : Hid ((l.length + 10) * (l.length - a) + 1 + (l.length - (p + 1)) < (l.length + 10) * (l.length - a) + 1 + (l.length - p)) := hideL (by omega)
            have HQ : Hid (a < p + 1 ∧ p + 1 ≤ l.length) := hideL ⟨by omega, by omega⟩
            have HO := hideL (show m ≤ a ∧ l.drop a = 34 :: s ∧ Z = cmL L (scF (f + 1) a (l.drop a)) ∧ l.length - a < f + 1 from ⟨hma, hd, hZ, hf⟩)
            have h104 : cl x ≠ 104 := by
              intro h
              have := cl_esc x
              rw [h] at this
              exact h92 (eq_of_beq this.symm)
            have h3 : cl x ≠ 3 := by
              intro h
              have := cl_quo x
              rw [h] at this
              exact h34 (eq_of_beq this.symm)
            have hc4 := cl_lt x
            generalize cl x = kk at *
            have q3 : ((kk : Int) == 104) = false := by rw [beq_eq_false_iff_ne]; omega
            have q4 : ((kk : Int) == 3) = false := by rw [beq_eq_false_iff_ne]; omega
            have q5 : ((kk : Int) == 105) = false := by rw [beq_eq_false_iff_ne]; omega
            clear hs hdp hqo hd hZ hd1 hma hf h92 h34 h104 h3
            go_wp2_with (first
              | (go_at_call 47; refine (CQ.out _ HS.out).mono ?_; rintro x W1 ⟨rfl, k1⟩; have H1 := hideL (HS.out.later k1); clear HS k1)
              | (go_at_call 47; refine (CQ.out _ H1.out).mono ?_; clear CQ; rintro x W2 ⟨rfl, k2⟩; have H2 := hideL (H1.out.later k2); have x1 := H2.out.cells.2.1; have f1 := H2.out.free 1; clear H1 k2))
            have H4 := hideL (H2.out.setP (p + 1) ((p : Int) + 1) HW1.out)
            go_step3
            exact js_mk HRK.out (.inr (.inr (.inl ⟨rfl, p + 1, a, v, m, L, f, s, H4.out, HQ.out.1, HQ.out.2, HO.out.1, HO.out.2.1, HRN.out, HO.out.2.2.1, HO.out.2.2.2, rfl⟩)))
    · refine ⟨_, rfl, ?_⟩
      obtain ⟨p, k, t, n, a, v, m, L, f, hs, hap, hp, hma, hZ, hf, rfl⟩ := hS
      have CE := hideL (end_any hs (by omega))
      have HR := hideL (rank_end hap hp)
      have HZ := hideL hZ
      have HQ := hideL (show p ≤ l.length ∧ m + 1 ≤ p ∧ l.length - p < f from ⟨hp, by omega, hf⟩)
      clear hs hZ hap hp hma hf
      go_wp2_with (go_at_call 49; refine CE.out.mono ?_; clear CE; rintro x W1 ⟨rfl, v', h1⟩; have H1 := hideL h1; clear h1)
      go_step3
      exact js_mk HR.out (.inl ⟨rfl, p, k, t, n, a, p, v', m + 1, _, f, H1.out, HQ.out.1, HQ.out.2.1, HZ.out, HQ.out.2.2, rfl⟩)
end Go.Proofs.YtiemiphlfbaojaaDoor
