import Derived.WalkKit
import Derived.Maps.OwnSet
namespace Go.Proofs.YtbhoplmbiomogaaDoor
open Go.RowKit Go.Maps

/-- A field. -/
structure Fd where
  n : ByteArray
  k : Int
  fo : Bool
  st : Bool
  se : Bool
def Fd.cells (f : Fd) : List Value := [.string f.n, .int .i64 f.k, .bool f.fo, .bool f.st, .bool f.se]
def isL (c : UInt8) : Bool := decide (97 ≤ c.toNat ∧ c.toNat ≤ 122)
def isN (c : UInt8) : Bool := decide (48 ≤ c.toNat ∧ c.toNat ≤ 57)
def isW (c : UInt8) : Bool := isL c || isN c || decide (c.toNat = 95)
/-- Rule 2. -/
def gname : List UInt8 → Bool
  | [] => false
  | c :: r => decide (r.length < 32) && isL c && (c :: r).all isW
/-- Rules 3 and 4. -/
def gkind (f : Fd) : Bool := decide (f.k = 1) || (decide (f.k = 2 ∨ f.k = 3) && !f.fo && !f.st && !f.se)
def gfield (f : Fd) : Bool := gname f.n.data.toList && gkind f
/-- The first field of this name. -/
def fi (l : List Fd) (s : ByteArray) : Option Nat := l.findIdx? (fun f => decide (f.n = s))
def among (l : List Fd) (s : ByteArray) : Bool := l.any (fun f => decide (f.n = s))
/-- Rule 5. -/
def apartN : List Fd → Bool
  | [] => true
  | f :: r => !among r f.n && apartN r
/-- A good schema. -/
def gschema (l : List Fd) : Bool := decide (1 ≤ l.length ∧ l.length ≤ 16) && l.all gfield && apartN l
theorem among_append (a b : List Fd) (s : ByteArray) : among (a ++ b) s = (among a s || among b s) := List.any_append
theorem apartN_snoc : ∀ (a : List Fd) (f : Fd), apartN (a ++ [f]) = (apartN a && !among a f.n)
  | [], f => by simp [apartN, among]
  | x :: a, f => by
    have e : among [f] x.n = among [x] f.n := by
      simp only [among, List.any_cons, List.any_nil, Bool.or_false]
      exact decide_eq_decide.2 eq_comm
    have e2 : among (x :: a) f.n = (among [x] f.n || among a f.n) := by simp [among]
    rw [List.cons_append, apartN, apartN_snoc a f, among_append, e, apartN, e2]
    cases among a x.n <;> cases among [x] f.n <;> cases apartN a <;> cases among a f.n <;> rfl
theorem fi_none {l : List Fd} {s : ByteArray} : fi l s = none ↔ among l s = false := by
  unfold fi among
  rw [List.findIdx?_eq_none_iff, List.any_eq_false]
  simp
theorem fi_append_some {a b : List Fd} {s : ByteArray} {i : Nat} (h : fi a s = some i) : fi (a ++ b) s = some i := by
  unfold fi at h ⊢
  rw [List.findIdx?_append, h]; rfl
theorem fi_append_none {a b : List Fd} {s : ByteArray} (h : fi a s = none) : fi (a ++ b) s = (fi b s).map (· + a.length) := by
  unfold fi at h ⊢
  rw [List.findIdx?_append, h]
  cases b.findIdx? (fun f => decide (f.n = s)) <;> rfl
theorem fi_one (f : Fd) (s : ByteArray) : fi [f] s = if f.n = s then some 0 else none := by
  unfold fi
  by_cases h : f.n = s <;> simp [List.findIdx?_cons, h]
theorem fi_lt {l : List Fd} {s : ByteArray} {i : Nat} (h : fi l s = some i) : i < l.length := by
  unfold fi at h
  exact (List.findIdx?_eq_some_iff_findIdx_eq.1 h).1

theorem bytes_inj {s t : ByteArray} (h : s.data.toList = t.data.toList) : s = t := by
  obtain ⟨⟨a⟩⟩ := s
  obtain ⟨⟨b⟩⟩ := t
  simp only at h
  rw [h]
/-- The map of names behind k fields. -/
structure Nm (l : List Fd) (D : DataW Unit) : Prop where
  has : ∀ s : ByteArray, Maps.has D (.string s.data.toList) = among l s
  at_ : ∀ (s : ByteArray) (i : Nat), fi l s = some i → D.atKey (.string s.data.toList) (.lit (.int .i64 0)) = .lit (.int .i64 i)
  le : Maps.size D ≤ l.length
  all : Maps.size D = l.length ↔ apartN l = true
theorem Nm.start : Nm [] (.map []) := ⟨fun _ => rfl, fun _ _ h => by simp [fi] at h, Nat.le_refl _, by simp [apartN, Maps.size]⟩
theorem Nm.seen {l : List Fd} {D : DataW Unit} {f : Fd} (h : Nm l D) (hs : Maps.has D (.string f.n.data.toList) = true) : Nm (l ++ [f]) D := by
  have hm : among l f.n = true := (h.has f.n).symm.trans hs
  refine ⟨fun s => ?_, fun s i e => ?_, ?_, ?_⟩
  · rw [h.has, among_append]
    by_cases e : f.n = s
    · subst e; rw [hm]; rfl
    · simp [among, e]
  · cases q : fi l s with
    | some j =>
      rw [fi_append_some q] at e
      injection e with e
      subst e
      exact h.at_ s j q
    | none =>
      rw [fi_append_none q, fi_one] at e
      by_cases e2 : f.n = s
      · subst e2
        rw [fi_none.1 q] at hm
        cases hm
      · rw [if_neg e2] at e
        cases e
  · have := h.le; simp; omega
  · rw [apartN_snoc, hm]
    have := h.le
    simp
    omega
theorem Nm.new {l : List Fd} {D : DataW Unit} {f : Fd} (h : Nm l D) (hD : Tidy D) (hs : Maps.has D (.string f.n.data.toList) = false) : Nm (l ++ [f]) (D.put (.string f.n.data.toList) (.lit (.int .i64 l.length))) := by
  have hm : among l f.n = false := (h.has f.n).symm.trans hs
  have hk : WideAt.IsKeyLit (.string f.n.data.toList) := trivial
  have hne : ∀ s : ByteArray, ¬ f.n = s → Lit.string s.data.toList ≠ Lit.string f.n.data.toList := fun s e q => e (bytes_inj (by injection q with q; exact q.symm))
  have hsz := size_put (k := .string f.n.data.toList) hD (.lit (.int .i64 l.length))
  rw [hs, if_neg (by decide)] at hsz
  refine ⟨fun s => ?_, fun s i e => ?_, ?_, ?_⟩
  · rw [among_append]
    by_cases e : f.n = s
    · subst e
      rw [has_put_same hD.isMap hk]
      simp [among]
    · rw [has_put_other (hne s e), h.has]
      simp [among, e]
  · by_cases e2 : f.n = s
    · subst e2
      rw [fi_append_none (fi_none.2 hm), fi_one, if_pos rfl] at e
      simp at e
      subst e
      rw [atKey_put_same hD.isMap hk]
    · rw [atKey_put_other (hne s e2)]
      cases q : fi l s with
      | some j =>
        rw [fi_append_some q] at e
        injection e with e
        subst e
        exact h.at_ s j q
      | none =>
        rw [fi_append_none q, fi_one, if_neg e2] at e
        cases e
  · have := h.le; rw [hsz]; simp; omega
  · rw [hsz, apartN_snoc, hm]
    have := h.all
    simp
    exact this
end Go.Proofs.YtbhoplmbiomogaaDoor
