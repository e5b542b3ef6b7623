import Derived.Test.YtjcoajgndehccaaDoorRdT
import Derived.Test.YtjcoajgndehccaaDoorBkf
namespace Go.Proofs.YtjcoajgndehccaaDoor
open Go.ChangeShapes Go.WideShapes Go.ChangeAt Go.RowKit

/-- An entry of a dictionary. -/
structure En where
  k : ByteArray
  d : Int
  t : Int
  p : Int
  s : Int
def En.cells (e : En) : List Value := [.string e.k, .int .i64 e.d, .int .i64 e.t, .int .i64 e.p, .int .i64 e.s]
/-- Within the limits. -/
def nin (x : Int) : Bool := decide (0 ≤ x) && decide (x ≤ 2147483647)
def genB (e : En) : Bool := (decide (1 ≤ e.k.size) && decide (e.k.size ≤ 65)) && ((nin e.d && nin e.t) && (nin e.p && nin e.s))
structure Gen (e : En) : Prop where
  k1 : 1 ≤ e.k.size
  k2 : e.k.size ≤ 65
  d : 0 ≤ e.d ∧ e.d ≤ 2147483647
  t : 0 ≤ e.t ∧ e.t ≤ 2147483647
  p : 0 ≤ e.p ∧ e.p ≤ 2147483647
  s : 0 ≤ e.s ∧ e.s ≤ 2147483647
theorem gen_iff (e : En) : genB e = true ↔ Gen e := by
  unfold genB nin
  simp only [Bool.and_eq_true, decide_eq_true_eq]
  constructor
  · rintro ⟨⟨a, b⟩, ⟨c, d⟩, f, g⟩
    exact ⟨a, b, c, d, f, g⟩
  · rintro ⟨a, b, c, d, f, g⟩
    exact ⟨⟨a, b⟩, ⟨c, d⟩, f, g⟩
/-- One key below another. -/
def klt (a b : ByteArray) : Bool := Op.bytesLess a.toList b.toList
/-- How many bytes two lists begin with alike. -/
def shr : List UInt8 → List UInt8 → Nat
  | a :: x, b :: y => if a = b then shr x y + 1 else 0
  | _, _ => 0
theorem shr_nil (b : List UInt8) : shr [] b = 0 := by cases b <;> rfl
theorem shr_le : ∀ (a b : List UInt8), shr a b ≤ a.length ∧ shr a b ≤ b.length
  | [], b => by rw [shr_nil]; simp
  | a :: x, [] => by simp [shr]
  | a :: x, b :: y => by
    have := shr_le x y
    unfold shr
    split <;> simp <;> omega
theorem shr_take : ∀ (a b : List UInt8), a.take (shr a b) = b.take (shr a b)
  | [], b => by rw [shr_nil]; simp
  | a :: x, [] => by simp [shr]
  | a :: x, b :: y => by
    unfold shr
    split
    · rename_i h
      rw [List.take_succ_cons, List.take_succ_cons, h, shr_take x y]
    · rfl
theorem shr_less : ∀ (a b : List UInt8), Op.bytesLess a b = true → shr a b < b.length ∧ (shr a b = a.length ∨ (shr a b < a.length ∧ (a[shr a b]?.getD 0) < (b[shr a b]?.getD 0)))
  | [], [], h => by simp [Op.bytesLess] at h
  | [], b :: y, _ => by simp [shr]
  | a :: x, [], h => by simp [Op.bytesLess] at h
  | a :: x, b :: y, h => by
    rw [Op.bytesLess] at h
    unfold shr
    by_cases e : a = b
    · subst e
      simp only [if_true]
      have h2 : Op.bytesLess x y = true := by simpa using h
      obtain ⟨h3, h4⟩ := shr_less x y h2
      refine ⟨by simp; omega, ?_⟩
      rcases h4 with h4 | ⟨h4, h5⟩
      · exact .inl (by simp; omega)
      · exact .inr ⟨by simp; omega, by simpa using h5⟩
    · simp only [if_neg e]
      have h2 : a < b := by simpa [e] using h
      exact ⟨by simp, .inr ⟨by simp, by simpa using h2⟩⟩
theorem shr_made : ∀ (a : List UInt8) (s : Nat) (t : List UInt8), s ≤ a.length → t ≠ [] → (s = a.length ∨ (a[s]?.getD 0) < (t[0]?.getD 0)) → shr a (a.take s ++ t) = s ∧ Op.bytesLess a (a.take s ++ t) = true
  | [], s, t, hs, ht, _ => by
    obtain rfl : s = 0 := by simpa using hs
    match t, ht with
    | c :: r, _ => simp [shr, Op.bytesLess]
  | a :: x, 0, t, _, ht, h => by
    match t, ht with
    | c :: r, _ =>
      have h2 : a < c := by simpa using h
      have h3 : ¬ a = c := fun e => by rw [e] at h2; exact absurd h2 (UInt8.lt_irrefl c)
      simp [shr, Op.bytesLess, h2, h3]
  | a :: x, s + 1, t, hs, ht, h => by
    obtain ⟨h1, h2⟩ := shr_made x s t (by simpa using hs) ht (by simpa using h)
    rw [List.take_succ_cons, List.cons_append]
    simp [shr, Op.bytesLess, h1, h2]
/-- An entry's bytes behind the key b; those of a block. -/
def een (b : ByteArray) (e : En) : List Int :=
  uvb (shr b.data.toList e.k.data.toList) ++ ((uvb (e.k.size - shr b.data.toList e.k.data.toList) ++ (sb e.k).drop (shr b.data.toList e.k.data.toList)) ++ (uvb e.d.toNat ++ (uvb e.t.toNat ++ (uvb e.p.toNat ++ uvb e.s.toNat))))
def ebl : ByteArray → List En → List Int
  | _, [] => []
  | b, e :: r => een b e ++ ebl e.k r
def lastk : ByteArray → List En → ByteArray
  | b, [] => b
  | _, e :: r => lastk e.k r
theorem lastk_snoc : ∀ (b : ByteArray) (l : List En) (e : En), lastk b (l ++ [e]) = e.k
  | _, [], _ => rfl
  | _, _ :: r, e => lastk_snoc _ r e
theorem lastk_append : ∀ (b : ByteArray) (l m : List En), lastk b (l ++ m) = lastk (lastk b l) m
  | _, [], _ => rfl
  | _, _ :: r, m => lastk_append _ r m
theorem ebl_append : ∀ (b : ByteArray) (l m : List En), ebl b (l ++ m) = ebl b l ++ ebl (lastk b l) m
  | _, [], _ => rfl
  | b, e :: r, m => by
    show een b e ++ ebl e.k (r ++ m) = (een b e ++ ebl e.k r) ++ ebl (lastk e.k r) m
    rw [ebl_append e.k r m, List.append_assoc]
theorem ebl_snoc (b : ByteArray) (l : List En) (e : En) : ebl b (l ++ [e]) = ebl b l ++ een (lastk b l) e := by
  rw [ebl_append]; simp [ebl]
/-- The blocks; the image. -/
def chs : Nat → List En → List (List En)
  | 0, _ => []
  | m + 1, l => l.take 16 :: chs m (l.drop 16)
theorem chs_snoc : ∀ (m : Nat) (l : List En), chs (m + 1) l = chs m l ++ [(l.drop (16 * m)).take 16]
  | 0, l => by simp [chs]
  | m + 1, l => by
    rw [chs, chs_snoc m (l.drop 16), List.drop_drop, show 16 + 16 * m = 16 * (m + 1) by omega]
    rfl
def nbk (n : Nat) : Nat := (n + 15) / 16
def hdL (B : List (List En)) : List Int := (B.map (fun F => uvb (ebl ByteArray.empty F).length)).flatten
def bdL (B : List (List En)) : List Int := (B.map (ebl ByteArray.empty)).flatten
theorem hdL_snoc (B : List (List En)) (F : List En) : hdL (B ++ [F]) = hdL B ++ uvb (ebl ByteArray.empty F).length := by simp [hdL]
theorem bdL_snoc (B : List (List En)) (F : List En) : bdL (B ++ [F]) = bdL B ++ ebl ByteArray.empty F := by simp [bdL]
def img (l : List En) : List Int := (uvb l.length ++ hdL (chs (nbk l.length) l)) ++ bdL (chs (nbk l.length) l)
/-- Keys that rise from b on. -/
def chn : ByteArray → List En → Prop
  | _, [] => True
  | b, e :: r => klt b e.k = true ∧ chn e.k r
theorem chn_append : ∀ (b : ByteArray) (l m : List En), chn b (l ++ m) ↔ chn b l ∧ chn (lastk b l) m
  | _, [], m => by simp [chn, lastk]
  | b, e :: r, m => by
    show (klt b e.k = true ∧ chn e.k (r ++ m)) ↔ _
    rw [chn_append e.k r m, chn, lastk, and_assoc]
structure Good (l : List En) : Prop where
  gen : ∀ e ∈ l, Gen e
  chn : chn ByteArray.empty l
theorem klt_empty {k : ByteArray} (h : 1 ≤ k.size) : klt ByteArray.empty k = true := by
  unfold klt
  rw [ByteArray.toList_eq, ByteArray.toList_eq]
  have h2 : 1 ≤ k.data.toList.length := by rw [Array.length_toList]; exact h
  match hk : k.data.toList with
  | [] => rw [hk] at h2; simp at h2
  | c :: r => rfl
/-- Reading: a number with a limit; a text; an entry; a block. -/
def upn (most : Nat) (l : List Int) (p : Nat) : Option (Nat × Nat) := match rdu 0 0 (l.drop p) with
  | .error _ => none
  | .ok (x, k) => if x ≤ most then some (x, p + k) else none
def txn (most : Nat) (l : List Int) (p : Nat) : Option (List Int × Nat) := match upn most l p with
  | none => none
  | some (n, q) => if q + n ≤ l.length then some ((l.drop q).take n, q + n) else none
def keyOf (b : ByteArray) (s : Nat) (t : List Int) : ByteArray := b.extract 0 s ++ strOfNums t
def rok (b : ByteArray) (s : Nat) (t : List Int) : Prop := t ≠ [] ∧ (s = b.size ∨ (b.data.toList[s]?.getD 0) < (UInt8.ofNat (t[0]?.getD 0).toNat))
instance (b : ByteArray) (s : Nat) (t : List Int) : Decidable (rok b s t) := by unfold rok; infer_instance
def rn4 (l : List Int) (k : ByteArray) (q : Nat) : Option (En × Nat) :=
  match upn 2147483647 l q with
  | none => none
  | some (d, q1) => match upn 2147483647 l q1 with
    | none => none
    | some (t, q2) => match upn 2147483647 l q2 with
      | none => none
      | some (p, q3) => match upn 2147483647 l q3 with
        | none => none
        | some (s, q4) => some (⟨k, d, t, p, s⟩, q4)
def rde (l : List Int) (b : ByteArray) (p : Nat) : Option (En × Nat) :=
  match upn b.size l p with
  | none => none
  | some (s, q) => match txn (65 - s) l q with
    | none => none
    | some (t, q1) => if rok b s t then rn4 l (keyOf b s t) q1 else none
def rbk (l : List Int) : Nat → ByteArray → Nat → Option (List En × Nat)
  | 0, _, p => some ([], p)
  | c + 1, b, p => match rde l b p with
    | none => none
    | some (e, q) => match rbk l c e.k q with
      | none => none
      | some (E, r) => some (e :: E, r)
def rls (l : List Int) : Nat → Nat → Option (List Nat × Nat)
  | 0, p => some ([], p)
  | m + 1, p => match upn (l.length - p) l p with
    | none => none
    | some (x, q) => match rls l m q with
      | none => none
      | some (L, r) => some (x :: L, r)
def headk (F : List En) : ByteArray := match F with | [] => ByteArray.empty | e :: _ => e.k
def rbs (l : List Int) : List Nat → Nat → ByteArray → Nat → Option (List En × Nat)
  | [], _, _, p => some ([], p)
  | x :: L, n, b, p => match rbk l (min 16 n) ByteArray.empty p with
    | none => none
    | some (F, q) => if klt b (headk F) = true ∧ q = p + x then (match rbs l L (n - F.length) (lastk b F) q with
        | none => none
        | some (E, r) => some (F ++ E, r)) else none
def par (l : List Int) : Option (List En × Nat) := match upn (l.length / 7) l 0 with
  | none => none
  | some (n, q) => match rls l (nbk n) q with
    | none => none
    | some (L, q1) => rbs l L n ByteArray.empty q1
def opn (l : List Int) : Option (List En) := match par l with
  | none => none
  | some (E, r) => if r < l.length then none else some E
end Go.Proofs.YtjcoajgndehccaaDoor
