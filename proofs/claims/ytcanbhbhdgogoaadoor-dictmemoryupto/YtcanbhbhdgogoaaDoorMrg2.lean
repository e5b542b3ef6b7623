import Derived.Test.YtcanbhbhdgogoaaDoorMrg1
import Derived.Test.YtcanbhbhdgogoaaDoorBkf
namespace Go.Proofs.YtcanbhbhdgogoaaDoor
open Go.ChangeShapes Go.WideShapes Go.ChangeAt Go.RowKit

/-- An entry of a dictionary. -/
structure En where
  k : ByteArray
  d : Int
  t : Int
  p : Int
  s : Int
def En.cells (e : En) : List Value := [.string e.k, .int .i64 e.d, .int .i64 e.t, .int .i64 e.p, .int .i64 e.s]
/-- Within the limits. -/
def nin (x : Int) : Bool := decide (0 ≤ x) && decide (x ≤ 2147483647)
def genB (e : En) : Bool := (decide (1 ≤ e.k.size) && decide (e.k.size ≤ 65)) && ((nin e.d && nin e.t) && (nin e.p && nin e.s))
structure Gen (e : En) : Prop where
  k1 : 1 ≤ e.k.size
  k2 : e.k.size ≤ 65
  d : 0 ≤ e.d ∧ e.d ≤ 2147483647
  t : 0 ≤ e.t ∧ e.t ≤ 2147483647
  p : 0 ≤ e.p ∧ e.p ≤ 2147483647
  s : 0 ≤ e.s ∧ e.s ≤ 2147483647
theorem gen_iff (e : En) : genB e = true ↔ Gen e := by
  unfold genB nin
  simp only [Bool.and_eq_true, decide_eq_true_eq]
  constructor
  · rintro ⟨⟨a, b⟩, ⟨c, d⟩, f, g⟩
    exact ⟨a, b, c, d, f, g⟩
  · rintro ⟨a, b, c, d, f, g⟩
    exact ⟨⟨a, b⟩, ⟨c, d⟩, f, g⟩
/-- One key below another. -/
def klt (a b : ByteArray) : Bool := Op.bytesLess a.toList b.toList
/-- How many bytes two lists begin with alike. -/
def shr : List UInt8 → List UInt8 → Nat
  | a :: x, b :: y => if a = b then shr x y + 1 else 0
  | _, _ => 0
theorem shr_nil (b : List UInt8) : shr [] b = 0 := by cases b <;> rfl
theorem shr_le : ∀ (a b : List UInt8), shr a b ≤ a.length ∧ shr a b ≤ b.length
  | [], b => by rw [shr_nil]; simp
  | a :: x, [] => by simp [shr]
  | a :: x, b :: y => by
    have := shr_le x y
    unfold shr
    split <;> simp <;> omega
theorem shr_take : ∀ (a b : List UInt8), a.take (shr a b) = b.take (shr a b)
  | [], b => by rw [shr_nil]; simp
  | a :: x, [] => by simp [shr]
  | a :: x, b :: y => by
    unfold shr
    split
    · rename_i h
      rw [List.take_succ_cons, List.take_succ_cons, h, shr_take x y]
    · rfl
theorem shr_less : ∀ (a b : List UInt8), Op.bytesLess a b = true → shr a b < b.length ∧ (shr a b = a.length ∨ (shr a b < a.length ∧ (a[shr a b]?.getD 0) < (b[shr a b]?.getD 0)))
  | [], [], h => by simp [Op.bytesLess] at h
  | [], b :: y, _ => by simp [shr]
  | a :: x, [], h => by simp [Op.bytesLess] at h
  | a :: x, b :: y, h => by
    rw [Op.bytesLess] at h
    unfold shr
    by_cases e : a = b
    · subst e
      simp only [if_true]
      have h2 : Op.bytesLess x y = true := by simpa using h
      obtain ⟨h3, h4⟩ := shr_less x y h2
      refine ⟨by simp; omega, ?_⟩
      rcases h4 with h4 | ⟨h4, h5⟩
      · exact .inl (by simp; omega)
      · exact .inr ⟨by simp; omega, by simpa using h5⟩
    · simp only [if_neg e]
      have h2 : a < b := by simpa [e] using h
      exact ⟨by simp, .inr ⟨by simp, by simpa using h2⟩⟩
theorem shr_made : ∀ (a : List UInt8) (s : Nat) (t : List UInt8), s ≤ a.length → t ≠ [] → (s = a.length ∨ (a[s]?.getD 0) < (t[0]?.getD 0)) → shr a (a.take s ++ t) = s ∧ Op.bytesLess a (a.take s ++ t) = true
  | [], s, t, hs, ht, _ => by
    obtain rfl : s = 0 := by simpa using hs
    match t, ht with
    | c :: r, _ => simp [shr, Op.bytesLess]
  | a :: x, 0, t, _, ht, h => by
    match t, ht with
    | c :: r, _ =>
      have h2 : a < c := by simpa using h
      have h3 : ¬ a = c := fun e => by rw [e] at h2; exact absurd h2 (UInt8.lt_irrefl c)
      simp [shr, Op.bytesLess, h2, h3]
  | a :: x, s + 1, t, hs, ht, h => by
    obtain ⟨h1, h2⟩ := shr_made x s t (by simpa using hs) ht (by simpa using h)
    rw [List.take_succ_cons, List.cons_append]
    simp [shr, Op.bytesLess, h1, h2]
/-- An entry's bytes behind the key b; those of a block. -/
def een (b : ByteArray) (e : En) : List Int :=
  uvb (shr b.data.toList e.k.data.toList) ++ ((uvb (e.k.size - shr b.data.toList e.k.data.toList) ++ (sb e.k).drop (shr b.data.toList e.k.data.toList)) ++ (uvb e.d.toNat ++ (uvb e.t.toNat ++ (uvb e.p.toNat ++ uvb e.s.toNat))))
def ebl : ByteArray → List En → List Int
  | _, [] => []
  | b, e :: r => een b e ++ ebl e.k r
def lastk : ByteArray → List En → ByteArray
  | b, [] => b
  | _, e :: r => lastk e.k r
theorem lastk_snoc : ∀ (b : ByteArray) (l : List En) (e : En), lastk b (l ++ [e]) = e.k
  | _, [], _ => rfl
  | _, _ :: r, e => lastk_snoc _ r e
theorem lastk_append : ∀ (b : ByteArray) (l m : List En), lastk b (l ++ m) = lastk (lastk b l) m
  | _, [], _ => rfl
  | _, _ :: r, m => lastk_append _ r m
theorem ebl_append : ∀ (b : ByteArray) (l m : List En), ebl b (l ++ m) = ebl b l ++ ebl (lastk b l) m
  | _, [], _ => rfl
  | b, e :: r, m => by
    show een b e ++ ebl e.k (r ++ m) = (een b e ++ ebl e.k r) ++ ebl (lastk e.k r) m
    rw [ebl_append e.k r m, List.append_assoc]
theorem ebl_snoc (b : ByteArray) (l : List En) (e : En) : ebl b (l ++ [e]) = ebl b l ++ een (lastk b l) e := by
  rw [ebl_append]; simp [ebl]
/-- The blocks; the image. -/
def chs : Nat → List En → List (List En)
  | 0, _ => []
  | m + 1, l => l.take 16 :: chs m (l.drop 16)
theorem chs_snoc : ∀ (m : Nat) (l : List En), chs (m + 1) l = chs m l ++ [(l.drop (16 * m)).take 16]
  | 0, l => by simp [chs]
  | m + 1, l => by
    rw [chs, chs_snoc m (l.drop 16), List.drop_drop, show 16 + 16 * m = 16 * (m + 1) by omega]
    rfl
def nbk (n : Nat) : Nat := (n + 15) / 16
def hdL (B : List (List En)) : List Int := (B.map (fun F => uvb (ebl ByteArray.empty F).length)).flatten
def bdL (B : List (List En)) : List Int := (B.map (ebl ByteArray.empty)).flatten
theorem hdL_snoc (B : List (List En)) (F : List En) : hdL (B ++ [F]) = hdL B ++ uvb (ebl ByteArray.empty F).length := by simp [hdL]
theorem bdL_snoc (B : List (List En)) (F : List En) : bdL (B ++ [F]) = bdL B ++ ebl ByteArray.empty F := by simp [bdL]
def img (l : List En) : List Int := (uvb l.length ++ hdL (chs (nbk l.length) l)) ++ bdL (chs (nbk l.length) l)
/-- Keys that rise from b on. -/
def chn : ByteArray → List En → Prop
  | _, [] => True
  | b, e :: r => klt b e.k = true ∧ chn e.k r
theorem chn_append : ∀ (b : ByteArray) (l m : List En), chn b (l ++ m) ↔ chn b l ∧ chn (lastk b l) m
  | _, [], m => by simp [chn, lastk]
  | b, e :: r, m => by
    show (klt b e.k = true ∧ chn e.k (r ++ m)) ↔ _
    rw [chn_append e.k r m, chn, lastk, and_assoc]
structure Good (l : List En) : Prop where
  gen : ∀ e ∈ l, Gen e
  chn : chn ByteArray.empty l
theorem klt_empty {k : ByteArray} (h : 1 ≤ k.size) : klt ByteArray.empty k = true := by
  unfold klt
  rw [ByteArray.toList_eq, ByteArray.toList_eq]
  have h2 : 1 ≤ k.data.toList.length := by rw [Array.length_toList]; exact h
  match hk : k.data.toList with
  | [] => rw [hk] at h2; simp at h2
  | c :: r => rfl
/-- Reading: a number with a limit; a text; an entry; a block. -/
def upn (most : Nat) (l : List Int) (p : Nat) : Option (Nat × Nat) := match rdu 0 0 (l.drop p) with
  | .error _ => none
  | .ok (x, k) => if x ≤ most then some (x, p + k) else none
def txn (most : Nat) (l : List Int) (p : Nat) : Option (List Int × Nat) := match upn most l p with
  | none => none
  | some (n, q) => if q + n ≤ l.length then some ((l.drop q).take n, q + n) else none
def keyOf (b : ByteArray) (s : Nat) (t : List Int) : ByteArray := b.extract 0 s ++ strOfNums t
def rok (b : ByteArray) (s : Nat) (t : List Int) : Prop := t ≠ [] ∧ (s = b.size ∨ (b.data.toList[s]?.getD 0) < (UInt8.ofNat (t[0]?.getD 0).toNat))
instance (b : ByteArray) (s : Nat) (t : List Int) : Decidable (rok b s t) := by unfold rok; infer_instance
def rn4 (l : List Int) (k : ByteArray) (q : Nat) : Option (En × Nat) :=
  match upn 2147483647 l q with
  | none => none
  | some (d, q1) => match upn 2147483647 l q1 with
    | none => none
    | some (t, q2) => match upn 2147483647 l q2 with
      | none => none
      | some (p, q3) => match upn 2147483647 l q3 with
        | none => none
        | some (s, q4) => some (⟨k, d, t, p, s⟩, q4)
def rde (l : List Int) (b : ByteArray) (p : Nat) : Option (En × Nat) :=
  match upn b.size l p with
  | none => none
  | some (s, q) => match txn (65 - s) l q with
    | none => none
    | some (t, q1) => if rok b s t then rn4 l (keyOf b s t) q1 else none
def rbk (l : List Int) : Nat → ByteArray → Nat → Option (List En × Nat)
  | 0, _, p => some ([], p)
  | c + 1, b, p => match rde l b p with
    | none => none
    | some (e, q) => match rbk l c e.k q with
      | none => none
      | some (E, r) => some (e :: E, r)
def rls (l : List Int) : Nat → Nat → Option (List Nat × Nat)
  | 0, p => some ([], p)
  | m + 1, p => match upn (l.length - p) l p with
    | none => none
    | some (x, q) => match rls l m q with
      | none => none
      | some (L, r) => some (x :: L, r)
def headk (F : List En) : ByteArray := match F with | [] => ByteArray.empty | e :: _ => e.k
def rbs (l : List Int) : List Nat → Nat → ByteArray → Nat → Option (List En × Nat)
  | [], _, _, p => some ([], p)
  | x :: L, n, b, p => match rbk l (min 16 n) ByteArray.empty p with
    | none => none
    | some (F, q) => if klt b (headk F) = true ∧ q = p + x then (match rbs l L (n - F.length) (lastk b F) q with
        | none => none
        | some (E, r) => some (F ++ E, r)) else none
def par (l : List Int) : Option (List En × Nat) := match upn (l.length / 7) l 0 with
  | none => none
  | some (n, q) => match rls l (nbk n) q with
    | none => none
    | some (L, q1) => rbs l L n ByteArray.empty q1
def opn (l : List Int) : Option (List En) := match par l with
  | none => none
  | some (E, r) => if r < l.length then none else some E
end Go.Proofs.YtcanbhbhdgogoaaDoor
namespace Go.Proofs.YtcanbhbhdgogoaaDoor
open Go.ChangeShapes Go.WideShapes Go.ChangeAt Go.RowKit

theorem isb_drop {l : List Int} (h : IsBytes l) (p : Nat) : IsBytes (l.drop p) := fun x hx => h x (List.mem_of_mem_drop hx)
theorem drop_next {l X R : List Int} {p : Nat} (h : l.drop p = X ++ R) : l.drop (p + X.length) = R := by
  rw [← List.drop_drop, h, List.drop_left]
theorem uvb_pos (n : Nat) : 1 ≤ (uvb n).length := by
  by_cases h : n < 128
  · rw [uvb_small h]; simp
  · rw [uvb_big h]; simp
theorem upn_back {m : Nat} {l : List Int} {p x q : Nat} (hI : IsBytes l) (h : upn m l p = some (x, q)) : p < q ∧ q ≤ l.length ∧ x ≤ m ∧ l.drop p = uvb x ++ l.drop q := by
  unfold upn at h
  split at h
  · cases h
  · rename_i x' k hr
    split at h
    · rename_i hx
      injection h with h
      injection h with h1 h2
      subst h1 h2
      have h3 := rdu_le _ _ _ _ _ hr
      rw [List.length_drop] at h3
      have h4 := rdu_form (isb_drop hI p) hr
      refine ⟨by omega, by omega, hx, ?_⟩
      rw [← h4, ← List.drop_drop, List.take_append_drop]
    · cases h
theorem txn_back {m : Nat} {l t : List Int} {p q : Nat} (hI : IsBytes l) (h : txn m l p = some (t, q)) : p < q ∧ q ≤ l.length ∧ t.length ≤ m ∧ IsBytes t ∧ l.drop p = uvb t.length ++ (t ++ l.drop q) := by
  unfold txn at h
  split at h
  · cases h
  · rename_i n q' hu
    obtain ⟨h1, h2, h3, h4⟩ := upn_back hI hu
    split at h
    · rename_i hn
      injection h with h
      injection h with e1 e2
      subst e1 e2
      have hl : ((l.drop q').take n).length = n := by rw [List.length_take, List.length_drop]; omega
      rw [hl]
      refine ⟨by omega, hn, h3, fun x hx => hI x (List.mem_of_mem_drop (List.mem_of_mem_take hx)), ?_⟩
      rw [h4, ← List.drop_drop, List.take_append_drop]
    · cases h
theorem rn4_back {l : List Int} {k : ByteArray} {q r : Nat} {e : En} (hI : IsBytes l) (h : rn4 l k q = some (e, r)) :
    q < r ∧ r ≤ l.length ∧ e.k = k ∧ (0 ≤ e.d ∧ e.d ≤ 2147483647) ∧ (0 ≤ e.t ∧ e.t ≤ 2147483647) ∧ (0 ≤ e.p ∧ e.p ≤ 2147483647) ∧ (0 ≤ e.s ∧ e.s ≤ 2147483647) ∧ l.drop q = (uvb e.d.toNat ++ (uvb e.t.toNat ++ (uvb e.p.toNat ++ uvb e.s.toNat))) ++ l.drop r := by
  unfold rn4 at h
  split at h
  · cases h
  · rename_i d q1 hd
    split at h
    · cases h
    · rename_i t q2 ht
      split at h
      · cases h
      · rename_i p q3 hp
        split at h
        · cases h
        · rename_i s q4 hs
          injection h with h
          injection h with e1 e2
          subst e1 e2
          obtain ⟨a1, a2, a3, a4⟩ := upn_back hI hd
          obtain ⟨b1, b2, b3, b4⟩ := upn_back hI ht
          obtain ⟨c1, c2, c3, c4⟩ := upn_back hI hp
          obtain ⟨d1, d2, d3, d4⟩ := upn_back hI hs
          refine ⟨by omega, d2, rfl, ⟨by simp, by simp only; omega⟩, ⟨by simp, by simp only; omega⟩, ⟨by simp, by simp only; omega⟩, ⟨by simp, by simp only; omega⟩, ?_⟩
          simp only [Int.toNat_natCast]
          rw [a4, b4, c4, d4]
          simp [List.append_assoc]
theorem strOf_list (t : List Int) : (strOfNums t).data.toList = t.map (fun n => UInt8.ofNat n.toNat) := by simp [strOfNums]
theorem strOf_size (t : List Int) : (strOfNums t).size = t.length := by
  show (List.toArray _).size = _
  rw [List.size_toArray, List.length_map]
theorem keyOf_list {b : ByteArray} {s : Nat} {t : List Int} : (keyOf b s t).data.toList = b.data.toList.take s ++ (strOfNums t).data.toList := by
  unfold keyOf
  simp [ByteArray.data_append, ByteArray.data_extract]
theorem sb_of_strE {t : List Int} (h : IsBytes t) : sb (strOfNums t) = t := by
  show ((t.map fun n => UInt8.ofNat n.toNat).toArray.toList.map fun b => ((b.toNat : Nat) : Int)) = t
  simp only [List.map_map]
  conv => rhs; rw [← List.map_id t]
  apply List.map_congr_left
  intro x hx
  have := h x hx
  simp only [Function.comp, id]
  have e : (UInt8.ofNat x.toNat).toNat = x.toNat := by
    rw [UInt8.toNat_ofNat']
    exact Nat.mod_eq_of_lt (by omega)
  rw [e]
  omega
theorem str_of_sbE (s : ByteArray) : strOfNums (sb s) = s := by
  apply ByteArray.ext
  apply Array.toList_inj.1
  show ((sb s).map fun n => UInt8.ofNat n.toNat).toArray.toList = s.data.toList
  simp only [sb, List.map_map]
  conv => rhs; rw [← List.map_id s.data.toList]
  apply List.map_congr_left
  intro x _
  simp [Function.comp]
theorem bsz (b : ByteArray) : b.data.toList.length = b.size := by rw [Array.length_toList]; rfl
theorem key_facts {b : ByteArray} {s : Nat} {t : List Int} (hI : IsBytes t) (hs : s ≤ b.size) (h : rok b s t) :
    (keyOf b s t).size = s + t.length ∧ shr b.data.toList (keyOf b s t).data.toList = s ∧ klt b (keyOf b s t) = true ∧ (sb (keyOf b s t)).drop s = t := by
  obtain ⟨h1, h2⟩ := h
  have hbs := bsz b
  have hne : (strOfNums t).data.toList ≠ [] := by rw [strOf_list]; intro e; exact h1 (List.map_eq_nil_iff.1 e)
  have h0 : (strOfNums t).data.toList[0]?.getD 0 = UInt8.ofNat (t[0]?.getD 0).toNat := by
    rw [strOf_list]
    match t, h1 with
    | c :: r, _ => simp
  have hm := shr_made b.data.toList s (strOfNums t).data.toList (by omega) hne (h2.imp (fun e => by omega) (fun e => by rw [h0]; exact e))
  have htl : (b.data.toList.take s).length = s := by rw [List.length_take]; omega
  refine ⟨?_, ?_, ?_, ?_⟩
  · rw [← bsz, keyOf_list, List.length_append, htl, bsz, strOf_size]
  · rw [keyOf_list]; exact hm.1
  · unfold klt
    rw [ByteArray.toList_eq, ByteArray.toList_eq, keyOf_list]
    exact hm.2
  · rw [sb, keyOf_list, List.map_append, List.drop_left' (by rw [List.length_map, htl])]
    exact sb_of_strE hI
theorem rde_back {l : List Int} {b : ByteArray} {p q : Nat} {e : En} (hI : IsBytes l) (h : rde l b p = some (e, q)) : p < q ∧ q ≤ l.length ∧ l.drop p = een b e ++ l.drop q ∧ Gen e ∧ klt b e.k = true := by
  unfold rde at h
  split at h
  · cases h
  · rename_i s q0 hu
    obtain ⟨u1, u2, u3, u4⟩ := upn_back hI hu
    split at h
    · cases h
    · rename_i t q1 ht
      obtain ⟨t1, t2, t3, t4, t5⟩ := txn_back hI ht
      split at h
      · rename_i hr
        obtain ⟨n1, n2, n3, n4, n5, n6, n7, n8⟩ := rn4_back hI h
        obtain ⟨k1, k2, k3, k4⟩ := key_facts t4 u3 hr
        have ht0 : 1 ≤ t.length := by
          have := hr.1
          match t, this with
          | c :: r, _ => simp
        rw [← n3] at k1 k2 k3 k4
        refine ⟨by omega, n2, ?_, ⟨by omega, by omega, n4, n5, n6, n7⟩, k3⟩
        rw [een, k2, k4, k1, show s + t.length - s = t.length by omega, u4, t5, n8]
        simp [List.append_assoc]
      · cases h
theorem rbk_back {l : List Int} (hI : IsBytes l) : ∀ {c : Nat} {b : ByteArray} {p q : Nat} {F : List En}, rbk l c b p = some (F, q) → p ≤ l.length → p ≤ q ∧ q ≤ l.length ∧ l.drop p = ebl b F ++ l.drop q ∧ (∀ e ∈ F, Gen e) ∧ F.length = c ∧ chn b F
  | 0, b, p, q, F, h, hp => by
    rw [rbk] at h
    injection h with h
    injection h with e1 e2
    subst e1 e2
    exact ⟨Nat.le_refl _, hp, rfl, fun e he => (by cases he), rfl, trivial⟩
  | c + 1, b, p, q, F, h, hp => by
    rw [rbk] at h
    split at h
    · cases h
    · rename_i e q1 he
      obtain ⟨a1, a2, a3, a4, a5⟩ := rde_back hI he
      split at h
      · cases h
      · rename_i E r hE
        injection h with h
        injection h with e1 e2
        subst e1 e2
        obtain ⟨i1, i2, i3, i4, i5, i6⟩ := rbk_back hI hE a2
        refine ⟨by omega, i2, ?_, ?_, by rw [List.length_cons, i5], a5, i6⟩
        · rw [a3, i3, ebl, List.append_assoc]
        · intro x hx
          rcases List.mem_cons.1 hx with rfl | hx
          · exact a4
          · exact i4 x hx
theorem rls_back {l : List Int} (hI : IsBytes l) : ∀ {m p q : Nat} {L : List Nat}, rls l m p = some (L, q) → p ≤ l.length → p ≤ q ∧ q ≤ l.length ∧ L.length = m ∧ l.drop p = (L.map uvb).flatten ++ l.drop q
  | 0, p, q, L, h, hp => by
    rw [rls] at h
    injection h with h
    injection h with e1 e2
    subst e1 e2
    exact ⟨Nat.le_refl _, hp, rfl, rfl⟩
  | m + 1, p, q, L, h, hp => by
    rw [rls] at h
    split at h
    · cases h
    · rename_i x q1 hx
      obtain ⟨a1, a2, a3, a4⟩ := upn_back hI hx
      split at h
      · cases h
      · rename_i L' r hL
        injection h with h
        injection h with e1 e2
        subst e1 e2
        obtain ⟨i1, i2, i3, i4⟩ := rls_back hI hL a2
        refine ⟨by omega, i2, by rw [List.length_cons, i3], ?_⟩
        rw [a4, i4]
        simp [List.append_assoc]
theorem rbs_back {l : List Int} (hI : IsBytes l) : ∀ {L : List Nat} {n : Nat} {b : ByteArray} {p r : Nat} {E : List En}, rbs l L n b p = some (E, r) → p ≤ l.length → L.length = nbk n → r ≤ l.length ∧ E.length = n ∧ l.drop p = bdL (chs L.length E) ++ l.drop r ∧ L = (chs L.length E).map (fun F => (ebl ByteArray.empty F).length) ∧ (∀ e ∈ E, Gen e) ∧ chn b E
  | [], n, b, p, r, E, h, hp, hL => by
    rw [rbs] at h
    injection h with h
    injection h with e1 e2
    subst e1 e2
    have : n = 0 := by unfold nbk at hL; simp at hL; omega
    exact ⟨hp, this.symm, rfl, rfl, fun e he => (by cases he), trivial⟩
  | x :: L, n, b, p, r, E, h, hp, hL => by
    rw [rbs] at h
    split at h
    · cases h
    · rename_i F q hF
      obtain ⟨a1, a2, a3, a4, a5, a6⟩ := rbk_back hI hF hp
      split at h
      · rename_i hc
        split at h
        · cases h
        · rename_i E' r' hE
          injection h with h
          injection h with e1 e2
          subst e1 e2
          have hn : 1 ≤ n := by unfold nbk at hL; simp at hL; omega
          have hL2 : L.length = nbk (n - F.length) := by unfold nbk at hL ⊢; simp at hL; omega
          obtain ⟨i1, i2, i3, i4, i5, i6⟩ := rbs_back hI hE a2 hL2
          have hx : x = (ebl ByteArray.empty F).length := by
            have := congrArg List.length a3
            rw [List.length_append, List.length_drop, List.length_drop] at this
            have := hc.2
            omega
          have hE16 : F.length = 16 ∨ E' = [] := by
            by_cases h16 : 16 ≤ n
            · exact .inl (by omega)
            · exact .inr (List.eq_nil_of_length_eq_zero (by omega))
          have ht : (F ++ E').take 16 = F ∧ (F ++ E').drop 16 = E' := by
            rcases hE16 with e | e
            · exact ⟨List.take_left' e, List.drop_left' e⟩
            · subst e
              rw [List.append_nil]
              exact ⟨List.take_of_length_le (by omega), List.drop_eq_nil_of_le (by omega)⟩
          have hch : chs (L.length + 1) (F ++ E') = F :: chs L.length E' := by rw [chs, ht.1, ht.2]
          refine ⟨i1, by rw [List.length_append, i2]; omega, ?_, ?_, ?_, ?_⟩
          · rw [List.length_cons, hch, a3, i3]
            simp [bdL, List.append_assoc]
          · rw [List.length_cons, hch, List.map_cons, ← i4, hx]
          · intro e he
            rcases List.mem_append.1 he with he | he
            · exact a4 e he
            · exact i5 e he
          · rw [chn_append]
            refine ⟨?_, i6⟩
            match F, hc.1, a6 with
            | [], _, _ => trivial
            | e :: F', h1, h2 => exact ⟨h1, h2.2⟩
      · cases h
theorem hdL_map (B : List (List En)) : hdL B = ((B.map (fun F => (ebl ByteArray.empty F).length)).map uvb).flatten := by
  simp [hdL, List.map_map, Function.comp_def]
/-- What Open takes is what Build makes of its entries. -/
theorem par_back {l : List Int} {E : List En} {r : Nat} (hI : IsBytes l) (h : par l = some (E, r)) : r ≤ l.length ∧ l = img E ++ l.drop r ∧ Good E ∧ E.length * 7 ≤ l.length := by
  unfold par at h
  split at h
  · cases h
  · rename_i n q hn
    obtain ⟨a1, a2, a3, a4⟩ := upn_back hI hn
    split at h
    · cases h
    · rename_i L q1 hL
      obtain ⟨b1, b2, b3, b4⟩ := rls_back hI hL a2
      obtain ⟨c1, c2, c3, c4, c5, c6⟩ := rbs_back hI h b2 b3
      refine ⟨c1, ?_, ⟨c5, c6⟩, by omega⟩
      rw [b3] at c3 c4
      rw [List.drop_zero] at a4
      rw [img, c2, hdL_map, ← c4, List.append_assoc, List.append_assoc, ← c3, ← b4, ← a4]
theorem opn_back {l : List Int} {E : List En} (hI : IsBytes l) (h : opn l = some E) : l = img E ∧ Good E ∧ E.length * 7 ≤ l.length := by
  unfold opn at h
  split at h
  · cases h
  · rename_i E' r hp
    split at h
    · cases h
    · injection h with h
      subst h
      obtain ⟨a1, a2, a3, a4⟩ := par_back hI hp
      refine ⟨?_, a3, a4⟩
      rw [List.drop_eq_nil_of_le (by omega), List.append_nil] at a2
      exact a2
end Go.Proofs.YtcanbhbhdgogoaaDoor
namespace Go.Proofs.YtcanbhbhdgogoaaDoor
open Go.ChangeShapes Go.WideShapes Go.ChangeAt Go.RowKit

theorem upn_put {m : Nat} {l R : List Int} {p x : Nat} (h : l.drop p = uvb x ++ R) (hm : x ≤ m) (hx : x < 18446744073709551616) : upn m l p = some (x, p + (uvb x).length) := by
  unfold upn
  rw [h, rdu_uvb _ _ hx]
  simp only [if_pos hm]
theorem txn_put {m : Nat} {l t R : List Int} {p : Nat} (h : l.drop p = (uvb t.length ++ t) ++ R) (hm : t.length ≤ m) (hx : t.length < 18446744073709551616) : txn m l p = some (t, p + (uvb t.length ++ t).length) := by
  rw [List.append_assoc] at h
  have h2 := drop_next h
  have hl := congrArg List.length h
  have hu := uvb_pos t.length
  rw [List.length_append, List.length_append, List.length_drop] at hl
  unfold txn
  rw [upn_put h hm hx]
  simp only
  rw [if_pos (by omega), h2, List.take_left, List.length_append, Nat.add_assoc]
theorem rn4_put {l R : List Int} {q : Nat} {e : En} (hg : Gen e) (h : l.drop q = (uvb e.d.toNat ++ (uvb e.t.toNat ++ (uvb e.p.toNat ++ uvb e.s.toNat))) ++ R) :
    rn4 l e.k q = some (e, q + (uvb e.d.toNat ++ (uvb e.t.toNat ++ (uvb e.p.toNat ++ uvb e.s.toNat))).length) := by
  have g1 := hg.d
  have g2 := hg.t
  have g3 := hg.p
  have g4 := hg.s
  rw [List.append_assoc, List.append_assoc, List.append_assoc] at h
  have h2 := drop_next h
  have h3 := drop_next h2
  have h4 := drop_next h3
  unfold rn4
  rw [upn_put h (by omega) (by omega)]
  simp only
  rw [upn_put h2 (by omega) (by omega)]
  simp only
  rw [upn_put h3 (by omega) (by omega)]
  simp only
  rw [upn_put h4 (by omega) (by omega)]
  simp only [List.length_append]
  obtain ⟨k, d, t, p, s⟩ := e
  simp only at g1 g2 g3 g4 ⊢
  rw [Int.toNat_of_nonneg g1.1, Int.toNat_of_nonneg g2.1, Int.toNat_of_nonneg g3.1, Int.toNat_of_nonneg g4.1]
  simp only [Nat.add_assoc]
theorem key_shared {b k : ByteArray} (h : klt b k = true) : shr b.data.toList k.data.toList < k.size ∧ shr b.data.toList k.data.toList ≤ b.size ∧ rok b (shr b.data.toList k.data.toList) ((sb k).drop (shr b.data.toList k.data.toList)) ∧ keyOf b (shr b.data.toList k.data.toList) ((sb k).drop (shr b.data.toList k.data.toList)) = k := by
  unfold klt at h
  rw [ByteArray.toList_eq, ByteArray.toList_eq] at h
  obtain ⟨h1, h2⟩ := shr_less _ _ h
  have h3 := shr_take b.data.toList k.data.toList
  have hb := bsz b
  have hk := bsz k
  generalize shr b.data.toList k.data.toList = s at *
  have hsl : (sb k).length = k.size := sb_length k
  have hd : (sb k).drop s = sb ⟨(k.data.toList.drop s).toArray⟩ := by
    rw [sb, ← List.map_drop]; rfl
  have hst : (strOfNums ((sb k).drop s)).data.toList = k.data.toList.drop s := by
    rw [hd, str_of_sbE]
  refine ⟨by omega, ?_, ⟨?_, ?_⟩, ?_⟩
  · rcases h2 with e | e <;> omega
  · intro e
    have := congrArg List.length e
    rw [List.length_drop, hsl] at this
    simp at this
    omega
  · refine h2.imp (fun e => by omega) (fun e => ?_)
    have hz : UInt8.ofNat (((sb k).drop s)[0]?.getD 0).toNat = k.data.toList[s]?.getD 0 := by
      rw [List.getElem?_drop, Nat.add_zero, sb, List.getElem?_map]
      cases k.data.toList[s]? with
      | none => rfl
      | some c => simp
    rw [hz]
    exact e.2
  · apply ByteArray.ext
    apply Array.toList_inj.1
    rw [keyOf_list, hst, h3, List.take_append_drop]
theorem rde_put {l R : List Int} {b : ByteArray} {p : Nat} {e : En} (hg : Gen e) (hk : klt b e.k = true) (h : l.drop p = een b e ++ R) : rde l b p = some (e, p + (een b e).length) := by
  obtain ⟨k1, k2, k3, k4⟩ := key_shared hk
  have g2 := hg.k2
  unfold een at h ⊢
  generalize shr b.data.toList e.k.data.toList = s at *
  have hsl : ((sb e.k).drop s).length = e.k.size - s := by rw [List.length_drop, sb_length]
  rw [← hsl] at h ⊢
  rw [List.append_assoc, List.append_assoc] at h
  have h2 := drop_next h
  have h3 := drop_next h2
  unfold rde
  rw [upn_put h k2 (by omega)]
  simp only
  rw [txn_put h2 (by rw [hsl]; omega) (by rw [hsl]; omega)]
  simp only
  rw [if_pos k3, k4, rn4_put hg h3]
  simp only [List.length_append, Nat.add_assoc]
theorem een_len {b : ByteArray} {e : En} (hk : klt b e.k = true) : 7 ≤ (een b e).length := by
  obtain ⟨k1, k2, k3, k4⟩ := key_shared hk
  unfold een
  simp only [List.length_append, List.length_drop, sb_length]
  have a1 := uvb_pos (shr b.data.toList e.k.data.toList)
  have a2 := uvb_pos (e.k.size - shr b.data.toList e.k.data.toList)
  have a3 := uvb_pos e.d.toNat
  have a4 := uvb_pos e.t.toNat
  have a5 := uvb_pos e.p.toNat
  have a6 := uvb_pos e.s.toNat
  omega
theorem ebl_len : ∀ {F : List En} {b : ByteArray}, chn b F → 7 * F.length ≤ (ebl b F).length
  | [], _, _ => by simp
  | e :: r, b, hc => by
    have h1 := een_len hc.1
    have h2 := ebl_len hc.2
    rw [ebl, List.length_append, List.length_cons]
    omega
theorem rbk_put {l : List Int} : ∀ {F : List En} {b : ByteArray} {p : Nat} {R : List Int}, (∀ e ∈ F, Gen e) → chn b F → l.drop p = ebl b F ++ R → rbk l F.length b p = some (F, p + (ebl b F).length)
  | [], b, p, R, _, _, _ => by rw [List.length_nil, rbk]; rfl
  | e :: r, b, p, R, hg, hc, h => by
    rw [ebl, List.append_assoc] at h
    have he := hg e List.mem_cons_self
    have h2 := drop_next h
    have ih := rbk_put (fun x hx => hg x (List.mem_cons_of_mem _ hx)) hc.2 h2
    rw [List.length_cons, rbk, rde_put he hc.1 h]
    simp only
    rw [ih]
    simp only [ebl, List.length_append, Nat.add_assoc]
theorem rls_put {l : List Int} : ∀ {L : List Nat} {p : Nat} {R : List Int}, (∀ x ∈ L, x ≤ R.length) → l.length < 18446744073709551616 → l.drop p = (L.map uvb).flatten ++ R → rls l L.length p = some (L, p + ((L.map uvb).flatten).length)
  | [], p, R, _, _, _ => by rw [List.length_nil, rls]; rfl
  | x :: L, p, R, hx, hl, h => by
    rw [List.map_cons, List.flatten_cons, List.append_assoc] at h
    have h2 := drop_next h
    have h0 := hx x List.mem_cons_self
    have hlen := congrArg List.length h
    rw [List.length_drop, List.length_append, List.length_append] at hlen
    have ih := rls_put (fun y hy => hx y (List.mem_cons_of_mem _ hy)) hl h2
    rw [List.length_cons, rls, upn_put h (by omega) (by omega)]
    simp only
    rw [ih]
    simp only [List.map_cons, List.flatten_cons, List.length_append, Nat.add_assoc]
theorem chn_head {b : ByteArray} {F : List En} (h : chn b F) (hF : F ≠ []) : klt b (headk F) = true := by
  match F, hF, h with
  | e :: r, _, h => exact h.1
theorem chn_from {b : ByteArray} {F : List En} (h : chn b F) (hg : ∀ e ∈ F, Gen e) : chn ByteArray.empty F := by
  match F, h with
  | [], _ => trivial
  | e :: r, h => exact ⟨klt_empty (hg e List.mem_cons_self).k1, h.2⟩
theorem nbk_step {m n : Nat} (h : m + 1 = nbk n) : m = nbk (n - 16) := by
  unfold nbk at h ⊢
  omega
theorem rbs_put {l : List Int} : ∀ {m : Nat} {E : List En} {b : ByteArray} {p : Nat} {R : List Int}, m = nbk E.length → (∀ e ∈ E, Gen e) → chn b E → l.drop p = bdL (chs m E) ++ R →
    rbs l ((chs m E).map (fun F => (ebl ByteArray.empty F).length)) E.length b p = some (E, p + (bdL (chs m E)).length)
  | 0, E, b, p, R, hm, _, _, _ => by
    have : E = [] := List.eq_nil_of_length_eq_zero (by unfold nbk at hm; omega)
    subst this
    rfl
  | m + 1, E, b, p, R, hm, hg, hc, h => by
    have hn : 1 ≤ E.length := by unfold nbk at hm; omega
    have he : E.take 16 ++ E.drop 16 = E := List.take_append_drop 16 E
    have hne : E.take 16 ≠ [] := by intro e; have h9 := congrArg List.length e; rw [List.length_take, List.length_nil] at h9; omega
    have hb : bdL (chs (m + 1) E) = ebl ByteArray.empty (E.take 16) ++ bdL (chs m (E.drop 16)) := by simp [bdL, chs]
    rw [hb, List.append_assoc] at h
    have hg1 : ∀ e ∈ E.take 16, Gen e := fun e he => hg e (List.mem_of_mem_take he)
    have hg2 : ∀ e ∈ E.drop 16, Gen e := fun e he => hg e (List.mem_of_mem_drop he)
    rw [← he, chn_append] at hc
    have h2 := drop_next h
    have k1 := rbk_put hg1 (chn_from hc.1 hg1) h
    have ih := rbs_put (m := m) (E := E.drop 16) (b := lastk b (E.take 16)) (by rw [List.length_drop]; exact nbk_step hm) hg2 hc.2 h2
    have hmin : min 16 E.length = (E.take 16).length := by rw [List.length_take]
    have hsub : E.length - (E.take 16).length = (E.drop 16).length := by rw [List.length_take, List.length_drop]; omega
    rw [chs, List.map_cons, rbs, hmin, k1]
    simp only
    rw [if_pos ⟨chn_head hc.1 hne, by first | rfl | trivial⟩, hsub, ih]
    simp only
    rw [he]
    have e3 : bdL (E.take 16 :: chs m (E.drop 16)) = bdL (chs (m + 1) E) := rfl
    rw [e3, hb, List.length_append, Nat.add_assoc]
theorem bdL_len : ∀ {m : Nat} {E : List En} {b : ByteArray}, m = nbk E.length → (∀ e ∈ E, Gen e) → chn b E → 7 * E.length ≤ (bdL (chs m E)).length
  | 0, E, b, hm, _, _ => by unfold nbk at hm; omega
  | m + 1, E, b, hm, hg, hc => by
    have he : E.take 16 ++ E.drop 16 = E := List.take_append_drop 16 E
    have hb : bdL (chs (m + 1) E) = ebl ByteArray.empty (E.take 16) ++ bdL (chs m (E.drop 16)) := by simp [bdL, chs]
    have hg1 : ∀ e ∈ E.take 16, Gen e := fun e he => hg e (List.mem_of_mem_take he)
    have hg2 : ∀ e ∈ E.drop 16, Gen e := fun e he => hg e (List.mem_of_mem_drop he)
    rw [← he, chn_append] at hc
    have ih := bdL_len (m := m) (E := E.drop 16) (b := lastk b (E.take 16)) (by rw [List.length_drop]; exact nbk_step hm) hg2 hc.2
    have h1 := ebl_len (chn_from hc.1 hg1)
    rw [List.length_drop] at ih
    rw [List.length_take] at h1
    rw [hb, List.length_append]
    omega
theorem mem_bdL {B : List (List En)} : ∀ x ∈ B.map (fun F => (ebl ByteArray.empty F).length), x ≤ (bdL B).length := by
  induction B with
  | nil => intro x hx; cases hx
  | cons F B ih =>
    intro x hx
    have e : bdL (F :: B) = ebl ByteArray.empty F ++ bdL B := by simp [bdL]
    rw [e, List.length_append]
    rcases List.mem_cons.1 hx with rfl | hx
    · exact Nat.le_add_right _ _
    · have := ih x hx
      omega
theorem chs_len : ∀ (m : Nat) (l : List En), (chs m l).length = m
  | 0, _ => rfl
  | m + 1, l => by rw [chs, List.length_cons, chs_len m]
/-- Build's image is read, whatever stands behind it. -/
theorem par_put {E : List En} {R : List Int} (hg : Good E) (hl : (img E ++ R).length < 18446744073709551616) : par (img E ++ R) = some (E, (img E).length) := by
  obtain ⟨l, hle⟩ : ∃ l, l = img E ++ R := ⟨_, rfl⟩
  rw [← hle] at hl ⊢
  have h : l.drop 0 = uvb E.length ++ (((((chs (nbk E.length) E).map (fun F => (ebl ByteArray.empty F).length)).map uvb).flatten) ++ (bdL (chs (nbk E.length) E) ++ R)) := by
    rw [List.drop_zero, hle, img, hdL_map]
    simp only [List.append_assoc]
  have h7 := bdL_len rfl hg.gen hg.chn
  have h2 := drop_next h
  have h3 := drop_next h2
  have hlen := congrArg List.length h
  rw [List.length_drop, List.length_append, List.length_append, List.length_append] at hlen
  unfold par
  rw [upn_put h (by omega) (by omega)]
  simp only
  have hr := rls_put (L := (chs (nbk E.length) E).map (fun F => (ebl ByteArray.empty F).length)) (fun x hx => by have := mem_bdL x hx; rw [List.length_append]; omega) hl h2
  rw [List.length_map, chs_len] at hr
  rw [hr]
  simp only
  rw [rbs_put rfl hg.gen hg.chn h3, img, hdL_map]
  simp only [List.length_append, Nat.add_assoc, Nat.zero_add]
theorem opn_put {E : List En} (hg : Good E) (hl : (img E).length < 18446744073709551616) : opn (img E) = some E := by
  have h := par_put (R := []) hg (by rw [List.append_nil]; exact hl)
  rw [List.append_nil] at h
  unfold opn
  rw [h]
  simp only [if_neg (Nat.lt_irrefl _)]
theorem opn_more {E : List En} {R : List Int} (hg : Good E) (hR : R ≠ []) (hl : (img E ++ R).length < 18446744073709551616) : opn (img E ++ R) = none := by
  unfold opn
  rw [par_put hg hl]
  have : 1 ≤ R.length := by
    match R, hR with
    | c :: r, _ => simp
  simp only
  rw [if_pos (by rw [List.length_append]; omega)]
theorem opn_less {E : List En} {c : Nat} (hI : IsBytes (img E)) (hg : Good E) (hc : c < (img E).length) (hl : (img E).length < 18446744073709551616) : opn ((img E).take c) = none := by
  cases h : opn ((img E).take c) with
  | none => rfl
  | some E' =>
    exfalso
    obtain ⟨h1, h2, -⟩ := opn_back (fun x hx => hI x (List.mem_of_mem_take hx)) h
    have h3 : img E = img E' ++ (img E).drop c := by rw [← h1, List.take_append_drop]
    have h4 := par_put (R := (img E).drop c) h2 (by rw [← h3]; exact hl)
    rw [← h3] at h4
    have h5 := par_put (R := []) hg (by rw [List.append_nil]; exact hl)
    rw [List.append_nil, h4] at h5
    injection h5 with h5
    injection h5 with _ h6
    have h7 := congrArg List.length h1
    rw [List.length_take] at h7
    omega
end Go.Proofs.YtcanbhbhdgogoaaDoor
