import Derived.Test.YtbdhmibiggpomaaDoorMrg8
import Derived.Test.YtbdhmibiggpomaaDoorPoc
namespace Go.Proofs.YtbdhmibiggpomaaDoor
open Go.ChangeShapes Go.WideShapes Go.ChangeAt Go.RowKit

/-- The document's reader, as functions. -/
def dnu (l : List Int) (p : Nat) : Option (Nat × Nat) := upn 9223372036854775807 l p
def dpa (l : List Int) (n p : Nat) : Option (List Int × Nat) := match pkn 16 l p with
  | none => none
  | some (xs, q) => if xs.length = n then some (xs, q) else none
def preI (xs : List Int) : Option (List Int × Nat) → Option (List Int × Nat) := Option.map (fun x => (xs ++ x.1, x.2))
def preP (F : List Po) : Option (List Po × Nat) → Option (List Po × Nat) := Option.map (fun x => (F ++ x.1, x.2))
def dps (l : List Int) : Nat → Int → Nat → Option (List Int × Nat)
  | 0, _, p => some ([], p)
  | k + 1, last, p => match dnu l p with
    | none => none
    | some (x, q) => if last = 9223372036854775807 ∨ 9223372036854775806 - last < (x : Int) then none else preI [last + ((x : Int) + 1)] (dps l k (last + ((x : Int) + 1)) q)
/-- A posting's positions are put ahead of the rest. -/
def conX (d : Int) (f : Nat → Option (List Po × Nat)) : Option (List Int × Nat) → Option (List Po × Nat)
  | none => none
  | some (xs, q) => preP [⟨d, xs⟩] (f q)
def dbs (l : List Int) : Int → List Int → List Int → Nat → Option (List Po × Nat)
  | b, g :: G, m :: M, p => if 2147483647 ≤ g ∨ 2147483647 ≤ b + g + 1 then none else conX (b + (g + 1)) (dbs l (b + (g + 1)) G M) (dps l (m.toNat + 1) (-1) p)
  | _, _, _, p => some ([], p)
def dbk (l : List Int) (n : Nat) (b : Int) (p : Nat) : Option (List Po × Nat) := match dpa l n p with
  | none => none
  | some (G, q) => match dpa l n q with
    | none => none
    | some (M, r) => dbs l b G M r
def dsk (l : List Int) : Nat → Nat → Option Nat
  | 0, p => some p
  | m + 1, p => match dnu l p with
    | none => none
    | some (_, q) => match dnu l q with
      | none => none
      | some (_, r) => dsk l m r
def dal (l : List Int) : Nat → Nat → Int → Nat → Option (List Po × Nat)
  | 0, _, _, p => some ([], p)
  | m + 1, left, b, p => match dbk l (min 16 left) b p with
    | none => none
    | some (F, q) => preP F (dal l m (left - 16) (lastd b F) q)
def ddc (l : List Int) : Option (List Po) := match dnu l 0 with
  | none => none
  | some (n, q) => match dnu l q with
    | none => none
    | some (_, r) => match dsk l (nbp n) r with
      | none => none
      | some s => (dal l (nbp n) n (-1) s).map (·.1)
theorem preI_nil (x : Option (List Int × Nat)) : preI [] x = x := by cases x <;> rfl
theorem preP_nil (x : Option (List Po × Nat)) : preP [] x = x := by cases x <;> rfl
theorem preI_pre (a b : List Int) (x : Option (List Int × Nat)) : preI a (preI b x) = preI (a ++ b) x := by
  cases x with
  | none => rfl
  | some y => simp [preI]
theorem preP_pre (a b : List Po) (x : Option (List Po × Nat)) : preP a (preP b x) = preP (a ++ b) x := by
  cases x with
  | none => rfl
  | some y => simp [preP]
theorem dnu_put {l R : List Int} {p x : Nat} (h : l.drop p = uvb x ++ R) (hx : x < 9223372036854775808) : dnu l p = some (x, p + (uvb x).length) := upn_put h (by omega) (by omega)
theorem dpa_put {l xs R : List Int} {p : Nat} (h : l.drop p = packed xs ++ R) (hI : IsInts xs) (h0 : ∀ x ∈ xs, 0 ≤ x) (hs : xs.length ≤ 16) : dpa l xs.length p = some (xs, p + (packed xs).length) := by
  unfold dpa
  rw [pkn_put (m := 16) h hI h0 hs (by omega)]
  simp
theorem dps_put {l : List Int} : ∀ {ps : List Int} {s p : Nat} {R : List Int}, Ris ps s → l.drop p = risb ps s ++ R → dps l ps.length ((s : Int) - 1) p = some (ps, p + (risb ps s).length)
  | [], s, p, R, _, _ => by simp [dps, risb]
  | x :: r, s, p, R, h, hl => by
    obtain ⟨h1, h2, h3⟩ := h
    rw [risb, List.append_assoc] at hl
    have u := dnu_put hl (by omega)
    have e := drop_next hl
    have i := dps_put h3 e
    rw [List.length_cons, dps, u]
    simp only
    rw [if_neg (by omega)]
    have e1 : (s : Int) - 1 + (((x.toNat - s : Nat) : Int) + 1) = x := by omega
    have e2 : (((x.toNat + 1 : Nat) : Int) - 1) = x := by omega
    rw [e2] at i
    rw [e1, i, risb, List.length_append]
    simp [preI, Nat.add_assoc]
theorem dbs_put {l : List Int} : ∀ {F : List Po} {b : Int} {p : Nat} {R : List Int}, gdl b F → -1 ≤ b → l.drop p = psb F ++ R → dbs l b (gps b F) (mos F) p = some (F, p + (psb F).length)
  | [], b, p, R, _, _, _ => by simp [gps, mos, dbs, psb]
  | x :: F, b, p, R, h, hb, hl => by
    obtain ⟨h1, h2⟩ := h
    have z1 := h1.lo
    have z2 := h1.hi
    have z3 := h1.up
    have hx : x.ps.length ≠ 0 := fun e => h1.ne (List.eq_nil_of_length_eq_zero e)
    rw [psb_cons, List.append_assoc] at hl
    have u := dps_put h1.ri hl
    have e := drop_next hl
    have i := dbs_put h2 (by omega) e
    have em : mos (x :: F) = ((x.ps.length : Int) - 1) :: mos F := by simp [mos]
    have e2 : ((x.ps.length : Int) - 1).toNat + 1 = x.ps.length := by omega
    have e3 : b + (x.d - 1 - b + 1) = x.d := by omega
    rw [gps, em, dbs, if_neg (by omega), e2, e3, show ((-1 : Int)) = ((0 : Nat) : Int) - 1 from rfl, u, conX, i]
    simp [preP, psb_cons, Nat.add_assoc]
theorem dbk_put {l : List Int} {F : List Po} {b : Int} {p : Nat} {R : List Int} (h : gdl b F) (hb : -1 ≤ b) (hn : F.length ≤ 16) (hl : l.drop p = blk b F ++ R) : dbk l F.length b p = some (F, p + (blk b F).length) := by
  have g1 := gps_ints h hb
  have m1 := mos_intsG h
  rw [blk, List.append_assoc, List.append_assoc] at hl
  have p1 := dpa_put hl (fun x hx => by have := g1 x hx; omega) (fun x hx => (g1 x hx).1) (by rw [gps_length]; exact hn)
  have e1 := drop_next hl
  have p2 := dpa_put e1 (fun x hx => by have := m1 x hx; omega) (fun x hx => (m1 x hx).1) (by rw [mos_length]; exact hn)
  have e2 := drop_next e1
  have p3 := dbs_put h hb e2
  rw [gps_length] at p1
  rw [mos_length] at p2
  unfold dbk
  rw [p1]
  simp only
  rw [p2]
  simp only
  rw [p3, blk, List.length_append, List.length_append]
  simp [Nat.add_assoc]
theorem dsk_put {l : List Int} (hl : l.length < 9223372036854775808) : ∀ {m : Nat} {L : List Po} {b : Int} {p : Nat} {R : List Int}, m = nbp L.length → gdl b L → -1 ≤ b → (bkb b (chp m L)).length ≤ R.length → l.drop p = skb b (chp m L) ++ R →
    dsk l m p = some (p + (skb b (chp m L)).length)
  | 0, L, b, p, R, hm, hg, hb, hR, h => by simp [dsk, chp, skb]
  | m + 1, L, b, p, R, hm, hg, hb, hR, h => by
    obtain ⟨g1, g2⟩ := gdl_split hg
    obtain ⟨F, hF⟩ : ∃ F, F = L.take 16 := ⟨_, rfl⟩
    obtain ⟨L', hL'⟩ : ∃ L', L' = L.drop 16 := ⟨_, rfl⟩
    have n1 : F.length = min L.length 16 := by rw [hF, List.length_take, Nat.min_comm]
    have n2 : L'.length = L.length - 16 := by rw [hL', List.length_drop]
    rw [chp, bkb, ← hF, ← hL', List.length_append] at hR
    rw [chp, skb, ← hF, ← hL'] at h
    rw [← hF] at g1
    rw [← hF, ← hL'] at g2
    rw [chp, skb, ← hF, ← hL']
    have hne : F ≠ [] := by
      intro e
      rw [e] at n1
      unfold nbp at hm
      simp at n1
      omega
    obtain ⟨q0, q3⟩ := gdl_last F b g1
    obtain ⟨q1, q2⟩ := q3 hne
    obtain ⟨g, hgq⟩ : ∃ g, g = (lastd b F - 1 - b).toNat := ⟨_, rfl⟩
    obtain ⟨z, hz⟩ : ∃ z, z = (blk b F).length := ⟨_, rfl⟩
    rw [← hgq, ← hz] at h ⊢
    rw [← hz] at hR
    rw [List.append_assoc, List.append_assoc] at h
    have u1 := dnu_put h (by omega)
    have e1 := drop_next h
    have k1 := congrArg List.length e1
    rw [List.length_drop, List.length_append, List.length_append] at k1
    have u2 := dnu_put e1 (by omega)
    have e2 := drop_next e1
    have i := dsk_put hl (m := m) (L := L') (by rw [n2]; unfold nbp at hm ⊢; omega) g2 (by omega) (by omega) e2
    rw [dsk, u1]
    simp only
    rw [u2]
    simp only
    rw [i, List.length_append, List.length_append]
    simp [Nat.add_assoc]
theorem dal_put {l : List Int} : ∀ {m : Nat} {L : List Po} {b : Int} {p : Nat} {R : List Int}, m = nbp L.length → gdl b L → -1 ≤ b → l.drop p = bkb b (chp m L) ++ R → dal l m L.length b p = some (L, p + (bkb b (chp m L)).length)
  | 0, L, b, p, R, hm, hg, hb, h => by
    have e : L = [] := List.eq_nil_of_length_eq_zero (by unfold nbp at hm; omega)
    subst e
    simp [chp, bkb, dal]
  | m + 1, L, b, p, R, hm, hg, hb, h => by
    obtain ⟨g1, g2⟩ := gdl_split hg
    obtain ⟨F, hF⟩ : ∃ F, F = L.take 16 := ⟨_, rfl⟩
    obtain ⟨L', hL'⟩ : ∃ L', L' = L.drop 16 := ⟨_, rfl⟩
    have n1 : F.length = min 16 L.length := by rw [hF, List.length_take]
    have n2 : L'.length = L.length - 16 := by rw [hL', List.length_drop]
    rw [chp, bkb, ← hF, ← hL', List.append_assoc] at h
    rw [← hF] at g1
    rw [← hF, ← hL'] at g2
    have q0 := gdl_last F b g1
    have k := dbk_put g1 hb (by omega) h
    have i := dal_put (m := m) (L := L') (by rw [n2]; unfold nbp at hm ⊢; omega) g2 (by omega) (drop_next h)
    rw [chp, bkb, ← hF, ← hL', dal, ← n1, k]
    simp only
    rw [← n2, i, List.length_append]
    have eL : L = F ++ L' := by rw [hF, hL', List.take_append_drop]
    simp [preP, Nat.add_assoc, ← eL]
theorem ddc_put {L : List Po} (hg : gdl (-1) L) (hl : (img L).length < 9223372036854775808) : ddc (img L) = some L := by
  obtain ⟨l, hL⟩ : ∃ l, l = img L := ⟨_, rfl⟩
  rw [← hL] at hl ⊢
  obtain ⟨B, hB⟩ : ∃ B, B = chp (nbp L.length) L := ⟨_, rfl⟩
  have t1 := tot_bkb (L := L) (b := -1) rfl
  have t2 := len_tot hg
  rw [← hB] at t1
  have e0 : l.drop 0 = uvb L.length ++ (uvb (tot L) ++ (skb (-1) B ++ bkb (-1) B)) := by rw [List.drop_zero, hL, img, ← hB]; simp [List.append_assoc]
  have k0 := congrArg List.length e0
  rw [List.length_drop, List.length_append, List.length_append, List.length_append] at k0
  have u1 := dnu_put e0 (by omega)
  have e1 := drop_next e0
  have u2 := dnu_put e1 (by omega)
  have e2 := drop_next e1
  have u3 := dsk_put hl (L := L) (b := -1) (R := bkb (-1) B) rfl hg (by omega) (by rw [← hB]; exact Nat.le_refl _) (by rw [← hB]; exact e2)
  have e3 := drop_next e2
  have u4 := dal_put (l := l) (L := L) (b := -1) (R := []) rfl hg (by omega) (by rw [← hB, List.append_nil]; exact e3)
  rw [← hB] at u3 u4
  unfold ddc
  rw [u1]
  simp only
  rw [u2]
  simp only
  rw [u3]
  simp only
  rw [u4]
  rfl
/-- What the document's Decode answers. -/
theorem ddc_opn {l : List Int} (hI : IsBytes l) (hl : l.length < 9223372036854775808) : opn l = match ddc l with
    | none => none
    | some F => open Classical in if gdl (-1) F ∧ img F = l then some F else none := by
  cases ho : opn l with
  | none =>
    cases hd : ddc l with
    | none => rfl
    | some F =>
      simp only
      rw [if_neg]
      rintro ⟨h1, h2⟩
      subst h2
      rw [opn_put h1 hl] at ho
      cases ho
  | some L =>
    obtain ⟨h1, h2, -⟩ := opn_back hI ho
    subst h1
    rw [ddc_put h2 hl]
    simp [h2]
end Go.Proofs.YtbdhmibiggpomaaDoor
namespace Go.Proofs.YtbdhmibiggpomaaDoor
open Go.ChangeShapes Go.WideShapes Go.ChangeAt Go.RowKit

theorem bit_step (V t j : Nat) : V / 2 ^ t % 2 ^ (j + 1) = 2 * (V / 2 ^ (t + 1) % 2 ^ j) + V / 2 ^ t % 2 := by
  rw [Nat.pow_succ, Nat.mul_comm (2 ^ j) 2, Nat.mod_mul, Nat.pow_succ 2 t, ← Nat.div_div_eq_div_mul]
  omega
theorem pad_zero {V N : Nat} : ∀ {M : Nat}, V < 2 ^ M → (∀ p, N ≤ p → p < M → V / 2 ^ p % 2 = 0) → V < 2 ^ N
  | 0, hV, _ => Nat.lt_of_lt_of_le hV (Nat.pow_le_pow_right (by decide) (Nat.zero_le _))
  | M + 1, hV, h => by
    rcases Nat.lt_or_ge M N with q | q
    · exact Nat.lt_of_lt_of_le hV (Nat.pow_le_pow_right (by decide) q)
    · refine pad_zero (M := M) ?_ (fun p h1 h2 => h p h1 (by omega))
      have h1 := h M q (by omega)
      have h2 : V / 2 ^ M < 2 := Nat.div_lt_of_lt_mul (by rw [← Nat.pow_succ]; exact hV)
      have h3 : V / 2 ^ M = 0 := by
        generalize V / 2 ^ M = x at *
        omega
      rcases Nat.div_eq_zero_iff.1 h3 with e | e
      · exact absurd e (Nat.pos_iff_ne_zero.1 (Nat.two_pow_pos M))
      · exact e
theorem pad_one {V N p : Nat} (h : V / 2 ^ p % 2 ≠ 0) (hp : N ≤ p) : ¬ V < 2 ^ N := by
  intro hV
  have : V < 2 ^ p := Nat.lt_of_lt_of_le hV (Nat.pow_le_pow_right (by decide) hp)
  rw [Nat.div_eq_of_lt this] at h
  exact h rfl
/-- A bit of the bytes from q on. -/
theorem bit_at {l : List Int} {q m p d : Nat} (hI : IsBytes l) (hq : q + m ≤ l.length) (hp : p / 8 < m) (hd : l[q + p / 8]? = some (d : Int)) : d / 2 ^ (p % 8) % 2 = vle ((l.drop q).take m) / 2 ^ p % 2 := by
  have hR : IsBytes ((l.drop q).take m) := isb_take (isb_drop hI q) m
  have hl : ((l.drop q).take m).length = m := by rw [List.length_take, List.length_drop]; omega
  have hj : p / 8 < ((l.drop q).take m).length := by omega
  have hc : ((l.drop q).take m)[p / 8] = (d : Int) := by
    rw [List.getElem_take, List.getElem_drop]
    rw [List.getElem?_eq_getElem (by omega)] at hd
    exact Option.some.inj hd
  have h := piece_at (r := p % 8) (t := 1) hR hj hc (by omega)
  rw [Nat.pow_one, show 8 * (p / 8) + p % 8 = p by omega] at h
  exact h
theorem unp_zero (V : Nat) : ∀ n, unp V 0 n = List.replicate n 0
  | 0 => rfl
  | n + 1 => by
    rw [unp_succ, unp_zero V n, List.replicate_succ', Nat.pow_zero, Nat.mod_one]
    rfl
end Go.Proofs.YtbdhmibiggpomaaDoor
