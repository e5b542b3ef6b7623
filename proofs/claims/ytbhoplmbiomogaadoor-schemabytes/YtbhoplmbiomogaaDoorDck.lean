import Derived.Test.YtbhoplmbiomogaaDoorMrg4
import Derived.Test.YtbhoplmbiomogaaDoorPen
import Derived.Test.YtbhoplmbiomogaaDoorBkf
namespace Go.Proofs.YtbhoplmbiomogaaDoor
open Go.ChangeShapes Go.WideShapes Go.ChangeAt Go.RowKit

theorem sb_strOf {t : List Int} (h : IsBytes t) : sb (strOfNums t) = t := by
  show ((t.map fun n => UInt8.ofNat n.toNat).toArray.toList.map fun b => ((b.toNat : Nat) : Int)) = t
  simp only [List.map_map]
  conv => rhs; rw [← List.map_id t]
  apply List.map_congr_left
  intro x hx
  have := h x hx
  simp only [Function.comp, id]
  have e : (UInt8.ofNat x.toNat).toNat = x.toNat := by
    rw [UInt8.toNat_ofNat']
    exact Nat.mod_eq_of_lt (by omega)
  rw [e]
  omega
theorem strOf_sb (s : ByteArray) : strOfNums (sb s) = s := by
  apply ByteArray.ext
  apply Array.toList_inj.1
  show ((sb s).map fun n => UInt8.ofNat n.toNat).toArray.toList = s.data.toList
  simp only [sb, List.map_map]
  conv => rhs; rw [← List.map_id s.data.toList]
  apply List.map_congr_left
  intro x _
  simp [Function.comp]
theorem fdOf_n (n : ByteArray) (b : Nat) : (fdOf n b).n = n := rfl
theorem fby_of {n : ByteArray} {b : Nat} (h : b < 32) : fby (fdOf n b) = b := by
  have h1 : b % 4 + bt (decide (b / 4 % 2 = 1)) 4 + bt (decide (b / 8 % 2 = 1)) 8 + bt (decide (b / 16 % 2 = 1)) 16 = b := by
    unfold bt
    by_cases h4 : b / 4 % 2 = 1 <;> by_cases h8 : b / 8 % 2 = 1 <;> by_cases h16 : b / 16 % 2 = 1 <;> simp [h4, h8, h16] <;> omega
  exact h1
theorem fby_lt {f : Fd} (h : f.k = 1 ∨ f.k = 2 ∨ f.k = 3) : fby f < 32 := by
  have h1 := bt_le f.fo 4
  have h2 := bt_le f.st 8
  have h3 := bt_le f.se 16
  unfold fby
  have : f.k.toNat ≤ 3 := by rcases h with h | h | h <;> rw [h] <;> decide
  omega
theorem orL_le : ∀ (B : List Nat), ∀ b ∈ B, b ≤ orL B := by
  have key : ∀ (B : List Nat) (a : Nat), a ≤ B.foldl (· ||| ·) a ∧ ∀ b ∈ B, b ≤ B.foldl (· ||| ·) a := by
    intro B
    induction B with
    | nil => intro a; exact ⟨Nat.le_refl _, fun b hb => by cases hb⟩
    | cons c r ih =>
      intro a
      obtain ⟨i1, i2⟩ := ih (a ||| c)
      refine ⟨Nat.le_trans Nat.left_le_or i1, fun b hb => ?_⟩
      rcases List.mem_cons.1 hb with rfl | hb
      · exact Nat.le_trans Nat.right_le_or i1
      · exact i2 b hb
  exact fun B => (key B 0).2
theorem orL_small : ∀ (B : List Nat), (∀ b ∈ B, b < 32) → orL B ≤ 31 := by
  have key : ∀ (B : List Nat) (a : Nat), a < 32 → (∀ b ∈ B, b < 32) → B.foldl (· ||| ·) a < 32 := by
    intro B
    induction B with
    | nil => intro a ha _; exact ha
    | cons b r ih => intro a ha hB; exact ih _ (Nat.or_lt_two_pow (n := 5) ha (hB b List.mem_cons_self)) (fun c hc => hB c (List.mem_cons_of_mem _ hc))
  intro B h
  have := key B 0 (by decide) h
  unfold orL
  omega
theorem feL_cons (f : Fd) (r : List Fd) : feL (f :: r) = fe f ++ feL r := by simp [feL]
/-- What Encode puts is read back. -/
theorem rfd_feL : ∀ (l : List Fd) (P R : List Int), (∀ f ∈ l, (f.k = 1 ∨ f.k = 2 ∨ f.k = 3) ∧ f.n.size ≤ 32) → rfd (P ++ (feL l ++ R)) l.length P.length = .ok (l, l.map fby, P.length + (feL l).length)
  | [], P, R, _ => by simp [rfd, feL]
  | f :: r, P, R, h => by
    obtain ⟨hk, hn⟩ := h f List.mem_cons_self
    obtain ⟨L, hL⟩ : ∃ L, L = P ++ (feL (f :: r) ++ R) := ⟨_, rfl⟩
    have hL2 : L = P ++ (uvb f.n.size ++ (sb f.n ++ (((fby f : Nat) : Int) :: (feL r ++ R)))) := by rw [hL, feL_cons, fe]; simp [List.append_assoc]
    have hd : L.drop P.length = uvb f.n.size ++ (sb f.n ++ (((fby f : Nat) : Int) :: (feL r ++ R))) := by rw [hL2, List.drop_left]
    have hu1 : (uvb f.n.size).length = 1 := by rw [uvb_small (by omega)]; rfl
    have hr : rdu 0 0 (L.drop P.length) = .ok (f.n.size, 1) := by rw [hd, rdu_uvb _ _ (by omega), hu1]
    have hup : rup 32 L P.length = .ok (f.n.size, 1) := by rw [rup, hr]; simp only [if_pos hn]
    have hlen : L.length = P.length + (1 + (f.n.size + (1 + (feL r ++ R).length))) := by
      rw [hL2, List.length_append, List.length_append, List.length_append, List.length_cons, hu1, sb_length]; omega
    have hd2 : L.drop (P.length + 1) = sb f.n ++ (((fby f : Nat) : Int) :: (feL r ++ R)) := by
      rw [← List.drop_drop, hd, ← hu1, List.drop_left]
    have ht : rtx L P.length = .ok (sb f.n, P.length + 1 + f.n.size) := by
      rw [rtx, hup]
      simp only [if_pos (show P.length + 1 + f.n.size ≤ L.length by omega)]
      rw [hd2, List.take_left' (sb_length _)]
    have hd3 : L.drop (P.length + 1 + f.n.size) = ((fby f : Nat) : Int) :: (feL r ++ R) := by
      rw [← List.drop_drop, hd2, List.drop_left' (sb_length _)]
    have hq : P.length + 1 + f.n.size < L.length := by omega
    have hget : L[P.length + 1 + f.n.size]?.getD 0 = ((fby f : Nat) : Int) := by
      have := congrArg (fun x => x[0]?) hd3
      simp only [List.getElem?_drop, Nat.add_zero, List.getElem?_cons_zero] at this
      rw [this]; rfl
    have ih := rfd_feL r (P ++ fe f) R (fun g hg => h g (List.mem_cons_of_mem _ hg))
    have e1 : P ++ fe f ++ (feL r ++ R) = L := by rw [hL, feL_cons]; simp [List.append_assoc]
    have e2 : (P ++ fe f).length = P.length + 1 + f.n.size + 1 := by rw [List.length_append, fe, List.length_append, List.length_append, hu1, sb_length]; simp; omega
    rw [e1, e2] at ih
    rw [← hL, List.length_cons, rfd, ht]
    simp only [if_pos hq, ih, hget, Int.toNat_natCast, strOf_sb, fdOf_fby f hk, List.map_cons]
    have e3 : P.length + 1 + f.n.size + 1 + (feL r).length = P.length + (feL (f :: r)).length := by
      rw [feL_cons, List.length_append, fe, List.length_append, List.length_append, hu1, sb_length]; simp; omega
    rw [e3]
theorem dec_ebs {l : List Fd} (h : gschema l = true) : dec (ebs l) = .ok l := by
  have hl := gs_lenE h
  have hf : ∀ f ∈ l, (f.k = 1 ∨ f.k = 2 ∨ f.k = 3) ∧ f.n.size ≤ 32 := fun f hf => ⟨gk_range (gs_memE h hf), by have := (gn_chars (gs_memE h hf)).1; simp only [Array.length_toList] at this; exact this⟩
  have hu1 : (uvb l.length).length = 1 := by rw [uvb_small (by omega)]; rfl
  have hr : rdu 0 0 ((ebs l).drop 0) = .ok (l.length, 1) := by rw [List.drop_zero, ebs, rdu_uvb _ _ (by omega), hu1]
  have hup : rup 16 (ebs l) 0 = .ok (l.length, 1) := by rw [rup, hr]; simp only [if_pos hl.2]
  have hfd := rfd_feL l (uvb l.length) [] hf
  rw [List.append_nil, hu1] at hfd
  have hfd2 : rfd (ebs l) l.length 1 = .ok (l, l.map fby, 1 + (feL l).length) := hfd
  rw [dec_ok hup hfd2, if_neg (by rw [ebs, List.length_append, hu1]; omega), if_pos ⟨orL_small _ (fun b hb => by obtain ⟨f, hm, rfl⟩ := List.mem_map.1 hb; exact fby_lt (hf f hm).1), h⟩]
/-- What is read is just what Encode puts. -/
theorem rfd_back {l : List Int} (hI : IsBytes l) : ∀ {n p : Nat} {F : List Fd} {B : List Nat} {r : Nat}, rfd l n p = .ok (F, B, r) → p ≤ l.length → (∀ b ∈ B, b < 32) → r ≤ l.length ∧ l.drop p = feL F ++ l.drop r
  | 0, p, F, B, r, h, hp, _ => by
    rw [rfd] at h
    injection h with h
    injection h with h1 h2
    injection h2 with h2 h3
    subst h1 h3
    exact ⟨hp, by simp [feL]⟩
  | n + 1, p, F, B, r, h, hp, hB => by
    rw [rfd] at h
    cases hT : rtx l p with
    | error e => rw [hT] at h; cases h
    | ok tq =>
      obtain ⟨t, q⟩ := tq
      rw [hT] at h
      simp only at h
      split at h
      · rename_i hq
        cases hR : rfd l n (q + 1) with
        | error e => rw [hR] at h; cases h
        | ok x =>
          obtain ⟨F', B', r'⟩ := x
          rw [hR] at h
          simp only at h
          injection h with h
          injection h with h1 h2
          injection h2 with h2 h3
          subst h1 h2 h3
          have hb := hB _ List.mem_cons_self
          obtain ⟨i1, i2⟩ := rfd_back hI hR (by omega) (fun b hb => hB b (List.mem_cons_of_mem _ hb))
          refine ⟨i1, ?_⟩
          have hw : ∃ m k, rdu 0 0 (l.drop p) = .ok (m, k) ∧ m ≤ 32 ∧ p + k + m ≤ l.length ∧ t = (l.drop (p + k)).take m ∧ q = p + k + m := by
            unfold rtx at hT
            split at hT
            · cases hT
            · rename_i m k he
              split at hT
              · injection hT with hT
                injection hT with e1 e2
                exact ⟨m, k, (rup_ok he).1, (rup_ok he).2, by assumption, e1.symm, e2.symm⟩
              · cases hT
          obtain ⟨m, k, hr, hm, hle, rfl, rfl⟩ := hw
          have hIb : IsBytes (l.drop p) := fun x hx => hI x (List.mem_of_mem_drop hx)
          have hform := rdu_form hIb hr
          have hk := rdu_le _ _ _ _ _ hr
          have ht : ((l.drop (p + k)).take m).length = m := by rw [List.length_take, List.length_drop]; omega
          have hIt : IsBytes ((l.drop (p + k)).take m) := fun x hx => hI x (List.mem_of_mem_drop (List.mem_of_mem_take hx))
          have hget : l[p + k + m]?.getD 0 = l[p + k + m] := by rw [List.getElem?_eq_getElem hq]; rfl
          have hbx := hI _ (List.getElem_mem hq)
          rw [feL_cons, fe, fdOf_n, strOfNums_size, sb_strOf hIt, ht, fby_of hb, ← hform, hget]
          have e1 : ((l[p + k + m].toNat : Nat) : Int) = l[p + k + m] := by omega
          rw [e1, List.append_assoc, List.append_assoc, List.append_assoc, ← i2]
          have e2 : [l[p + k + m]] ++ l.drop (p + k + m + 1) = l.drop (p + k + m) := by rw [List.drop_eq_getElem_cons hq]; rfl
          rw [e2]
          have e3 : (l.drop (p + k)).take m ++ l.drop (p + k + m) = l.drop (p + k) := by
            rw [show l.drop (p + k + m) = (l.drop (p + k)).drop m from by rw [List.drop_drop]]
            exact List.take_append_drop _ _
          rw [e3, show l.drop (p + k) = (l.drop p).drop k from by rw [List.drop_drop]]
          exact (List.take_append_drop _ _).symm
      · cases h
theorem ebs_dec {l : List Int} {F : List Fd} (hI : IsBytes l) (h : dec l = .ok F) : ebs F = l ∧ gschema F = true := by
  cases hU : rup 16 l 0 with
  | error er => rw [dec_up hU] at h; cases h
  | ok nk =>
    obtain ⟨n, k⟩ := nk
    cases hR : rfd l n k with
    | error er => rw [dec_fd hU hR] at h; cases h
    | ok x =>
      obtain ⟨F', B, r⟩ := x
      rw [dec_ok hU hR] at h
      split at h
      · cases h
      · rename_i hrl
        split at h
        · rename_i hg
          injection h with h
          subst h
          refine ⟨?_, hg.2⟩
          have hr := (rup_ok hU).1
          rw [List.drop_zero] at hr
          have hk := rdu_le _ _ _ _ _ hr
          obtain ⟨i1, i2⟩ := rfd_back hI hR (by omega) (fun b hb => by have := orL_le B b hb; omega)
          have e : l.drop r = [] := List.drop_of_length_le (by omega)
          rw [e, List.append_nil] at i2
          rw [ebs, (rfd_ok hR).1, ← rdu_form hI hr, ← i2, List.take_append_drop]
        · cases h
end Go.Proofs.YtbhoplmbiomogaaDoor
