import Derived.Test.YtiemiphlfbaojaaDoorWya
import Derived.Test.YtiemiphlfbaojaaDoorSym
namespace Go.Proofs.YtiemiphlfbaojaaDoor
open Go.ChangeShapes Go.WideShapes Go.ChangeAt Go.RowKit
variable {R : List Tn} {i m : Nat} {F F' : Tn → Option Rs} {L : List Nat} {s : MS}

/-! The recogniser and the document's rows, side by side. -/
/-- At the place i, with m missed: what is left to be asked of the token there (F), of kinds at the end (L). -/
structure Chn (R : List Tn) (F : Tn → Option Rs) (L : List Nat) (i m : Nat) : Prop where
  le : i ≤ R.length
  run : ∃ r, rfR (R.take i) = some r ∧ (∀ y, R[i]? = some y → stepF r y = F y) ∧ (i = R.length → ∀ k, k < 22 → mayB r k = (m.testBit k || L.contains k))
theorem chn_base {r : Rs} (hi : i ≤ R.length) (h : rfR (R.take i) = some r) (hr : r.at' < 15) : Chn R (stepF r) (kS r) i 0 :=
  ⟨hi, r, h, fun _ _ => rfl, fun _ k hk => by rw [may_list r hr k hk, Nat.zero_testBit]; rfl⟩
theorem tk_at {f : Tn → Bool} (hf : f noT = false) (q : f (tkA R i) = true) : ∃ y, R[i]? = some y ∧ f y = true ∧ i < R.length := by
  unfold tkA at q
  cases h : R[i]? with
  | none => rw [h] at q; rw [show (none : Option Tn).getD noT = noT from rfl, hf] at q; cases q
  | some y => rw [h] at q; exact ⟨y, rfl, q, (List.getElem?_eq_some_iff.1 h).1⟩
theorem Chn.yes {f : Tn → Bool} {r1 : Rs} (h : Chn R F L i m) (hf : f noT = false) (q : f (tkA R i) = true) (hF : ∀ y, f y = true → F y = some r1) : Chn R (stepF r1) (kS r1) (i + 1) 0 := by
  obtain ⟨y, hy, hq, hi⟩ := tk_at hf q
  obtain ⟨r, h1, h2, _⟩ := h.run
  have e : stepF r y = some r1 := by rw [h2 y hy]; exact hF y hq
  exact chn_base hi (by rw [rf_next hy, h1]; exact e) (step_lt r r1 y e)
theorem bit_put (m k j : Nat) : (m ||| (1 <<< k)).testBit j = (m.testBit j || (j == k)) := by
  rw [Nat.testBit_or, Nat.one_shiftLeft, Nat.testBit_two_pow]
  congr 1
  by_cases h : k = j
  · subst h; simp
  · have : ¬ j = k := fun e => h e.symm
    simp [h, this]
theorem Chn.no {f : Tn → Bool} {k : Nat} (h : Chn R F (k :: L) i m) (q : f (tkA R i) = false) (hF : ∀ y, f y = false → F y = F' y) : Chn R F' L i (m ||| (1 <<< k)) := by
  obtain ⟨r, h1, h2, h3⟩ := h.run
  refine ⟨h.le, r, h1, fun y hy => ?_, fun e j hj => ?_⟩
  · have hq : f y = false := by unfold tkA at q; rw [hy] at q; exact q
    rw [h2 y hy]; exact hF y hq
  · rw [h3 e j hj, bit_put, List.contains_cons, Bool.or_assoc]
/-- What the run's end tells. -/
def FolOK (R : List Tn) (x : Bool × MS) : Prop :=
  (x.1 = true → rfR R = none ∨ ∃ r, rfR R = some r ∧ ∀ k, k < 22 → mayB r k = false) ∧
  (x.1 = false → x.2.at' < R.length → rfR R = none) ∧
  (x.1 = false → ¬ x.2.at' < R.length → ∃ r, rfR R = some r ∧ ∀ k, k < 22 → mayB r k = x.2.mi.testBit k)
theorem Chn.fail (h : Chn R (fun _ => none) [] s.at' s.mi) : FolOK R (false, s) := by
  obtain ⟨r, h1, h2, h3⟩ := h.run
  refine ⟨fun e => (by cases e), fun _ hl => ?_, fun _ hl => ?_⟩
  · have hl : s.at' < R.length := hl
    have hy : R[s.at']? = some R[s.at'] := List.getElem?_eq_getElem hl
    refine rf_take (i := s.at' + 1) ?_
    rw [rf_next hy, h1]
    exact h2 _ hy
  · have hl : ¬ s.at' < R.length := hl
    have e : s.at' = R.length := by have := h.le; omega
    refine ⟨r, ?_, fun k hk => ?_⟩
    · rw [e, List.take_length] at h1; exact h1
    · rw [h3 e k hk]; simp
theorem done_step (sg : Bool) (op : List Bool) (y : Tn) : stepF ⟨14, sg, op⟩ y = none := rfl
theorem Chn.done {sg : Bool} {op : List Bool} (h : Chn R (stepF ⟨14, sg, op⟩) (kS ⟨14, sg, op⟩) s.at' 0) : FolOK R (true, s) := by
  obtain ⟨r, h1, h2, h3⟩ := h.run
  refine ⟨fun _ => ?_, fun e => (by cases e), fun e => (by cases e)⟩
  rcases Nat.lt_or_ge s.at' R.length with hl | hl
  · have hy : R[s.at']? = some R[s.at'] := List.getElem?_eq_getElem hl
    refine .inl (rf_take (i := s.at' + 1) ?_)
    rw [rf_next hy, h1]
    exact h2 _ hy
  · have e : s.at' = R.length := by have := h.le; omega
    refine .inr ⟨r, ?_, fun k hk => ?_⟩
    · rw [e, List.take_length] at h1; exact h1
    · rw [h3 e k hk, Nat.zero_testBit]; rfl
/-- The canonical state of a label. -/
def cnL (lab : Nat) : Nat := match lab with
  | 0 => 0
  | 1 => 1
  | 2 => 2
  | 3 => 6
  | 4 => 4
  | _ => 9
def opS (ou : List Lv) : List Bool := (ou.map (·.s)).reverse
def rsM (a : Nat) (s : MS) : Rs := ⟨a, s.top.s, opS s.ou⟩
def Inv14 (R : List Tn) (a : Nat) (s : MS) : Prop := Chn R (stepF (rsM a s)) (kS (rsM a s)) s.at' s.mi
theorem isK_ne {y : Tn} {k j : Nat} (h : isK k y = true) (hj : j ≠ k) : isK j y = false := by
  unfold isK at *
  simp only [beq_iff_eq] at h
  simp only [beq_eq_false_iff_ne]
  omega
theorem st_k {y : Tn} (h : isSt y = true) : isK 2 y = true := by
  unfold isSt at h
  unfold isK
  rw [Bool.and_eq_true] at h
  exact h.1
theorem ed_k {y : Tn} (h : isEd y = true) : isK 20 y = true := by
  unfold isEd at h
  unfold isK
  rw [Bool.and_eq_true] at h
  exact h.1
theorem sl_k {y : Tn} (h : isSl y = true) : isK 20 y = true := by
  unfold isSl at h
  unfold isK
  rw [Bool.and_eq_true] at h
  exact h.1
theorem st_no {y : Tn} {k : Nat} (h : isK k y = true) (hk : k ≠ 2) : isSt y = false := by
  cases q : isSt y with
  | false => rfl
  | true => have := isK_ne (st_k q) hk; rw [this] at h; cases h
theorem isK_noT (k : Nat) : isK k noT = false := by unfold isK noT; simp
theorem tK_yes {k : Nat} (q : isK k (tkA R s.at') = true) : tK R k s = (true, { s with at' := s.at' + 1, mi := 0 }) := by unfold tK tkB tkS MS.pass; rw [q]; rfl
theorem tK_no {k : Nat} (q : isK k (tkA R s.at') = false) : tK R k s = (false, { s with mi := s.mi ||| (1 <<< k) }) := by unfold tK tkB tkS MS.pass; rw [q]; rfl
theorem tSt_yes (q : isSt (tkA R s.at') = true) : tSt R s = (true, { s with at' := s.at' + 1, mi := 0 }) := by unfold tSt tkB tkS MS.pass; rw [q]; rfl
theorem tSt_no (q : isSt (tkA R s.at') = false) : tSt R s = (false, { s with mi := s.mi ||| (1 <<< 2) }) := by unfold tSt tkB tkS MS.pass; rw [q]; rfl
theorem tEd_yes (q : isEd (tkA R s.at') = true) : tEd R s = (true, { s with at' := s.at' + 1, mi := 0 }) := by unfold tEd tkB tkS MS.pass; rw [q]; rfl
theorem tEd_no (q : isEd (tkA R s.at') = false) : tEd R s = (false, { s with mi := s.mi ||| (1 <<< 20) }) := by unfold tEd tkB tkS MS.pass; rw [q]; rfl
theorem tSl_yes (q : isSl (tkA R s.at') = true) : tSl R s = (true, { s with at' := s.at' + 1, mi := 0 }) := by unfold tSl tkB tkS MS.pass; rw [q]; rfl
theorem tSl_no (q : isSl (tkA R s.at') = false) : tSl R s = (false, { s with mi := s.mi ||| (1 <<< 20) }) := by unfold tSl tkB tkS MS.pass; rw [q]; rfl
/-- One pass: it goes on at a label with less left, or ends. -/
def Nxt (R : List Tn) (lab : Nat) (s : MS) (x : (Nat ⊕ Bool) × MS) : Prop := match x.1 with
  | .inl l => Inv14 R (cnL l) x.2 ∧ rkM R l x.2 < rkM R lab s
  | .inr b => FolOK R (b, x.2)
theorem nx_tok {lab l : Nat} {s' : MS} (h : Inv14 R (cnL l) s') (hl : s.at' < s'.at') : Nxt R lab s (.inl l, s') := ⟨h, rk_tok lab l hl h.le⟩
theorem nx_lab {lab l : Nat} {s' : MS} (h : Inv14 R (cnL l) s') (hl : s.at' ≤ s'.at') (hr : lrk l < lrk lab) : Nxt R lab s (.inl l, s') := ⟨h, rk_lab hl hr⟩
theorem nx_no {lab : Nat} {s' : MS} (h : Chn R (fun _ => none) [] s'.at' s'.mi) : Nxt R lab s (.inr false, s') := h.fail
/-- The clause's beginning. -/
theorem n0 (h : Inv14 R 0 s) : Nxt R 0 s (stp0 R s) := by
  have h : Chn R (stepF (rsM 0 s)) (15 :: 16 :: kU) s.at' s.mi := h
  unfold stp0
  cases q15 : isK 15 (tkA R s.at') with
  | true =>
    have h1 := h.yes (f := isK 15) (r1 := ⟨1, true, opS s.ou⟩) (isK_noT 15) q15 (fun y hy => by show clauseF _ y = _; unfold clauseF; rw [hy]; rfl)
    rw [or_yes (tK_yes q15)]
    exact nx_tok (l := 1) h1 (Nat.lt_succ_self _)
  | false =>
    have h1 := h.no (f := isK 15) (F' := fun y => if isK 16 y then some ⟨1, true, opS s.ou⟩ else begunF ⟨1, false, opS s.ou⟩ y false) q15 (fun y hy => by show clauseF _ y = _; unfold clauseF; rw [hy]; rfl)
    rw [or_no (tK_no q15)]
    cases q16 : isK 16 (tkA R s.at') with
    | true =>
      have h2 := h1.yes (f := isK 16) (r1 := ⟨1, true, opS s.ou⟩) (isK_noT 16) q16 (fun y hy => by rw [hy]; rfl)
      rw [tK_yes (s := { s with mi := s.mi ||| (1 <<< 15) }) q16]
      exact nx_tok (l := 1) h2 (Nat.lt_succ_self _)
    | false =>
      have h2 := h1.no (f := isK 16) (F' := stepF ⟨1, false, opS s.ou⟩) q16 (fun y hy => by rw [hy]; rfl)
      rw [tK_no (s := { s with mi := s.mi ||| (1 <<< 15) }) q16]
      exact nx_lab (l := 1) h2 (Nat.le_refl _) (by decide)
/-- A unary's beginning. -/
theorem begun_1 {r : Rs} {y : Tn} (h6 : isK 6 y = false) : begunF r y false = if isSt y then some ⟨6, r.sg, r.op⟩ else if isK 1 y then some ⟨4, r.sg, r.op⟩ else begunF r y true := by
  unfold begunF
  rw [h6]
  simp only [Bool.false_and, Bool.false_eq_true, if_false]
  cases qs : isSt y with
  | true =>
    have k2 := st_k qs
    unfold atomF
    rw [isK_ne k2 (j := 1) (by decide), isK_ne k2 (j := 8) (by decide), k2, qs]
    rfl
  | false =>
    cases q1 : isK 1 y with
    | true =>
      unfold atomF
      rw [isK_ne q1 (j := 8) (by decide), q1]
      rfl
    | false =>
      unfold atomF
      rw [q1, qs]
      rfl
theorem n1 (h : Inv14 R 1 s) : Nxt R 1 s (stp1 R s) := by
  have h : Chn R (stepF (rsM 1 s)) (6 :: 2 :: 1 :: kB) s.at' s.mi := h
  unfold stp1
  cases q6 : isK 6 (tkA R s.at') with
  | true =>
    have h1 := h.yes (f := isK 6) (r1 := rsM 1 s) (isK_noT 6) q6 (fun y hy => by show begunF _ y false = _; unfold begunF; rw [hy]; rfl)
    rw [tK_yes q6]
    exact nx_tok (l := 1) h1 (Nat.lt_succ_self _)
  | false =>
    have h1 := h.no (f := isK 6) (F' := fun y => if isSt y then some (rsM 6 s) else if isK 1 y then some (rsM 4 s) else begunF (rsM 2 s) y true) q6 (fun y hy => by show begunF _ y false = _; rw [begun_1 hy]; rfl)
    rw [tK_no q6]
    simp only [Bool.false_eq_true, if_false]
    cases qs : isSt (tkA R s.at') with
    | true =>
      have h2 := h1.yes (f := isSt) (r1 := rsM 6 s) rfl qs (fun y hy => by rw [hy]; rfl)
      rw [tSt_yes (s := { s with mi := s.mi ||| (1 <<< 6) }) qs]
      exact nx_tok (l := 3) h2 (Nat.lt_succ_self _)
    | false =>
      have h2 := h1.no (f := isSt) (F' := fun y => if isK 1 y then some (rsM 4 s) else begunF (rsM 2 s) y true) qs (fun y hy => by rw [hy]; rfl)
      rw [tSt_no (s := { s with mi := s.mi ||| (1 <<< 6) }) qs]
      simp only [Bool.false_eq_true, if_false]
      cases q1 : isK 1 (tkA R s.at') with
      | true =>
        have h3 := h2.yes (f := isK 1) (r1 := rsM 4 s) (isK_noT 1) q1 (fun y hy => by rw [hy]; rfl)
        rw [tK_yes (s := { s with mi := s.mi ||| (1 <<< 6) ||| (1 <<< 2) }) q1]
        exact nx_tok (l := 4) h3 (Nat.lt_succ_self _)
      | false =>
        have h3 := h2.no (f := isK 1) (F' := stepF (rsM 2 s)) q1 (fun y hy => by rw [hy]; rfl)
        rw [tK_no (s := { s with mi := s.mi ||| (1 <<< 6) ||| (1 <<< 2) }) q1]
        exact nx_lab (l := 2) h3 (Nat.le_refl _) (by decide)
end Go.Proofs.YtiemiphlfbaojaaDoor
namespace Go.Proofs.YtiemiphlfbaojaaDoor
open Go.ChangeShapes Go.WideShapes Go.ChangeAt Go.RowKit
variable {R : List Tn} {i m : Nat} {F F' : Tn → Option Rs} {L : List Nat} {s : MS}

/-! The other labels. -/
/-- Two takings of a state: it fits, or nothing does. -/
def Tk2 (R : List Tn) (b : Nat) (s : MS) (x : Bool × MS) : Prop :=
  (x.1 = true → Inv14 R b x.2 ∧ s.at' < x.2.at' ∧ x.2.top = s.top ∧ x.2.ou = s.ou ∧ x.2.ne = s.ne) ∧ (x.1 = false → Chn R (fun _ => none) [] x.2.at' x.2.mi)
theorem side_any (a : Nat) (ha : a = 10 ∨ a = 12) (h : Inv14 R a s) : Tk2 R (a + 1) s (tSide R s) := by
  have h : Chn R (fun y => if sideB y then some (rsM (a + 1) s) else none) [1, 3, 2] s.at' s.mi := by
    rcases ha with rfl | rfl <;> exact h
  unfold tSide
  cases q1 : isK 1 (tkA R s.at') with
  | true =>
    have h1 := h.yes (f := isK 1) (r1 := rsM (a + 1) s) (isK_noT 1) q1 (fun y hy => by unfold sideB; rw [hy]; rfl)
    rw [or_yes (or_yes (tK_yes q1))]
    exact ⟨fun _ => ⟨h1, Nat.lt_succ_self _, rfl, rfl, rfl⟩, fun e => (by cases e)⟩
  | false =>
    have h1 := h.no (f := isK 1) (F' := fun y => if (isK 3 y || isSt y) then some (rsM (a + 1) s) else none) q1 (fun y hy => by unfold sideB; rw [hy]; rfl)
    cases q3 : isK 3 (tkA R s.at') with
    | true =>
      have h2 := h1.yes (f := isK 3) (r1 := rsM (a + 1) s) (isK_noT 3) q3 (fun y hy => by rw [hy]; rfl)
      have e : orT (tK R 1) (tK R 3) s = (true, { s with at' := s.at' + 1, mi := 0 }) := by rw [or_no (tK_no q1), tK_yes (s := { s with mi := s.mi ||| (1 <<< 1) }) q3]
      rw [or_yes e]
      exact ⟨fun _ => ⟨h2, Nat.lt_succ_self _, rfl, rfl, rfl⟩, fun e => (by cases e)⟩
    | false =>
      have h2 := h1.no (f := isK 3) (F' := fun y => if isSt y then some (rsM (a + 1) s) else none) q3 (fun y hy => by rw [hy]; rfl)
      have e : orT (tK R 1) (tK R 3) s = (false, { s with mi := s.mi ||| (1 <<< 1) ||| (1 <<< 3) }) := by rw [or_no (tK_no q1), tK_no (s := { s with mi := s.mi ||| (1 <<< 1) }) q3]
      rw [or_no e]
      cases qs : isSt (tkA R s.at') with
      | true =>
        have h3 := h2.yes (f := isSt) (r1 := rsM (a + 1) s) rfl qs (fun y hy => by rw [hy]; rfl)
        rw [tSt_yes (s := { s with mi := s.mi ||| (1 <<< 1) ||| (1 <<< 3) }) qs]
        exact ⟨fun _ => ⟨h3, Nat.lt_succ_self _, rfl, rfl, rfl⟩, fun e => (by cases e)⟩
      | false =>
        have h3 := h2.no (f := isSt) (F' := fun _ => none) qs (fun y hy => by rw [hy]; rfl)
        rw [tSt_no (s := { s with mi := s.mi ||| (1 <<< 1) ||| (1 <<< 3) }) qs]
        exact ⟨fun e => (by cases e), fun _ => h3⟩
theorem to_any (h : Inv14 R 11 s) : Tk2 R 12 s (tK R 7 s) := by
  have h : Chn R (fun y => if isK 7 y then some (rsM 12 s) else none) [7] s.at' s.mi := h
  cases q : isK 7 (tkA R s.at') with
  | true =>
    have h1 := h.yes (f := isK 7) (r1 := rsM 12 s) (isK_noT 7) q (fun y hy => by rw [hy]; rfl)
    rw [tK_yes q]
    exact ⟨fun _ => ⟨h1, Nat.lt_succ_self _, rfl, rfl, rfl⟩, fun e => (by cases e)⟩
  | false =>
    have h1 := h.no (f := isK 7) (F' := fun _ => none) q (fun y hy => by rw [hy]; rfl)
    rw [tK_no q]
    exact ⟨fun e => (by cases e), fun _ => h1⟩
theorem last_any (h : Inv14 R 13 s) : Tk2 R 9 s (orT (tK R 11) (tK R 13) s) := by
  have h : Chn R (fun y => if isK 11 y || isK 13 y then some (rsM 9 s) else none) [11, 13] s.at' s.mi := h
  cases q : isK 11 (tkA R s.at') with
  | true =>
    have h1 := h.yes (f := isK 11) (r1 := rsM 9 s) (isK_noT 11) q (fun y hy => by rw [hy]; rfl)
    rw [or_yes (tK_yes q)]
    exact ⟨fun _ => ⟨h1, Nat.lt_succ_self _, rfl, rfl, rfl⟩, fun e => (by cases e)⟩
  | false =>
    have h1 := h.no (f := isK 11) (F' := fun y => if isK 13 y then some (rsM 9 s) else none) q (fun y hy => by rw [hy]; rfl)
    rw [or_no (tK_no q)]
    cases q2 : isK 13 (tkA R s.at') with
    | true =>
      have h2 := h1.yes (f := isK 13) (r1 := rsM 9 s) (isK_noT 13) q2 (fun y hy => by rw [hy]; rfl)
      rw [tK_yes (s := { s with mi := s.mi ||| (1 <<< 11) }) q2]
      exact ⟨fun _ => ⟨h2, Nat.lt_succ_self _, rfl, rfl, rfl⟩, fun e => (by cases e)⟩
    | false =>
      have h2 := h1.no (f := isK 13) (F' := fun _ => none) q2 (fun y hy => by rw [hy]; rfl)
      rw [tK_no (s := { s with mi := s.mi ||| (1 <<< 11) }) q2]
      exact ⟨fun e => (by cases e), fun _ => h2⟩
theorem Tk2.and {b c : Nat} {p q : MS → Bool × MS} (h : Tk2 R b s (p s)) (h2 : ∀ t, Inv14 R b t → Tk2 R c t (q t)) : Tk2 R c s (andT p q s) := by
  cases e : (p s).1 with
  | true =>
    have e' : andT p q s = q (p s).2 := by unfold andT; rw [e]; rfl
    rw [e']
    obtain ⟨i1, i2, i3, i4, i5⟩ := h.1 e
    have g := h2 _ i1
    refine ⟨fun e2 => ?_, g.2⟩
    obtain ⟨j1, j2, j3, j4, j5⟩ := g.1 e2
    exact ⟨j1, by omega, j3.trans i3, j4.trans i4, j5.trans i5⟩
  | false =>
    have e' : andT p q s = p s := by unfold andT; rw [e]; rfl
    rw [e']
    exact ⟨fun e2 => (by rw [e] at e2; cases e2), h.2⟩
theorem sides_any (h : Inv14 R 10 s) : Tk2 R 9 s (tSides R s) :=
  (((side_any 10 (.inl rfl) h).and (b := 11) (c := 12) (fun _ => to_any)).and (b := 12) (c := 13) (fun _ => side_any 12 (.inr rfl))).and (b := 13) (c := 9) (fun _ => last_any)
theorem nS (lab : Nat) {t : MS} (h : Inv14 R 10 t) (hl : s.at' < t.at') : Nxt R lab s (stpS R t) := by
  have g := sides_any h
  unfold stpS
  cases e : (tSides R t).1 with
  | true =>
    obtain ⟨j1, j2, _⟩ := g.1 e
    exact nx_tok (l := 5) j1 (by omega)
  | false => exact nx_no (g.2 e)
theorem begun_2 {r : Rs} {y : Tn} : begunF r y true = if isK 8 y then some ⟨0, false, r.op ++ [r.sg]⟩ else if isK 10 y then some ⟨10, r.sg, r.op⟩ else if isK 12 y then some ⟨10, r.sg, r.op⟩ else if isK 3 y then some ⟨7, r.sg, r.op⟩ else if isK 1 y then some ⟨5, r.sg, r.op⟩ else if isK 2 y then some ⟨9, r.sg, r.op⟩ else none := by
  have e : (isK 6 y && !true) = false := by cases isK 6 y <;> rfl
  have e2 : (isSt y && !true) = false := by cases isSt y <;> rfl
  unfold begunF atomF
  rw [e, e2]
  simp only [Bool.false_eq_true, if_false, if_true]
  cases q8 : isK 8 y with
  | true => rw [isK_ne q8 (j := 1) (by decide), isK_ne q8 (j := 2) (by decide), isK_ne q8 (j := 3) (by decide)]; rfl
  | false =>
    cases q10 : isK 10 y with
    | true => rw [isK_ne q10 (j := 1) (by decide), isK_ne q10 (j := 2) (by decide), isK_ne q10 (j := 3) (by decide)]; rfl
    | false =>
      cases q12 : isK 12 y with
      | true => rw [isK_ne q12 (j := 1) (by decide), isK_ne q12 (j := 2) (by decide), isK_ne q12 (j := 3) (by decide)]; rfl
      | false =>
        cases q3 : isK 3 y with
        | true => rw [isK_ne q3 (j := 1) (by decide), isK_ne q3 (j := 2) (by decide)]; rfl
        | false =>
          cases q1 : isK 1 y with
          | true => rfl
          | false => cases q2 : isK 2 y <;> rfl
theorem n2 (h : Inv14 R 2 s) : Nxt R 2 s (stp2 R s) := by
  have h : Chn R (fun y => if isK 8 y then some ⟨0, false, opS s.ou ++ [s.top.s]⟩ else if isK 10 y then some (rsM 10 s) else if isK 12 y then some (rsM 10 s) else if isK 3 y then some (rsM 7 s) else if isK 1 y then some (rsM 5 s) else if isK 2 y then some (rsM 9 s) else none) [8, 10, 12, 3, 1, 2] s.at' s.mi := by
    have e : stepF (rsM 2 s) = _ := funext (fun y => begun_2 (r := rsM 2 s) (y := y))
    have h : Chn R (stepF (rsM 2 s)) [8, 10, 12, 3, 1, 2] s.at' s.mi := h
    rw [e] at h
    exact h
  unfold stp2
  cases q8 : isK 8 (tkA R s.at') with
  | true =>
    have h1 := h.yes (f := isK 8) (r1 := ⟨0, false, opS s.ou ++ [s.top.s]⟩) (isK_noT 8) q8 (fun y hy => by rw [hy]; rfl)
    rw [tK_yes q8]
    have eo : opS (s.top :: s.ou) = opS s.ou ++ [s.top.s] := by unfold opS; simp
    refine nx_tok (l := 0) ?_ (Nat.lt_succ_self _)
    show Chn R (stepF ⟨0, false, opS (s.top :: s.ou)⟩) (kS ⟨0, false, opS (s.top :: s.ou)⟩) (s.at' + 1) 0
    rw [eo]
    exact h1
  | false =>
    have h1 := h.no (f := isK 8) (F' := fun y => if isK 10 y then some (rsM 10 s) else if isK 12 y then some (rsM 10 s) else if isK 3 y then some (rsM 7 s) else if isK 1 y then some (rsM 5 s) else if isK 2 y then some (rsM 9 s) else none) q8 (fun y hy => by rw [hy]; rfl)
    rw [tK_no q8]
    simp only [Bool.false_eq_true, if_false]
    cases q10 : isK 10 (tkA R s.at') with
    | true =>
      have h2 := h1.yes (f := isK 10) (r1 := rsM 10 s) (isK_noT 10) q10 (fun y hy => by rw [hy]; rfl)
      rw [tK_yes (s := { s with mi := s.mi ||| (1 <<< 8) }) q10]
      exact nS 2 (t := { s with at' := s.at' + 1, mi := 0 }) h2 (Nat.lt_succ_self _)
    | false =>
      have h2 := h1.no (f := isK 10) (F' := fun y => if isK 12 y then some (rsM 10 s) else if isK 3 y then some (rsM 7 s) else if isK 1 y then some (rsM 5 s) else if isK 2 y then some (rsM 9 s) else none) q10 (fun y hy => by rw [hy]; rfl)
      rw [tK_no (s := { s with mi := s.mi ||| (1 <<< 8) }) q10]
      simp only [Bool.false_eq_true, if_false]
      cases q12 : isK 12 (tkA R s.at') with
      | true =>
        have h3 := h2.yes (f := isK 12) (r1 := rsM 10 s) (isK_noT 12) q12 (fun y hy => by rw [hy]; rfl)
        rw [tK_yes (s := { s with mi := s.mi ||| (1 <<< 8) ||| (1 <<< 10) }) q12]
        exact nS 2 (t := { s with at' := s.at' + 1, mi := 0 }) h3 (Nat.lt_succ_self _)
      | false =>
        have h3 := h2.no (f := isK 12) (F' := fun y => if isK 3 y then some (rsM 7 s) else if isK 1 y then some (rsM 5 s) else if isK 2 y then some (rsM 9 s) else none) q12 (fun y hy => by rw [hy]; rfl)
        rw [tK_no (s := { s with mi := s.mi ||| (1 <<< 8) ||| (1 <<< 10) }) q12]
        simp only [Bool.false_eq_true, if_false]
        unfold stp2e
        cases q3 : isK 3 (tkA R s.at') with
        | true =>
          have h4 := h3.yes (f := isK 3) (r1 := rsM 7 s) (isK_noT 3) q3 (fun y hy => by rw [hy]; rfl)
          have h4 : Chn R (fun y => if isSl y then some (rsM 9 s) else behindF (rsM 9 s) y) (20 :: kP s.top.s (opS s.ou).isEmpty) (s.at' + 1) 0 := h4
          rw [tK_yes (s := { s with mi := s.mi ||| (1 <<< 8) ||| (1 <<< 10) ||| (1 <<< 12) }) q3]
          cases qs : isSl (tkA R (s.at' + 1)) with
          | true =>
            have h5 := h4.yes (f := isSl) (r1 := rsM 9 s) rfl qs (fun y hy => by rw [hy]; rfl)
            rw [tSl_yes (s := { s with at' := s.at' + 1, mi := 0 }) qs]
            exact nx_tok (l := 5) h5 (by show s.at' < s.at' + 1 + 1; omega)
          | false =>
            have h5 := h4.no (f := isSl) (F' := stepF (rsM 9 s)) qs (fun y hy => by rw [hy]; rfl)
            rw [tSl_no (s := { s with at' := s.at' + 1, mi := 0 }) qs]
            exact nx_tok (l := 5) h5 (Nat.lt_succ_self _)
        | false =>
          have h4 := h3.no (f := isK 3) (F' := fun y => if isK 1 y then some (rsM 5 s) else if isK 2 y then some (rsM 9 s) else none) q3 (fun y hy => by rw [hy]; rfl)
          rw [tK_no (s := { s with mi := s.mi ||| (1 <<< 8) ||| (1 <<< 10) ||| (1 <<< 12) }) q3]
          simp only [Bool.false_eq_true, if_false]
          cases q1 : isK 1 (tkA R s.at') with
          | true =>
            have h5 := h4.yes (f := isK 1) (r1 := rsM 5 s) (isK_noT 1) q1 (fun y hy => by rw [hy]; rfl)
            have h5 : Chn R (fun y => if isEd y then some (rsM 9 s) else behindF (rsM 9 s) y) (20 :: kP s.top.s (opS s.ou).isEmpty) (s.at' + 1) 0 := h5
            rw [tK_yes (s := { s with mi := s.mi ||| (1 <<< 8) ||| (1 <<< 10) ||| (1 <<< 12) ||| (1 <<< 3) }) q1]
            cases qs : isEd (tkA R (s.at' + 1)) with
            | true =>
              have h6 := h5.yes (f := isEd) (r1 := rsM 9 s) rfl qs (fun y hy => by rw [hy]; rfl)
              rw [tEd_yes (s := { s with at' := s.at' + 1, mi := 0 }) qs]
              exact nx_tok (l := 5) h6 (by show s.at' < s.at' + 1 + 1; omega)
            | false =>
              have h6 := h5.no (f := isEd) (F' := stepF (rsM 9 s)) qs (fun y hy => by rw [hy]; rfl)
              rw [tEd_no (s := { s with at' := s.at' + 1, mi := 0 }) qs]
              exact nx_tok (l := 5) h6 (Nat.lt_succ_self _)
          | false =>
            have h5 := h4.no (f := isK 1) (F' := fun y => if isK 2 y then some (rsM 9 s) else none) q1 (fun y hy => by rw [hy]; rfl)
            rw [tK_no (s := { s with mi := s.mi ||| (1 <<< 8) ||| (1 <<< 10) ||| (1 <<< 12) ||| (1 <<< 3) }) q1]
            simp only [Bool.false_eq_true, if_false]
            cases q2 : isK 2 (tkA R s.at') with
            | true =>
              have h6 := h5.yes (f := isK 2) (r1 := rsM 9 s) (isK_noT 2) q2 (fun y hy => by rw [hy]; rfl)
              rw [tK_yes (s := { s with mi := s.mi ||| (1 <<< 8) ||| (1 <<< 10) ||| (1 <<< 12) ||| (1 <<< 3) ||| (1 <<< 1) }) q2]
              exact nx_tok (l := 5) h6 (Nat.lt_succ_self _)
            | false =>
              have h6 := h5.no (f := isK 2) (F' := fun _ => none) q2 (fun y hy => by rw [hy]; rfl)
              rw [tK_no (s := { s with mi := s.mi ||| (1 <<< 8) ||| (1 <<< 10) ||| (1 <<< 12) ||| (1 <<< 3) ||| (1 <<< 1) }) q2]
              exact nx_no h6
theorem n3 (h : Inv14 R 6 s) : Nxt R 3 s (stp3 R s) := by
  have h : Chn R (fun y => if isK 14 y then some (rsM 3 s) else behindF (rsM 9 s) y) (14 :: kP s.top.s (opS s.ou).isEmpty) s.at' s.mi := h
  unfold stp3
  cases q : isK 14 (tkA R s.at') with
  | true =>
    have h1 := h.yes (f := isK 14) (r1 := rsM 3 s) (isK_noT 14) q (fun y hy => by rw [hy]; rfl)
    have h1 : Chn R (fun y => if isSt y then some (rsM 9 s) else none) [2] (s.at' + 1) 0 := h1
    rw [tK_yes q]
    cases qs : isSt (tkA R (s.at' + 1)) with
    | true =>
      have h2 := h1.yes (f := isSt) (r1 := rsM 9 s) rfl qs (fun y hy => by rw [hy]; rfl)
      rw [tSt_yes (s := { s with at' := s.at' + 1, mi := 0 }) qs]
      exact nx_tok (l := 5) h2 (by show s.at' < s.at' + 1 + 1; omega)
    | false =>
      have h2 := h1.no (f := isSt) (F' := fun _ => none) qs (fun y hy => by rw [hy]; rfl)
      rw [tSt_no (s := { s with at' := s.at' + 1, mi := 0 }) qs]
      exact nx_no h2
  | false =>
    have h1 := h.no (f := isK 14) (F' := stepF (rsM 9 s)) q (fun y hy => by rw [hy]; rfl)
    rw [tK_no q]
    exact nx_lab (l := 5) h1 (Nat.le_refl _) (by decide)
theorem n4 (h : Inv14 R 4 s) : Nxt R 4 s (stp4 R s) := by
  have h : Chn R (fun y => if isK 14 y then some (rsM 2 s) else if isEd y then some (rsM 9 s) else behindF (rsM 9 s) y) (14 :: 20 :: kP s.top.s (opS s.ou).isEmpty) s.at' s.mi := h
  unfold stp4
  cases q : isK 14 (tkA R s.at') with
  | true =>
    have h1 := h.yes (f := isK 14) (r1 := rsM 2 s) (isK_noT 14) q (fun y hy => by rw [hy]; rfl)
    rw [tK_yes q]
    exact nx_tok (l := 2) h1 (Nat.lt_succ_self _)
  | false =>
    have h1 := h.no (f := isK 14) (F' := fun y => if isEd y then some (rsM 9 s) else behindF (rsM 9 s) y) q (fun y hy => by rw [hy]; rfl)
    rw [tK_no q]
    simp only [Bool.false_eq_true, if_false]
    cases qs : isEd (tkA R s.at') with
    | true =>
      have h2 := h1.yes (f := isEd) (r1 := rsM 9 s) rfl qs (fun y hy => by rw [hy]; rfl)
      rw [tEd_yes (s := { s with mi := s.mi ||| (1 <<< 14) }) qs]
      exact nx_tok (l := 5) h2 (Nat.lt_succ_self _)
    | false =>
      have h2 := h1.no (f := isEd) (F' := stepF (rsM 9 s)) qs (fun y hy => by rw [hy]; rfl)
      rw [tEd_no (s := { s with mi := s.mi ||| (1 <<< 14) }) qs]
      exact nx_lab (l := 5) h2 (Nat.le_refl _) (by decide)
end Go.Proofs.YtiemiphlfbaojaaDoor
namespace Go.Proofs.YtiemiphlfbaojaaDoor
open Go.ChangeShapes Go.WideShapes Go.ChangeAt Go.RowKit
variable {R : List Tn} {i m : Nat} {F F' : Tn → Option Rs} {L : List Nat} {s : MS}

/-! Behind a piece; the whole run. -/
def bhE (r : Rs) (y : Tn) : Option Rs :=
  if isK 9 y then (if r.op.isEmpty then none else some ⟨8, r.op.getLastD false, r.op.dropLast⟩)
  else if isK 0 y then (if r.op.isEmpty then some ⟨14, r.sg, r.op⟩ else none)
  else clauseF r y
def bhJ (r : Rs) (y : Tn) : Option Rs := if isK 4 y || isK 5 y || isK 17 y then (if r.sg then none else some ⟨1, r.sg, r.op⟩) else bhE r y
theorem clause_none {r : Rs} {y : Tn} (k : Nat) (hk : k = 0 ∨ k = 4 ∨ k = 5 ∨ k = 9 ∨ k = 17) (h : isK k y = true) : clauseF r y = none := by
  have n : ∀ j, j ≠ k → isK j y = false := fun j hj => isK_ne h hj
  unfold clauseF begunF atomF
  rw [n 15 (by omega), n 16 (by omega), n 6 (by omega), n 1 (by omega), n 2 (by omega), n 3 (by omega), n 8 (by omega), n 10 (by omega), n 12 (by omega)]
  rfl
theorem join_none {r : Rs} {y : Tn} (k : Nat) (hk : k = 4 ∨ k = 5 ∨ k = 17) (h : isK k y = true) : bhE r y = none := by
  have n : ∀ j, j ≠ k → isK j y = false := fun j hj => isK_ne h hj
  unfold bhE
  rw [n 9 (by omega), n 0 (by omega)]
  exact clause_none k (by omega) h
theorem bhJ_signed {r : Rs} (hr : r.sg = true) (y : Tn) : bhJ r y = bhE r y := by
  unfold bhJ
  rw [hr]
  cases q4 : isK 4 y with
  | true => rw [join_none 4 (.inl rfl) q4]; rfl
  | false =>
    cases q5 : isK 5 y with
    | true => rw [join_none 5 (.inr (.inl rfl)) q5]; rfl
    | false =>
      cases q17 : isK 17 y with
      | true => rw [join_none 17 (.inr (.inr rfl)) q17]; rfl
      | false => rfl
theorem n5e (lab : Nat) (hlab : 4 < lrk lab) {t : MS} (h : Chn R (bhE (rsM 9 t)) (kE (opS t.ou).isEmpty) t.at' t.mi) (hl : s.at' ≤ t.at') : Nxt R lab s (stp5e R t) := by
  unfold stp5e
  cases ho : t.ou with
  | nil =>
    rw [ho] at h
    have h : Chn R (bhE ⟨9, t.top.s, []⟩) (0 :: kC) t.at' t.mi := by unfold rsM at h; rw [ho] at h; exact h
    dsimp only
    cases q : isK 0 (tkA R t.at') with
    | true =>
      have h1 := h.yes (f := isK 0) (r1 := ⟨14, t.top.s, []⟩) (isK_noT 0) q (fun y hy => by unfold bhE; rw [isK_ne hy (j := 9) (by decide), hy]; rfl)
      rw [tK_yes q]
      exact Chn.done (s := { t with at' := t.at' + 1, mi := 0 }) h1
    | false =>
      have h1 := h.no (f := isK 0) (F' := stepF ⟨0, t.top.s, []⟩) q (fun y hy => by
        show bhE _ y = clauseF _ y
        unfold bhE
        rw [hy]
        cases q9 : isK 9 y with
        | true => rw [clause_none (r := ⟨0, t.top.s, []⟩) 9 (by omega) q9]; rfl
        | false => rfl)
      rw [tK_no q]
      refine nx_lab (l := 0) ?_ hl (by show 4 < lrk lab; exact hlab)
      show Chn R (stepF ⟨0, t.top.s, opS t.ou⟩) (kS ⟨0, t.top.s, opS t.ou⟩) t.at' _
      rw [ho]
      exact h1
  | cons l r =>
    have eo : opS (l :: r) = opS r ++ [l.s] := by unfold opS; simp
    have ee : (opS r ++ [l.s]).isEmpty = false := by simp
    rw [ho, eo, ee] at h
    have h : Chn R (bhE ⟨9, t.top.s, opS r ++ [l.s]⟩) (9 :: kC) t.at' t.mi := by unfold rsM at h; rw [ho, eo] at h; exact h
    dsimp only
    cases q : isK 9 (tkA R t.at') with
    | true =>
      have h1 := h.yes (f := isK 9) (r1 := ⟨8, l.s, opS r⟩) (isK_noT 9) q (fun y hy => by
        unfold bhE
        rw [hy]
        dsimp only
        rw [ee]
        simp)
      have h1 : Chn R (fun y => if isK 21 y then some ⟨9, l.s, opS r⟩ else behindF ⟨9, l.s, opS r⟩ y) (21 :: kP l.s (opS r).isEmpty) (t.at' + 1) 0 := h1
      rw [tK_yes q]
      cases q2 : isK 21 (tkA R (t.at' + 1)) with
      | true =>
        have h2 := h1.yes (f := isK 21) (r1 := ⟨9, l.s, opS r⟩) (isK_noT 21) q2 (fun y hy => by rw [hy]; rfl)
        rw [tK_yes (s := ({ t with at' := t.at' + 1, mi := 0 } : MS).close' l r) q2]
        exact nx_tok (l := 5) h2 (by show s.at' < t.at' + 1 + 1; omega)
      | false =>
        have h2 := h1.no (f := isK 21) (F' := stepF ⟨9, l.s, opS r⟩) q2 (fun y hy => by rw [hy]; rfl)
        rw [tK_no (s := ({ t with at' := t.at' + 1, mi := 0 } : MS).close' l r) q2]
        exact nx_tok (l := 5) h2 (by show s.at' < t.at' + 1; omega)
    | false =>
      have h1 := h.no (f := isK 9) (F' := stepF ⟨0, t.top.s, opS r ++ [l.s]⟩) q (fun y hy => by
        show bhE _ y = clauseF _ y
        unfold bhE
        rw [hy]
        dsimp only
        rw [ee]
        cases q0 : isK 0 y with
        | true => rw [clause_none (r := ⟨0, t.top.s, opS r ++ [l.s]⟩) 0 (by omega) q0]; rfl
        | false => rfl)
      rw [tK_no q]
      refine nx_lab (l := 0) ?_ hl (by show 4 < lrk lab; exact hlab)
      show Chn R (stepF ⟨0, t.top.s, opS t.ou⟩) (kS ⟨0, t.top.s, opS t.ou⟩) t.at' _
      rw [ho, eo]
      exact h1
theorem n5u (lab : Nat) (hlab : 4 < lrk lab) {t : MS} (h : Chn R (bhJ (rsM 9 t)) (kJ t.top.s (opS t.ou).isEmpty) t.at' t.mi) (hl : s.at' ≤ t.at') : Nxt R lab s (stp5u R t) := by
  unfold stp5u
  cases hs : t.top.s with
  | true =>
    rw [hs] at h
    have e : bhJ (rsM 9 t) = bhE (rsM 9 t) := funext (fun y => bhJ_signed hs y)
    rw [e] at h
    exact n5e lab hlab h hl
  | false =>
    rw [hs] at h
    have h : Chn R (bhJ (rsM 9 t)) (5 :: 4 :: 17 :: kE (opS t.ou).isEmpty) t.at' t.mi := h
    have hF : ∀ y, bhJ (rsM 9 t) y = if isK 5 y then some (rsM 1 t) else if isK 4 y then some (rsM 1 t) else if isK 17 y then some (rsM 1 t) else bhE (rsM 9 t) y := fun y => by
      have hs2 : (rsM 9 t).sg = false := hs
      have er : rsM 1 t = ⟨1, false, opS t.ou⟩ := by unfold rsM; rw [hs]
      unfold bhJ
      rw [hs2, er]
      cases isK 4 y <;> cases isK 5 y <;> cases isK 17 y <;> rfl
    simp only [Bool.false_eq_true, if_false]
    unfold tJoin
    cases q5 : isK 5 (tkA R t.at') with
    | true =>
      have h1 := h.yes (f := isK 5) (r1 := rsM 1 t) (isK_noT 5) q5 (fun y hy => by rw [hF, hy]; rfl)
      rw [or_yes (or_yes (tK_yes q5))]
      exact nx_tok (l := 1) h1 (by show s.at' < t.at' + 1; omega)
    | false =>
      have h1 := h.no (f := isK 5) (F' := fun y => if isK 4 y then some (rsM 1 t) else if isK 17 y then some (rsM 1 t) else bhE (rsM 9 t) y) q5 (fun y hy => by rw [hF, hy]; rfl)
      cases q4 : isK 4 (tkA R t.at') with
      | true =>
        have h2 := h1.yes (f := isK 4) (r1 := rsM 1 t) (isK_noT 4) q4 (fun y hy => by rw [hy]; rfl)
        have e : orT (tK R 5) (tK R 4) t = (true, { t with at' := t.at' + 1, mi := 0 }) := by rw [or_no (tK_no q5), tK_yes (s := { t with mi := t.mi ||| (1 <<< 5) }) q4]
        rw [or_yes e]
        exact nx_tok (l := 1) h2 (by show s.at' < t.at' + 1; omega)
      | false =>
        have h2 := h1.no (f := isK 4) (F' := fun y => if isK 17 y then some (rsM 1 t) else bhE (rsM 9 t) y) q4 (fun y hy => by rw [hy]; rfl)
        have e : orT (tK R 5) (tK R 4) t = (false, { t with mi := t.mi ||| (1 <<< 5) ||| (1 <<< 4) }) := by rw [or_no (tK_no q5), tK_no (s := { t with mi := t.mi ||| (1 <<< 5) }) q4]
        rw [or_no e]
        cases q17 : isK 17 (tkA R t.at') with
        | true =>
          have h3 := h2.yes (f := isK 17) (r1 := rsM 1 t) (isK_noT 17) q17 (fun y hy => by rw [hy]; rfl)
          rw [tK_yes (s := { t with mi := t.mi ||| (1 <<< 5) ||| (1 <<< 4) }) q17]
          exact nx_tok (l := 1) h3 (by show s.at' < t.at' + 1; omega)
        | false =>
          have h3 := h2.no (f := isK 17) (F' := bhE (rsM 9 t)) q17 (fun y hy => by rw [hy]; rfl)
          rw [tK_no (s := { t with mi := t.mi ||| (1 <<< 5) ||| (1 <<< 4) }) q17]
          exact n5e lab hlab (t := { t with mi := t.mi ||| (1 <<< 5) ||| (1 <<< 4) ||| (1 <<< 17) }) h3 hl
theorem n5 (lab : Nat) (hlab : 4 < lrk lab) (h : Inv14 R 9 s) : Nxt R lab s (stp5 R s) := by
  have h : Chn R (fun y => if isK 18 y || isK 19 y then some (rsM 9 s) else bhJ (rsM 9 s) y) (18 :: 19 :: kJ s.top.s (opS s.ou).isEmpty) s.at' s.mi := h
  unfold stp5
  cases q : isK 18 (tkA R s.at') with
  | true =>
    have h1 := h.yes (f := isK 18) (r1 := rsM 9 s) (isK_noT 18) q (fun y hy => by rw [hy]; rfl)
    rw [or_yes (tK_yes q)]
    exact nx_tok (l := 5) h1 (Nat.lt_succ_self _)
  | false =>
    have h1 := h.no (f := isK 18) (F' := fun y => if isK 19 y then some (rsM 9 s) else bhJ (rsM 9 s) y) q (fun y hy => by rw [hy]; rfl)
    rw [or_no (tK_no q)]
    cases q2 : isK 19 (tkA R s.at') with
    | true =>
      have h2 := h1.yes (f := isK 19) (r1 := rsM 9 s) (isK_noT 19) q2 (fun y hy => by rw [hy]; rfl)
      rw [tK_yes (s := { s with mi := s.mi ||| (1 <<< 18) }) q2]
      exact nx_tok (l := 5) h2 (Nat.lt_succ_self _)
    | false =>
      have h2 := h1.no (f := isK 19) (F' := bhJ (rsM 9 s)) q2 (fun y hy => by rw [hy]; rfl)
      rw [tK_no (s := { s with mi := s.mi ||| (1 <<< 18) }) q2]
      exact n5u lab hlab (t := MS.endU { s with mi := s.mi ||| (1 <<< 18) ||| (1 <<< 19) }) h2 (Nat.le_refl _)
theorem cn_big {lab : Nat} (h0 : ¬ lab = 0) (h1 : ¬ lab = 1) (h2 : ¬ lab = 2) (h3 : ¬ lab = 3) (h4 : ¬ lab = 4) : cnL lab = 9 ∧ 4 < lrk lab := by
  match lab with
  | 0 => omega
  | 1 => omega
  | 2 => omega
  | 3 => omega
  | 4 => omega
  | n + 5 =>
    refine ⟨rfl, ?_⟩
    unfold lrk
    repeat' split
    all_goals omega
theorem nxt_stp (lab : Nat) (h : Inv14 R (cnL lab) s) : Nxt R lab s (stpM R lab s) := by
  unfold stpM
  split
  · rename_i e; subst e; exact n0 h
  split
  · rename_i e; subst e; exact n1 h
  split
  · rename_i e; subst e; exact n2 h
  split
  · rename_i e; subst e; exact n3 h
  split
  · rename_i e; subst e; exact n4 h
  · rename_i a b c d e
    obtain ⟨h5, h6⟩ := cn_big a b c d e
    rw [h5] at h
    exact n5 lab h6 h
theorem run_fol : ∀ (f lab : Nat) (s : MS), rkM R lab s < f → Inv14 R (cnL lab) s → FolOK R (runF R f lab s) := by
  intro f
  induction f with
  | zero => intro lab s h; omega
  | succ f ih =>
    intro lab s hr h
    have g := nxt_stp lab h
    unfold Nxt at g
    cases hx : stpM R lab s with
    | mk x s' =>
      rw [hx] at g
      cases x with
      | inl l =>
        rw [runF_go hx]
        exact ih l s' (by have g2 : rkM R l s' < rkM R lab s := g.2; omega) g.1
      | inr b =>
        rw [runF_ret hx]
        exact g
theorem inv_start : Inv14 R (cnL 0) s00 := by
  have h : rfR (R.take 0) = some r00 := by rw [List.take_zero]; rfl
  exact chn_base (r := r00) (Nat.zero_le _) h (by decide)
/-- The document's Follow. -/
def rfF (R : List Tn) : List Int := match rfR R with
  | none => []
  | some r => ((List.range 22).filter (fun k => mayB r k)).map (fun (k : Nat) => (k : Int))
theorem fol_ref (R : List Tn) : folF R = rfF R := by
  have h : FolOK R (runR R) := run_fol _ 0 s00 (by unfold rkM s00 lrk; simp) inv_start
  obtain ⟨h1, h2, h3⟩ := h
  unfold folF rfF
  cases hb : (runR R).1 with
  | true =>
    rw [show (true || decide ((runR R).2.at' < R.length)) = true from rfl, if_pos rfl]
    rcases h1 hb with e | ⟨r, e, hk⟩
    · rw [e]
    · rw [e]
      dsimp only
      rw [List.filter_eq_nil_iff.2 (fun k hk2 => by rw [hk k (List.mem_range.1 hk2)]; decide)]
      rfl
  | false =>
    by_cases hl : (runR R).2.at' < R.length
    · rw [h2 hb hl, decide_eq_true hl]
      rfl
    · obtain ⟨r, e, hk⟩ := h3 hb hl
      rw [e, decide_eq_false hl]
      rw [show (false || false) = false from rfl, if_neg (by decide)]
      unfold lackL
      dsimp only
      congr 1
      exact List.filter_congr (fun k hk2 => (hk k (List.mem_range.1 hk2)).symm)
end Go.Proofs.YtiemiphlfbaojaaDoor
