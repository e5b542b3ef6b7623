import Derived.Test.YtiemiphlfbaojaaDoorMrg2
import Derived.Test.YtiemiphlfbaojaaDoorMrg6
namespace Go.Proofs.YtiemiphlfbaojaaDoor
open Go.ChangeShapes Go.WideShapes Go.ChangeAt Go.RowKit
variable {R : List Tn} {i m : Nat} {F F' : Tn → Option Rs} {L : List Nat} {s : MS}

/-! The recogniser and the document's rows, side by side. -/
/-- At the place i, with m missed: what is left to be asked of the token there (F), of kinds at the end (L). -/
structure Chn (R : List Tn) (F : Tn → Option Rs) (L : List Nat) (i m : Nat) : Prop where
  le : i ≤ R.length
  run : ∃ r, rfR (R.take i) = some r ∧ (∀ y, R[i]? = some y → stepF r y = F y) ∧ (i = R.length → ∀ k, k < 22 → mayB r k = (m.testBit k || L.contains k))
theorem chn_base {r : Rs} (hi : i ≤ R.length) (h : rfR (R.take i) = some r) (hr : r.at' < 15) : Chn R (stepF r) (kS r) i 0 :=
  ⟨hi, r, h, fun _ _ => rfl, fun _ k hk => by rw [may_list r hr k hk, Nat.zero_testBit]; rfl⟩
theorem tk_at {f : Tn → Bool} (hf : f noT = false) (q : f (tkA R i) = true) : ∃ y, R[i]? = some y ∧ f y = true ∧ i < R.length := by
  unfold tkA at q
  cases h : R[i]? with
  | none => rw [h] at q; rw [show (none : Option Tn).getD noT = noT from rfl, hf] at q; cases q
  | some y => rw [h] at q; exact ⟨y, rfl, q, (List.getElem?_eq_some_iff.1 h).1⟩
theorem Chn.yes {f : Tn → Bool} {r1 : Rs} (h : Chn R F L i m) (hf : f noT = false) (q : f (tkA R i) = true) (hF : ∀ y, f y = true → F y = some r1) : Chn R (stepF r1) (kS r1) (i + 1) 0 := by
  obtain ⟨y, hy, hq, hi⟩ := tk_at hf q
  obtain ⟨r, h1, h2, _⟩ := h.run
  have e : stepF r y = some r1 := by rw [h2 y hy]; exact hF y hq
  exact chn_base hi (by rw [rf_next hy, h1]; exact e) (step_lt r r1 y e)
theorem bit_put (m k j : Nat) : (m ||| (1 <<< k)).testBit j = (m.testBit j || (j == k)) := by
  rw [Nat.testBit_or, Nat.one_shiftLeft, Nat.testBit_two_pow]
  congr 1
  by_cases h : k = j
  · subst h; simp
  · have : ¬ j = k := fun e => h e.symm
    simp [h, this]
theorem Chn.no {f : Tn → Bool} {k : Nat} (h : Chn R F (k :: L) i m) (q : f (tkA R i) = false) (hF : ∀ y, f y = false → F y = F' y) : Chn R F' L i (m ||| (1 <<< k)) := by
  obtain ⟨r, h1, h2, h3⟩ := h.run
  refine ⟨h.le, r, h1, fun y hy => ?_, fun e j hj => ?_⟩
  · have hq : f y = false := by unfold tkA at q; rw [hy] at q; exact q
    rw [h2 y hy]; exact hF y hq
  · rw [h3 e j hj, bit_put, List.contains_cons, Bool.or_assoc]
/-- What the run's end tells. -/
def FolOK (R : List Tn) (x : Bool × MS) : Prop :=
  (x.1 = true → rfR R = none ∨ ∃ r, rfR R = some r ∧ ∀ k, k < 22 → mayB r k = false) ∧
  (x.1 = false → x.2.at' < R.length → rfR R = none) ∧
  (x.1 = false → ¬ x.2.at' < R.length → ∃ r, rfR R = some r ∧ ∀ k, k < 22 → mayB r k = x.2.mi.testBit k) ∧
  (x.1 = true → ∃ r, rfR (R.take x.2.at') = some r) ∧
  (x.1 = false → x.2.at' < R.length → (∃ r, rfR (R.take x.2.at') = some r) ∧ rfR (R.take (x.2.at' + 1)) = none)
theorem Chn.fail (h : Chn R (fun _ => none) [] s.at' s.mi) : FolOK R (false, s) := by
  obtain ⟨r, h1, h2, h3⟩ := h.run
  refine ⟨fun e => (by cases e), fun _ hl => ?_, fun _ hl => ?_, fun e => (by cases e), fun _ hl => ?_⟩
  · have hl : s.at' < R.length := hl
    have hy : R[s.at']? = some R[s.at'] := List.getElem?_eq_getElem hl
    refine rf_take (i := s.at' + 1) ?_
    rw [rf_next hy, h1]
    exact h2 _ hy
  · have hl : ¬ s.at' < R.length := hl
    have e : s.at' = R.length := by have := h.le; omega
    refine ⟨r, ?_, fun k hk => ?_⟩
    · rw [e, List.take_length] at h1; exact h1
    · rw [h3 e k hk]; simp
  · have hl : s.at' < R.length := hl
    have hy : R[s.at']? = some R[s.at'] := List.getElem?_eq_getElem hl
    refine ⟨⟨r, h1⟩, ?_⟩
    show rfR (R.take (s.at' + 1)) = none
    rw [rf_next hy, h1]
    exact h2 _ hy
theorem done_step (sg : Bool) (op : List Bool) (y : Tn) : stepF ⟨14, sg, op⟩ y = none := rfl
theorem Chn.done {sg : Bool} {op : List Bool} (h : Chn R (stepF ⟨14, sg, op⟩) (kS ⟨14, sg, op⟩) s.at' 0) : FolOK R (true, s) := by
  obtain ⟨r, h1, h2, h3⟩ := h.run
  refine ⟨fun _ => ?_, fun e => (by cases e), fun e => (by cases e), fun _ => ⟨r, h1⟩, fun e => (by cases e)⟩
  rcases Nat.lt_or_ge s.at' R.length with hl | hl
  · have hy : R[s.at']? = some R[s.at'] := List.getElem?_eq_getElem hl
    refine .inl (rf_take (i := s.at' + 1) ?_)
    rw [rf_next hy, h1]
    exact h2 _ hy
  · have e : s.at' = R.length := by have := h.le; omega
    refine .inr ⟨r, ?_, fun k hk => ?_⟩
    · rw [e, List.take_length] at h1; exact h1
    · rw [h3 e k hk, Nat.zero_testBit]; rfl
/-- The canonical state of a label. -/
def cnL (lab : Nat) : Nat := match lab with
  | 0 => 0
  | 1 => 1
  | 2 => 2
  | 3 => 6
  | 4 => 4
  | _ => 9
def opS (ou : List Lv) : List Bool := (ou.map (·.s)).reverse
def rsM (a : Nat) (s : MS) : Rs := ⟨a, s.top.s, opS s.ou⟩
def Inv14 (R : List Tn) (a : Nat) (s : MS) : Prop := Chn R (stepF (rsM a s)) (kS (rsM a s)) s.at' s.mi
theorem isK_ne {y : Tn} {k j : Nat} (h : isK k y = true) (hj : j ≠ k) : isK j y = false := by
  unfold isK at *
  simp only [beq_iff_eq] at h
  simp only [beq_eq_false_iff_ne]
  omega
theorem st_k {y : Tn} (h : isSt y = true) : isK 2 y = true := by
  unfold isSt at h
  unfold isK
  rw [Bool.and_eq_true] at h
  exact h.1
theorem ed_k {y : Tn} (h : isEd y = true) : isK 20 y = true := by
  unfold isEd at h
  unfold isK
  rw [Bool.and_eq_true] at h
  exact h.1
theorem sl_k {y : Tn} (h : isSl y = true) : isK 20 y = true := by
  unfold isSl at h
  unfold isK
  rw [Bool.and_eq_true] at h
  exact h.1
theorem st_no {y : Tn} {k : Nat} (h : isK k y = true) (hk : k ≠ 2) : isSt y = false := by
  cases q : isSt y with
  | false => rfl
  | true => have := isK_ne (st_k q) hk; rw [this] at h; cases h
theorem isK_noT (k : Nat) : isK k noT = false := by unfold isK noT; simp
theorem tK_yes {k : Nat} (q : isK k (tkA R s.at') = true) : tK R k s = (true, { s with at' := s.at' + 1, mi := 0 }) := by unfold tK tkB tkS MS.pass; rw [q]; rfl
theorem tK_no {k : Nat} (q : isK k (tkA R s.at') = false) : tK R k s = (false, { s with mi := s.mi ||| (1 <<< k) }) := by unfold tK tkB tkS MS.pass; rw [q]; rfl
theorem tSt_yes (q : isSt (tkA R s.at') = true) : tSt R s = (true, { s with at' := s.at' + 1, mi := 0 }) := by unfold tSt tkB tkS MS.pass; rw [q]; rfl
theorem tSt_no (q : isSt (tkA R s.at') = false) : tSt R s = (false, { s with mi := s.mi ||| (1 <<< 2) }) := by unfold tSt tkB tkS MS.pass; rw [q]; rfl
theorem tEd_yes (q : isEd (tkA R s.at') = true) : tEd R s = (true, { s with at' := s.at' + 1, mi := 0 }) := by unfold tEd tkB tkS MS.pass; rw [q]; rfl
theorem tEd_no (q : isEd (tkA R s.at') = false) : tEd R s = (false, { s with mi := s.mi ||| (1 <<< 20) }) := by unfold tEd tkB tkS MS.pass; rw [q]; rfl
theorem tSl_yes (q : isSl (tkA R s.at') = true) : tSl R s = (true, { s with at' := s.at' + 1, mi := 0 }) := by unfold tSl tkB tkS MS.pass; rw [q]; rfl
theorem tSl_no (q : isSl (tkA R s.at') = false) : tSl R s = (false, { s with mi := s.mi ||| (1 <<< 20) }) := by unfold tSl tkB tkS MS.pass; rw [q]; rfl
/-- One pass: it goes on at a label with less left, or ends. -/
def Nxt (R : List Tn) (lab : Nat) (s : MS) (x : (Nat ⊕ Bool) × MS) : Prop := match x.1 with
  | .inl l => Inv14 R (cnL l) x.2 ∧ rkM R l x.2 < rkM R lab s
  | .inr b => FolOK R (b, x.2)
theorem nx_tok {lab l : Nat} {s' : MS} (h : Inv14 R (cnL l) s') (hl : s.at' < s'.at') : Nxt R lab s (.inl l, s') := ⟨h, rk_tok lab l hl h.le⟩
theorem nx_lab {lab l : Nat} {s' : MS} (h : Inv14 R (cnL l) s') (hl : s.at' ≤ s'.at') (hr : lrk l < lrk lab) : Nxt R lab s (.inl l, s') := ⟨h, rk_lab hl hr⟩
theorem nx_no {lab : Nat} {s' : MS} (h : Chn R (fun _ => none) [] s'.at' s'.mi) : Nxt R lab s (.inr false, s') := h.fail
/-- The clause's beginning. -/
theorem n0 (h : Inv14 R 0 s) : Nxt R 0 s (stp0 R s) := by
  have h : Chn R (stepF (rsM 0 s)) (15 :: 16 :: kU) s.at' s.mi := h
  unfold stp0
  cases q15 : isK 15 (tkA R s.at') with
  | true =>
    have h1 := h.yes (f := isK 15) (r1 := ⟨1, true, opS s.ou⟩) (isK_noT 15) q15 (fun y hy => by show clauseF _ y = _; unfold clauseF; rw [hy]; rfl)
    rw [or_yes (tK_yes q15)]
    exact nx_tok (l := 1) h1 (Nat.lt_succ_self _)
  | false =>
    have h1 := h.no (f := isK 15) (F' := fun y => if isK 16 y then some ⟨1, true, opS s.ou⟩ else begunF ⟨1, false, opS s.ou⟩ y false) q15 (fun y hy => by show clauseF _ y = _; unfold clauseF; rw [hy]; rfl)
    rw [or_no (tK_no q15)]
    cases q16 : isK 16 (tkA R s.at') with
    | true =>
      have h2 := h1.yes (f := isK 16) (r1 := ⟨1, true, opS s.ou⟩) (isK_noT 16) q16 (fun y hy => by rw [hy]; rfl)
      rw [tK_yes (s := { s with mi := s.mi ||| (1 <<< 15) }) q16]
      exact nx_tok (l := 1) h2 (Nat.lt_succ_self _)
    | false =>
      have h2 := h1.no (f := isK 16) (F' := stepF ⟨1, false, opS s.ou⟩) q16 (fun y hy => by rw [hy]; rfl)
      rw [tK_no (s := { s with mi := s.mi ||| (1 <<< 15) }) q16]
      exact nx_lab (l := 1) h2 (Nat.le_refl _) (by decide)
/-- A unary's beginning. -/
theorem begun_1 {r : Rs} {y : Tn} (h6 : isK 6 y = false) : begunF r y false = if isSt y then some ⟨6, r.sg, r.op⟩ else if isK 1 y then some ⟨4, r.sg, r.op⟩ else begunF r y true := by
  unfold begunF
  rw [h6]
  simp only [Bool.false_and, Bool.false_eq_true, if_false]
  cases qs : isSt y with
  | true =>
    have k2 := st_k qs
    unfold atomF
    rw [isK_ne k2 (j := 1) (by decide), isK_ne k2 (j := 8) (by decide), k2, qs]
    rfl
  | false =>
    cases q1 : isK 1 y with
    | true =>
      unfold atomF
      rw [isK_ne q1 (j := 8) (by decide), q1]
      rfl
    | false =>
      unfold atomF
      rw [q1, qs]
      rfl
theorem n1 (h : Inv14 R 1 s) : Nxt R 1 s (stp1 R s) := by
  have h : Chn R (stepF (rsM 1 s)) (6 :: 2 :: 1 :: kB) s.at' s.mi := h
  unfold stp1
  cases q6 : isK 6 (tkA R s.at') with
  | true =>
    have h1 := h.yes (f := isK 6) (r1 := rsM 1 s) (isK_noT 6) q6 (fun y hy => by show begunF _ y false = _; unfold begunF; rw [hy]; rfl)
    rw [tK_yes q6]
    exact nx_tok (l := 1) h1 (Nat.lt_succ_self _)
  | false =>
    have h1 := h.no (f := isK 6) (F' := fun y => if isSt y then some (rsM 6 s) else if isK 1 y then some (rsM 4 s) else begunF (rsM 2 s) y true) q6 (fun y hy => by show begunF _ y false = _; rw [begun_1 hy]; rfl)
    rw [tK_no q6]
    simp only [Bool.false_eq_true, if_false]
    cases qs : isSt (tkA R s.at') with
    | true =>
      have h2 := h1.yes (f := isSt) (r1 := rsM 6 s) rfl qs (fun y hy => by rw [hy]; rfl)
      rw [tSt_yes (s := { s with mi := s.mi ||| (1 <<< 6) }) qs]
      exact nx_tok (l := 3) h2 (Nat.lt_succ_self _)
    | false =>
      have h2 := h1.no (f := isSt) (F' := fun y => if isK 1 y then some (rsM 4 s) else begunF (rsM 2 s) y true) qs (fun y hy => by rw [hy]; rfl)
      rw [tSt_no (s := { s with mi := s.mi ||| (1 <<< 6) }) qs]
      simp only [Bool.false_eq_true, if_false]
      cases q1 : isK 1 (tkA R s.at') with
      | true =>
        have h3 := h2.yes (f := isK 1) (r1 := rsM 4 s) (isK_noT 1) q1 (fun y hy => by rw [hy]; rfl)
        rw [tK_yes (s := { s with mi := s.mi ||| (1 <<< 6) ||| (1 <<< 2) }) q1]
        exact nx_tok (l := 4) h3 (Nat.lt_succ_self _)
      | false =>
        have h3 := h2.no (f := isK 1) (F' := stepF (rsM 2 s)) q1 (fun y hy => by rw [hy]; rfl)
        rw [tK_no (s := { s with mi := s.mi ||| (1 <<< 6) ||| (1 <<< 2) }) q1]
        exact nx_lab (l := 2) h3 (Nat.le_refl _) (by decide)
end Go.Proofs.YtiemiphlfbaojaaDoor
namespace Go.Proofs.YtiemiphlfbaojaaDoor
open Go.ChangeShapes Go.WideShapes Go.ChangeAt Go.RowKit
variable {R : List Tn} {i m : Nat} {F F' : Tn → Option Rs} {L : List Nat} {s : MS}

/-! The other labels. -/
/-- Two takings of a state: it fits, or nothing does. -/
def Tk2 (R : List Tn) (b : Nat) (s : MS) (x : Bool × MS) : Prop :=
  (x.1 = true → Inv14 R b x.2 ∧ s.at' < x.2.at' ∧ x.2.top = s.top ∧ x.2.ou = s.ou ∧ x.2.ne = s.ne) ∧ (x.1 = false → Chn R (fun _ => none) [] x.2.at' x.2.mi)
theorem side_any (a : Nat) (ha : a = 10 ∨ a = 12) (h : Inv14 R a s) : Tk2 R (a + 1) s (tSide R s) := by
  have h : Chn R (fun y => if sideB y then some (rsM (a + 1) s) else none) [1, 3, 2] s.at' s.mi := by
    rcases ha with rfl | rfl <;> exact h
  unfold tSide
  cases q1 : isK 1 (tkA R s.at') with
  | true =>
    have h1 := h.yes (f := isK 1) (r1 := rsM (a + 1) s) (isK_noT 1) q1 (fun y hy => by unfold sideB; rw [hy]; rfl)
    rw [or_yes (or_yes (tK_yes q1))]
    exact ⟨fun _ => ⟨h1, Nat.lt_succ_self _, rfl, rfl, rfl⟩, fun e => (by cases e)⟩
  | false =>
    have h1 := h.no (f := isK 1) (F' := fun y => if (isK 3 y || isSt y) then some (rsM (a + 1) s) else none) q1 (fun y hy => by unfold sideB; rw [hy]; rfl)
    cases q3 : isK 3 (tkA R s.at') with
    | true =>
      have h2 := h1.yes (f := isK 3) (r1 := rsM (a + 1) s) (isK_noT 3) q3 (fun y hy => by rw [hy]; rfl)
      have e : orT (tK R 1) (tK R 3) s = (true, { s with at' := s.at' + 1, mi := 0 }) := by rw [or_no (tK_no q1), tK_yes (s := { s with mi := s.mi ||| (1 <<< 1) }) q3]
      rw [or_yes e]
      exact ⟨fun _ => ⟨h2, Nat.lt_succ_self _, rfl, rfl, rfl⟩, fun e => (by cases e)⟩
    | false =>
      have h2 := h1.no (f := isK 3) (F' := fun y => if isSt y then some (rsM (a + 1) s) else none) q3 (fun y hy => by rw [hy]; rfl)
      have e : orT (tK R 1) (tK R 3) s = (false, { s with mi := s.mi ||| (1 <<< 1) ||| (1 <<< 3) }) := by rw [or_no (tK_no q1), tK_no (s := { s with mi := s.mi ||| (1 <<< 1) }) q3]
      rw [or_no e]
      cases qs : isSt (tkA R s.at') with
      | true =>
        have h3 := h2.yes (f := isSt) (r1 := rsM (a + 1) s) rfl qs (fun y hy => by rw [hy]; rfl)
        rw [tSt_yes (s := { s with mi := s.mi ||| (1 <<< 1) ||| (1 <<< 3) }) qs]
        exact ⟨fun _ => ⟨h3, Nat.lt_succ_self _, rfl, rfl, rfl⟩, fun e => (by cases e)⟩
      | false =>
        have h3 := h2.no (f := isSt) (F' := fun _ => none) qs (fun y hy => by rw [hy]; rfl)
        rw [tSt_no (s := { s with mi := s.mi ||| (1 <<< 1) ||| (1 <<< 3) }) qs]
        exact ⟨fun e => (by cases e), fun _ => h3⟩
theorem to_any (h : Inv14 R 11 s) : Tk2 R 12 s (tK R 7 s) := by
  have h : Chn R (fun y => if isK 7 y then some (rsM 12 s) else none) [7] s.at' s.mi := h
  cases q : isK 7 (tkA R s.at') with
  | true =>
    have h1 := h.yes (f := isK 7) (r1 := rsM 12 s) (isK_noT 7) q (fun y hy => by rw [hy]; rfl)
    rw [tK_yes q]
    exact ⟨fun _ => ⟨h1, Nat.lt_succ_self _, rfl, rfl, rfl⟩, fun e => (by cases e)⟩
  | false =>
    have h1 := h.no (f := isK 7) (F' := fun _ => none) q (fun y hy => by rw [hy]; rfl)
    rw [tK_no q]
    exact ⟨fun e => (by cases e), fun _ => h1⟩
theorem last_any (h : Inv14 R 13 s) : Tk2 R 9 s (orT (tK R 11) (tK R 13) s) := by
  have h : Chn R (fun y => if isK 11 y || isK 13 y then some (rsM 9 s) else none) [11, 13] s.at' s.mi := h
  cases q : isK 11 (tkA R s.at') with
  | true =>
    have h1 := h.yes (f := isK 11) (r1 := rsM 9 s) (isK_noT 11) q (fun y hy => by rw [hy]; rfl)
    rw [or_yes (tK_yes q)]
    exact ⟨fun _ => ⟨h1, Nat.lt_succ_self _, rfl, rfl, rfl⟩, fun e => (by cases e)⟩
  | false =>
    have h1 := h.no (f := isK 11) (F' := fun y => if isK 13 y then some (rsM 9 s) else none) q (fun y hy => by rw [hy]; rfl)
    rw [or_no (tK_no q)]
    cases q2 : isK 13 (tkA R s.at') with
    | true =>
      have h2 := h1.yes (f := isK 13) (r1 := rsM 9 s) (isK_noT 13) q2 (fun y hy => by rw [hy]; rfl)
      rw [tK_yes (s := { s with mi := s.mi ||| (1 <<< 11) }) q2]
      exact ⟨fun _ => ⟨h2, Nat.lt_succ_self _, rfl, rfl, rfl⟩, fun e => (by cases e)⟩
    | false =>
      have h2 := h1.no (f := isK 13) (F' := fun _ => none) q2 (fun y hy => by rw [hy]; rfl)
      rw [tK_no (s := { s with mi := s.mi ||| (1 <<< 11) }) q2]
      exact ⟨fun e => (by cases e), fun _ => h2⟩
theorem Tk2.and {b c : Nat} {p q : MS → Bool × MS} (h : Tk2 R b s (p s)) (h2 : ∀ t, Inv14 R b t → Tk2 R c t (q t)) : Tk2 R c s (andT p q s) := by
  cases e : (p s).1 with
  | true =>
    have e' : andT p q s = q (p s).2 := by unfold andT; rw [e]; rfl
    rw [e']
    obtain ⟨i1, i2, i3, i4, i5⟩ := h.1 e
    have g := h2 _ i1
    refine ⟨fun e2 => ?_, g.2⟩
    obtain ⟨j1, j2, j3, j4, j5⟩ := g.1 e2
    exact ⟨j1, by omega, j3.trans i3, j4.trans i4, j5.trans i5⟩
  | false =>
    have e' : andT p q s = p s := by unfold andT; rw [e]; rfl
    rw [e']
    exact ⟨fun e2 => (by rw [e] at e2; cases e2), h.2⟩
theorem sides_any (h : Inv14 R 10 s) : Tk2 R 9 s (tSides R s) :=
  (((side_any 10 (.inl rfl) h).and (b := 11) (c := 12) (fun _ => to_any)).and (b := 12) (c := 13) (fun _ => side_any 12 (.inr rfl))).and (b := 13) (c := 9) (fun _ => last_any)
theorem nS (lab : Nat) {t : MS} (h : Inv14 R 10 t) (hl : s.at' < t.at') : Nxt R lab s (stpS R t) := by
  have g := sides_any h
  unfold stpS
  cases e : (tSides R t).1 with
  | true =>
    obtain ⟨j1, j2, _⟩ := g.1 e
    exact nx_tok (l := 5) j1 (by omega)
  | false => exact nx_no (g.2 e)
theorem begun_2 {r : Rs} {y : Tn} : begunF r y true = if isK 8 y then some ⟨0, false, r.op ++ [r.sg]⟩ else if isK 10 y then some ⟨10, r.sg, r.op⟩ else if isK 12 y then some ⟨10, r.sg, r.op⟩ else if isK 3 y then some ⟨7, r.sg, r.op⟩ else if isK 1 y then some ⟨5, r.sg, r.op⟩ else if isK 2 y then some ⟨9, r.sg, r.op⟩ else none := by
  have e : (isK 6 y && !true) = false := by cases isK 6 y <;> rfl
  have e2 : (isSt y && !true) = false := by cases isSt y <;> rfl
  unfold begunF atomF
  rw [e, e2]
  simp only [Bool.false_eq_true, if_false, if_true]
  cases q8 : isK 8 y with
  | true => rw [isK_ne q8 (j := 1) (by decide), isK_ne q8 (j := 2) (by decide), isK_ne q8 (j := 3) (by decide)]; rfl
  | false =>
    cases q10 : isK 10 y with
    | true => rw [isK_ne q10 (j := 1) (by decide), isK_ne q10 (j := 2) (by decide), isK_ne q10 (j := 3) (by decide)]; rfl
    | false =>
      cases q12 : isK 12 y with
      | true => rw [isK_ne q12 (j := 1) (by decide), isK_ne q12 (j := 2) (by decide), isK_ne q12 (j := 3) (by decide)]; rfl
      | false =>
        cases q3 : isK 3 y with
        | true => rw [isK_ne q3 (j := 1) (by decide), isK_ne q3 (j := 2) (by decide)]; rfl
        | false =>
          cases q1 : isK 1 y with
          | true => rfl
          | false => cases q2 : isK 2 y <;> rfl
theorem n2 (h : Inv14 R 2 s) : Nxt R 2 s (stp2 R s) := by
  have h : Chn R (fun y => if isK 8 y then some ⟨0, false, opS s.ou ++ [s.top.s]⟩ else if isK 10 y then some (rsM 10 s) else if isK 12 y then some (rsM 10 s) else if isK 3 y then some (rsM 7 s) else if isK 1 y then some (rsM 5 s) else if isK 2 y then some (rsM 9 s) else none) [8, 10, 12, 3, 1, 2] s.at' s.mi := by
    have e : stepF (rsM 2 s) = _ := funext (fun y => begun_2 (r := rsM 2 s) (y := y))
    have h : Chn R (stepF (rsM 2 s)) [8, 10, 12, 3, 1, 2] s.at' s.mi := h
    rw [e] at h
    exact h
  unfold stp2
  cases q8 : isK 8 (tkA R s.at') with
  | true =>
    have h1 := h.yes (f := isK 8) (r1 := ⟨0, false, opS s.ou ++ [s.top.s]⟩) (isK_noT 8) q8 (fun y hy => by rw [hy]; rfl)
    rw [tK_yes q8]
    have eo : opS (s.top :: s.ou) = opS s.ou ++ [s.top.s] := by unfold opS; simp
    refine nx_tok (l := 0) ?_ (Nat.lt_succ_self _)
    show Chn R (stepF ⟨0, false, opS (s.top :: s.ou)⟩) (kS ⟨0, false, opS (s.top :: s.ou)⟩) (s.at' + 1) 0
    rw [eo]
    exact h1
  | false =>
    have h1 := h.no (f := isK 8) (F' := fun y => if isK 10 y then some (rsM 10 s) else if isK 12 y then some (rsM 10 s) else if isK 3 y then some (rsM 7 s) else if isK 1 y then some (rsM 5 s) else if isK 2 y then some (rsM 9 s) else none) q8 (fun y hy => by rw [hy]; rfl)
    rw [tK_no q8]
    simp only [Bool.false_eq_true, if_false]
    cases q10 : isK 10 (tkA R s.at') with
    | true =>
      have h2 := h1.yes (f := isK 10) (r1 := rsM 10 s) (isK_noT 10) q10 (fun y hy => by rw [hy]; rfl)
      rw [tK_yes (s := { s with mi := s.mi ||| (1 <<< 8) }) q10]
      exact nS 2 (t := { s with at' := s.at' + 1, mi := 0 }) h2 (Nat.lt_succ_self _)
    | false =>
      have h2 := h1.no (f := isK 10) (F' := fun y => if isK 12 y then some (rsM 10 s) else if isK 3 y then some (rsM 7 s) else if isK 1 y then some (rsM 5 s) else if isK 2 y then some (rsM 9 s) else none) q10 (fun y hy => by rw [hy]; rfl)
      rw [tK_no (s := { s with mi := s.mi ||| (1 <<< 8) }) q10]
      simp only [Bool.false_eq_true, if_false]
      cases q12 : isK 12 (tkA R s.at') with
      | true =>
        have h3 := h2.yes (f := isK 12) (r1 := rsM 10 s) (isK_noT 12) q12 (fun y hy => by rw [hy]; rfl)
        rw [tK_yes (s := { s with mi := s.mi ||| (1 <<< 8) ||| (1 <<< 10) }) q12]
        exact nS 2 (t := { s with at' := s.at' + 1, mi := 0 }) h3 (Nat.lt_succ_self _)
      | false =>
        have h3 := h2.no (f := isK 12) (F' := fun y => if isK 3 y then some (rsM 7 s) else if isK 1 y then some (rsM 5 s) else if isK 2 y then some (rsM 9 s) else none) q12 (fun y hy => by rw [hy]; rfl)
        rw [tK_no (s := { s with mi := s.mi ||| (1 <<< 8) ||| (1 <<< 10) }) q12]
        simp only [Bool.false_eq_true, if_false]
        unfold stp2e
        cases q3 : isK 3 (tkA R s.at') with
        | true =>
          have h4 := h3.yes (f := isK 3) (r1 := rsM 7 s) (isK_noT 3) q3 (fun y hy => by rw [hy]; rfl)
          have h4 : Chn R (fun y => if isSl y then some (rsM 9 s) else behindF (rsM 9 s) y) (20 :: kP s.top.s (opS s.ou).isEmpty) (s.at' + 1) 0 := h4
          rw [tK_yes (s := { s with mi := s.mi ||| (1 <<< 8) ||| (1 <<< 10) ||| (1 <<< 12) }) q3]
          cases qs : isSl (tkA R (s.at' + 1)) with
          | true =>
            have h5 := h4.yes (f := isSl) (r1 := rsM 9 s) rfl qs (fun y hy => by rw [hy]; rfl)
            rw [tSl_yes (s := { s with at' := s.at' + 1, mi := 0 }) qs]
            exact nx_tok (l := 5) h5 (by show s.at' < s.at' + 1 + 1; omega)
          | false =>
            have h5 := h4.no (f := isSl) (F' := stepF (rsM 9 s)) qs (fun y hy => by rw [hy]; rfl)
            rw [tSl_no (s := { s with at' := s.at' + 1, mi := 0 }) qs]
            exact nx_tok (l := 5) h5 (Nat.lt_succ_self _)
        | false =>
          have h4 := h3.no (f := isK 3) (F' := fun y => if isK 1 y then some (rsM 5 s) else if isK 2 y then some (rsM 9 s) else none) q3 (fun y hy => by rw [hy]; rfl)
          rw [tK_no (s := { s with mi := s.mi ||| (1 <<< 8) ||| (1 <<< 10) ||| (1 <<< 12) }) q3]
          simp only [Bool.false_eq_true, if_false]
          cases q1 : isK 1 (tkA R s.at') with
          | true =>
            have h5 := h4.yes (f := isK 1) (r1 := rsM 5 s) (isK_noT 1) q1 (fun y hy => by rw [hy]; rfl)
            have h5 : Chn R (fun y => if isEd y then some (rsM 9 s) else behindF (rsM 9 s) y) (20 :: kP s.top.s (opS s.ou).isEmpty) (s.at' + 1) 0 := h5
            rw [tK_yes (s := { s with mi := s.mi ||| (1 <<< 8) ||| (1 <<< 10) ||| (1 <<< 12) ||| (1 <<< 3) }) q1]
            cases qs : isEd (tkA R (s.at' + 1)) with
            | true =>
              have h6 := h5.yes (f := isEd) (r1 := rsM 9 s) rfl qs (fun y hy => by rw [hy]; rfl)
              rw [tEd_yes (s := { s with at' := s.at' + 1, mi := 0 }) qs]
              exact nx_tok (l := 5) h6 (by show s.at' < s.at' + 1 + 1; omega)
            | false =>
              have h6 := h5.no (f := isEd) (F' := stepF (rsM 9 s)) qs (fun y hy => by rw [hy]; rfl)
              rw [tEd_no (s := { s with at' := s.at' + 1, mi := 0 }) qs]
              exact nx_tok (l := 5) h6 (Nat.lt_succ_self _)
          | false =>
            have h5 := h4.no (f := isK 1) (F' := fun y => if isK 2 y then some (rsM 9 s) else none) q1 (fun y hy => by rw [hy]; rfl)
            rw [tK_no (s := { s with mi := s.mi ||| (1 <<< 8) ||| (1 <<< 10) ||| (1 <<< 12) ||| (1 <<< 3) }) q1]
            simp only [Bool.false_eq_true, if_false]
            cases q2 : isK 2 (tkA R s.at') with
            | true =>
              have h6 := h5.yes (f := isK 2) (r1 := rsM 9 s) (isK_noT 2) q2 (fun y hy => by rw [hy]; rfl)
              rw [tK_yes (s := { s with mi := s.mi ||| (1 <<< 8) ||| (1 <<< 10) ||| (1 <<< 12) ||| (1 <<< 3) ||| (1 <<< 1) }) q2]
              exact nx_tok (l := 5) h6 (Nat.lt_succ_self _)
            | false =>
              have h6 := h5.no (f := isK 2) (F' := fun _ => none) q2 (fun y hy => by rw [hy]; rfl)
              rw [tK_no (s := { s with mi := s.mi ||| (1 <<< 8) ||| (1 <<< 10) ||| (1 <<< 12) ||| (1 <<< 3) ||| (1 <<< 1) }) q2]
              exact nx_no h6
theorem n3 (h : Inv14 R 6 s) : Nxt R 3 s (stp3 R s) := by
  have h : Chn R (fun y => if isK 14 y then some (rsM 3 s) else behindF (rsM 9 s) y) (14 :: kP s.top.s (opS s.ou).isEmpty) s.at' s.mi := h
  unfold stp3
  cases q : isK 14 (tkA R s.at') with
  | true =>
    have h1 := h.yes (f := isK 14) (r1 := rsM 3 s) (isK_noT 14) q (fun y hy => by rw [hy]; rfl)
    have h1 : Chn R (fun y => if isSt y then some (rsM 9 s) else none) [2] (s.at' + 1) 0 := h1
    rw [tK_yes q]
    cases qs : isSt (tkA R (s.at' + 1)) with
    | true =>
      have h2 := h1.yes (f := isSt) (r1 := rsM 9 s) rfl qs (fun y hy => by rw [hy]; rfl)
      rw [tSt_yes (s := { s with at' := s.at' + 1, mi := 0 }) qs]
      exact nx_tok (l := 5) h2 (by show s.at' < s.at' + 1 + 1; omega)
    | false =>
      have h2 := h1.no (f := isSt) (F' := fun _ => none) qs (fun y hy => by rw [hy]; rfl)
      rw [tSt_no (s := { s with at' := s.at' + 1, mi := 0 }) qs]
      exact nx_no h2
  | false =>
    have h1 := h.no (f := isK 14) (F' := stepF (rsM 9 s)) q (fun y hy => by rw [hy]; rfl)
    rw [tK_no q]
    exact nx_lab (l := 5) h1 (Nat.le_refl _) (by decide)
theorem n4 (h : Inv14 R 4 s) : Nxt R 4 s (stp4 R s) := by
  have h : Chn R (fun y => if isK 14 y then some (rsM 2 s) else if isEd y then some (rsM 9 s) else behindF (rsM 9 s) y) (14 :: 20 :: kP s.top.s (opS s.ou).isEmpty) s.at' s.mi := h
  unfold stp4
  cases q : isK 14 (tkA R s.at') with
  | true =>
    have h1 := h.yes (f := isK 14) (r1 := rsM 2 s) (isK_noT 14) q (fun y hy => by rw [hy]; rfl)
    rw [tK_yes q]
    exact nx_tok (l := 2) h1 (Nat.lt_succ_self _)
  | false =>
    have h1 := h.no (f := isK 14) (F' := fun y => if isEd y then some (rsM 9 s) else behindF (rsM 9 s) y) q (fun y hy => by rw [hy]; rfl)
    rw [tK_no q]
    simp only [Bool.false_eq_true, if_false]
    cases qs : isEd (tkA R s.at') with
    | true =>
      have h2 := h1.yes (f := isEd) (r1 := rsM 9 s) rfl qs (fun y hy => by rw [hy]; rfl)
      rw [tEd_yes (s := { s with mi := s.mi ||| (1 <<< 14) }) qs]
      exact nx_tok (l := 5) h2 (Nat.lt_succ_self _)
    | false =>
      have h2 := h1.no (f := isEd) (F' := stepF (rsM 9 s)) qs (fun y hy => by rw [hy]; rfl)
      rw [tEd_no (s := { s with mi := s.mi ||| (1 <<< 14) }) qs]
      exact nx_lab (l := 5) h2 (Nat.le_refl _) (by decide)
end Go.Proofs.YtiemiphlfbaojaaDoor
namespace Go.Proofs.YtiemiphlfbaojaaDoor
open Go.ChangeShapes Go.WideShapes Go.ChangeAt Go.RowKit
variable {R : List Tn} {i m : Nat} {F F' : Tn → Option Rs} {L : List Nat} {s : MS}

/-! Behind a piece; the whole run. -/
def bhE (r : Rs) (y : Tn) : Option Rs :=
  if isK 9 y then (if r.op.isEmpty then none else some ⟨8, r.op.getLastD false, r.op.dropLast⟩)
  else if isK 0 y then (if r.op.isEmpty then some ⟨14, r.sg, r.op⟩ else none)
  else clauseF r y
def bhJ (r : Rs) (y : Tn) : Option Rs := if isK 4 y || isK 5 y || isK 17 y then (if r.sg then none else some ⟨1, r.sg, r.op⟩) else bhE r y
theorem clause_none {r : Rs} {y : Tn} (k : Nat) (hk : k = 0 ∨ k = 4 ∨ k = 5 ∨ k = 9 ∨ k = 17) (h : isK k y = true) : clauseF r y = none := by
  have n : ∀ j, j ≠ k → isK j y = false := fun j hj => isK_ne h hj
  unfold clauseF begunF atomF
  rw [n 15 (by omega), n 16 (by omega), n 6 (by omega), n 1 (by omega), n 2 (by omega), n 3 (by omega), n 8 (by omega), n 10 (by omega), n 12 (by omega)]
  rfl
theorem join_none {r : Rs} {y : Tn} (k : Nat) (hk : k = 4 ∨ k = 5 ∨ k = 17) (h : isK k y = true) : bhE r y = none := by
  have n : ∀ j, j ≠ k → isK j y = false := fun j hj => isK_ne h hj
  unfold bhE
  rw [n 9 (by omega), n 0 (by omega)]
  exact clause_none k (by omega) h
theorem bhJ_signed {r : Rs} (hr : r.sg = true) (y : Tn) : bhJ r y = bhE r y := by
  unfold bhJ
  rw [hr]
  cases q4 : isK 4 y with
  | true => rw [join_none 4 (.inl rfl) q4]; rfl
  | false =>
    cases q5 : isK 5 y with
    | true => rw [join_none 5 (.inr (.inl rfl)) q5]; rfl
    | false =>
      cases q17 : isK 17 y with
      | true => rw [join_none 17 (.inr (.inr rfl)) q17]; rfl
      | false => rfl
theorem n5e (lab : Nat) (hlab : 4 < lrk lab) {t : MS} (h : Chn R (bhE (rsM 9 t)) (kE (opS t.ou).isEmpty) t.at' t.mi) (hl : s.at' ≤ t.at') : Nxt R lab s (stp5e R t) := by
  unfold stp5e
  cases ho : t.ou with
  | nil =>
    rw [ho] at h
    have h : Chn R (bhE ⟨9, t.top.s, []⟩) (0 :: kC) t.at' t.mi := by unfold rsM at h; rw [ho] at h; exact h
    dsimp only
    cases q : isK 0 (tkA R t.at') with
    | true =>
      have h1 := h.yes (f := isK 0) (r1 := ⟨14, t.top.s, []⟩) (isK_noT 0) q (fun y hy => by unfold bhE; rw [isK_ne hy (j := 9) (by decide), hy]; rfl)
      rw [tK_yes q]
      exact Chn.done (s := { t with at' := t.at' + 1, mi := 0 }) h1
    | false =>
      have h1 := h.no (f := isK 0) (F' := stepF ⟨0, t.top.s, []⟩) q (fun y hy => by
        show bhE _ y = clauseF _ y
        unfold bhE
        rw [hy]
        cases q9 : isK 9 y with
        | true => rw [clause_none (r := ⟨0, t.top.s, []⟩) 9 (by omega) q9]; rfl
        | false => rfl)
      rw [tK_no q]
      refine nx_lab (l := 0) ?_ hl (by show 4 < lrk lab; exact hlab)
      show Chn R (stepF ⟨0, t.top.s, opS t.ou⟩) (kS ⟨0, t.top.s, opS t.ou⟩) t.at' _
      rw [ho]
      exact h1
  | cons l r =>
    have eo : opS (l :: r) = opS r ++ [l.s] := by unfold opS; simp
    have ee : (opS r ++ [l.s]).isEmpty = false := by simp
    rw [ho, eo, ee] at h
    have h : Chn R (bhE ⟨9, t.top.s, opS r ++ [l.s]⟩) (9 :: kC) t.at' t.mi := by unfold rsM at h; rw [ho, eo] at h; exact h
    dsimp only
    cases q : isK 9 (tkA R t.at') with
    | true =>
      have h1 := h.yes (f := isK 9) (r1 := ⟨8, l.s, opS r⟩) (isK_noT 9) q (fun y hy => by
        unfold bhE
        rw [hy]
        dsimp only
        rw [ee]
        simp)
      have h1 : Chn R (fun y => if isK 21 y then some ⟨9, l.s, opS r⟩ else behindF ⟨9, l.s, opS r⟩ y) (21 :: kP l.s (opS r).isEmpty) (t.at' + 1) 0 := h1
      rw [tK_yes q]
      cases q2 : isK 21 (tkA R (t.at' + 1)) with
      | true =>
        have h2 := h1.yes (f := isK 21) (r1 := ⟨9, l.s, opS r⟩) (isK_noT 21) q2 (fun y hy => by rw [hy]; rfl)
        rw [tK_yes (s := ({ t with at' := t.at' + 1, mi := 0 } : MS).close' l r) q2]
        exact nx_tok (l := 5) h2 (by show s.at' < t.at' + 1 + 1; omega)
      | false =>
        have h2 := h1.no (f := isK 21) (F' := stepF ⟨9, l.s, opS r⟩) q2 (fun y hy => by rw [hy]; rfl)
        rw [tK_no (s := ({ t with at' := t.at' + 1, mi := 0 } : MS).close' l r) q2]
        exact nx_tok (l := 5) h2 (by show s.at' < t.at' + 1; omega)
    | false =>
      have h1 := h.no (f := isK 9) (F' := stepF ⟨0, t.top.s, opS r ++ [l.s]⟩) q (fun y hy => by
        show bhE _ y = clauseF _ y
        unfold bhE
        rw [hy]
        dsimp only
        rw [ee]
        cases q0 : isK 0 y with
        | true => rw [clause_none (r := ⟨0, t.top.s, opS r ++ [l.s]⟩) 0 (by omega) q0]; rfl
        | false => rfl)
      rw [tK_no q]
      refine nx_lab (l := 0) ?_ hl (by show 4 < lrk lab; exact hlab)
      show Chn R (stepF ⟨0, t.top.s, opS t.ou⟩) (kS ⟨0, t.top.s, opS t.ou⟩) t.at' _
      rw [ho, eo]
      exact h1
theorem n5u (lab : Nat) (hlab : 4 < lrk lab) {t : MS} (h : Chn R (bhJ (rsM 9 t)) (kJ t.top.s (opS t.ou).isEmpty) t.at' t.mi) (hl : s.at' ≤ t.at') : Nxt R lab s (stp5u R t) := by
  unfold stp5u
  cases hs : t.top.s with
  | true =>
    rw [hs] at h
    have e : bhJ (rsM 9 t) = bhE (rsM 9 t) := funext (fun y => bhJ_signed hs y)
    rw [e] at h
    exact n5e lab hlab h hl
  | false =>
    rw [hs] at h
    have h : Chn R (bhJ (rsM 9 t)) (5 :: 4 :: 17 :: kE (opS t.ou).isEmpty) t.at' t.mi := h
    have hF : ∀ y, bhJ (rsM 9 t) y = if isK 5 y then some (rsM 1 t) else if isK 4 y then some (rsM 1 t) else if isK 17 y then some (rsM 1 t) else bhE (rsM 9 t) y := fun y => by
      have hs2 : (rsM 9 t).sg = false := hs
      have er : rsM 1 t = ⟨1, false, opS t.ou⟩ := by unfold rsM; rw [hs]
      unfold bhJ
      rw [hs2, er]
      cases isK 4 y <;> cases isK 5 y <;> cases isK 17 y <;> rfl
    simp only [Bool.false_eq_true, if_false]
    unfold tJoin
    cases q5 : isK 5 (tkA R t.at') with
    | true =>
      have h1 := h.yes (f := isK 5) (r1 := rsM 1 t) (isK_noT 5) q5 (fun y hy => by rw [hF, hy]; rfl)
      rw [or_yes (or_yes (tK_yes q5))]
      exact nx_tok (l := 1) h1 (by show s.at' < t.at' + 1; omega)
    | false =>
      have h1 := h.no (f := isK 5) (F' := fun y => if isK 4 y then some (rsM 1 t) else if isK 17 y then some (rsM 1 t) else bhE (rsM 9 t) y) q5 (fun y hy => by rw [hF, hy]; rfl)
      cases q4 : isK 4 (tkA R t.at') with
      | true =>
        have h2 := h1.yes (f := isK 4) (r1 := rsM 1 t) (isK_noT 4) q4 (fun y hy => by rw [hy]; rfl)
        have e : orT (tK R 5) (tK R 4) t = (true, { t with at' := t.at' + 1, mi := 0 }) := by rw [or_no (tK_no q5), tK_yes (s := { t with mi := t.mi ||| (1 <<< 5) }) q4]
        rw [or_yes e]
        exact nx_tok (l := 1) h2 (by show s.at' < t.at' + 1; omega)
      | false =>
        have h2 := h1.no (f := isK 4) (F' := fun y => if isK 17 y then some (rsM 1 t) else bhE (rsM 9 t) y) q4 (fun y hy => by rw [hy]; rfl)
        have e : orT (tK R 5) (tK R 4) t = (false, { t with mi := t.mi ||| (1 <<< 5) ||| (1 <<< 4) }) := by rw [or_no (tK_no q5), tK_no (s := { t with mi := t.mi ||| (1 <<< 5) }) q4]
        rw [or_no e]
        cases q17 : isK 17 (tkA R t.at') with
        | true =>
          have h3 := h2.yes (f := isK 17) (r1 := rsM 1 t) (isK_noT 17) q17 (fun y hy => by rw [hy]; rfl)
          rw [tK_yes (s := { t with mi := t.mi ||| (1 <<< 5) ||| (1 <<< 4) }) q17]
          exact nx_tok (l := 1) h3 (by show s.at' < t.at' + 1; omega)
        | false =>
          have h3 := h2.no (f := isK 17) (F' := bhE (rsM 9 t)) q17 (fun y hy => by rw [hy]; rfl)
          rw [tK_no (s := { t with mi := t.mi ||| (1 <<< 5) ||| (1 <<< 4) }) q17]
          exact n5e lab hlab (t := { t with mi := t.mi ||| (1 <<< 5) ||| (1 <<< 4) ||| (1 <<< 17) }) h3 hl
theorem n5 (lab : Nat) (hlab : 4 < lrk lab) (h : Inv14 R 9 s) : Nxt R lab s (stp5 R s) := by
  have h : Chn R (fun y => if isK 18 y || isK 19 y then some (rsM 9 s) else bhJ (rsM 9 s) y) (18 :: 19 :: kJ s.top.s (opS s.ou).isEmpty) s.at' s.mi := h
  unfold stp5
  cases q : isK 18 (tkA R s.at') with
  | true =>
    have h1 := h.yes (f := isK 18) (r1 := rsM 9 s) (isK_noT 18) q (fun y hy => by rw [hy]; rfl)
    rw [or_yes (tK_yes q)]
    exact nx_tok (l := 5) h1 (Nat.lt_succ_self _)
  | false =>
    have h1 := h.no (f := isK 18) (F' := fun y => if isK 19 y then some (rsM 9 s) else bhJ (rsM 9 s) y) q (fun y hy => by rw [hy]; rfl)
    rw [or_no (tK_no q)]
    cases q2 : isK 19 (tkA R s.at') with
    | true =>
      have h2 := h1.yes (f := isK 19) (r1 := rsM 9 s) (isK_noT 19) q2 (fun y hy => by rw [hy]; rfl)
      rw [tK_yes (s := { s with mi := s.mi ||| (1 <<< 18) }) q2]
      exact nx_tok (l := 5) h2 (Nat.lt_succ_self _)
    | false =>
      have h2 := h1.no (f := isK 19) (F' := bhJ (rsM 9 s)) q2 (fun y hy => by rw [hy]; rfl)
      rw [tK_no (s := { s with mi := s.mi ||| (1 <<< 18) }) q2]
      exact n5u lab hlab (t := MS.endU { s with mi := s.mi ||| (1 <<< 18) ||| (1 <<< 19) }) h2 (Nat.le_refl _)
theorem cn_big {lab : Nat} (h0 : ¬ lab = 0) (h1 : ¬ lab = 1) (h2 : ¬ lab = 2) (h3 : ¬ lab = 3) (h4 : ¬ lab = 4) : cnL lab = 9 ∧ 4 < lrk lab := by
  match lab with
  | 0 => omega
  | 1 => omega
  | 2 => omega
  | 3 => omega
  | 4 => omega
  | n + 5 =>
    refine ⟨rfl, ?_⟩
    unfold lrk
    repeat' split
    all_goals omega
theorem nxt_stp (lab : Nat) (h : Inv14 R (cnL lab) s) : Nxt R lab s (stpM R lab s) := by
  unfold stpM
  split
  · rename_i e; subst e; exact n0 h
  split
  · rename_i e; subst e; exact n1 h
  split
  · rename_i e; subst e; exact n2 h
  split
  · rename_i e; subst e; exact n3 h
  split
  · rename_i e; subst e; exact n4 h
  · rename_i a b c d e
    obtain ⟨h5, h6⟩ := cn_big a b c d e
    rw [h5] at h
    exact n5 lab h6 h
theorem run_fol : ∀ (f lab : Nat) (s : MS), rkM R lab s < f → Inv14 R (cnL lab) s → FolOK R (runF R f lab s) := by
  intro f
  induction f with
  | zero => intro lab s h; omega
  | succ f ih =>
    intro lab s hr h
    have g := nxt_stp lab h
    unfold Nxt at g
    cases hx : stpM R lab s with
    | mk x s' =>
      rw [hx] at g
      cases x with
      | inl l =>
        rw [runF_go hx]
        exact ih l s' (by have g2 : rkM R l s' < rkM R lab s := g.2; omega) g.1
      | inr b =>
        rw [runF_ret hx]
        exact g
theorem inv_start : Inv14 R (cnL 0) s00 := by
  have h : rfR (R.take 0) = some r00 := by rw [List.take_zero]; rfl
  exact chn_base (r := r00) (Nat.zero_le _) h (by decide)
/-- The document's Follow. -/
def rfF (R : List Tn) : List Int := match rfR R with
  | none => []
  | some r => ((List.range 22).filter (fun k => mayB r k)).map (fun (k : Nat) => (k : Int))
theorem fol_ref (R : List Tn) : folF R = rfF R := by
  have h : FolOK R (runR R) := run_fol _ 0 s00 (by unfold rkM s00 lrk; simp) inv_start
  obtain ⟨h1, h2, h3, -, -⟩ := h
  unfold folF rfF
  cases hb : (runR R).1 with
  | true =>
    rw [show (true || decide ((runR R).2.at' < R.length)) = true from rfl, if_pos rfl]
    rcases h1 hb with e | ⟨r, e, hk⟩
    · rw [e]
    · rw [e]
      dsimp only
      rw [List.filter_eq_nil_iff.2 (fun k hk2 => by rw [hk k (List.mem_range.1 hk2)]; decide)]
      rfl
  | false =>
    by_cases hl : (runR R).2.at' < R.length
    · rw [h2 hb hl, decide_eq_true hl]
      rfl
    · obtain ⟨r, e, hk⟩ := h3 hb hl
      rw [e, decide_eq_false hl]
      rw [show (false || false) = false from rfl, if_neg (by decide)]
      unfold lackL
      dsimp only
      congr 1
      exact List.filter_congr (fun k hk2 => (hk k (List.mem_range.1 hk2)).symm)
end Go.Proofs.YtiemiphlfbaojaaDoor
namespace Go.Proofs.YtiemiphlfbaojaaDoor
open Go.ChangeShapes Go.WideShapes Go.ChangeAt Go.RowKit
variable {R : List Tn} {s : MS}

/-! The nest, by the document's way: of each leaf the groups that it stands in, their NOTs and suffixes. -/
/-- How many boosts and constants stand ahead; the same behind a least or a tilde. -/
def cntL : List Tn → Nat
  | [] => 0
  | y :: r => if isK 18 y || isK 19 y then cntL r + 1 else 0
def sufL : List Tn → Nat
  | [] => 0
  | y :: r => if isK 21 y || isK 20 y then cntL r else cntL (y :: r)
/-- The suffixes of the groups that are open where this row begins, the innermost first. -/
def sfxL : List Tn → List Nat
  | [] => []
  | y :: r => if isK 8 y then (sfxL r).tail else if isK 9 y then sufL r :: sfxL r else sfxL r
def hdC : List Tn → Bool
  | [] => false
  | y :: _ => isK 14 y
/-- The document's nest: k tokens are passed over first. -/
def nsL : List Tn → Nat → Nat → Nat → List Nat → Nat
  | [], _, m, _, _ => m
  | _ :: r, k + 1, m, t, ws => nsL r k m t ws
  | y :: r, 0, m, t, ws =>
    if isK 6 y then nsL r 0 m (t + 1) ws
    else if isK 8 y then nsL r 0 m 0 ((1 + t + (sfxL r).headD 0) :: ws)
    else if isK 9 y then nsL r 0 m t ws.tail
    else if isK 10 y || isK 12 y then nsL r 4 (max m (ws.sum + t + sufL (r.drop 4))) 0 ws
    else if isK 1 y || isK 2 y || isK 3 y then (if hdC r then nsL r 1 m t ws else nsL r 0 (max m (ws.sum + t + sufL r)) 0 ws)
    else nsL r 0 m t ws
theorem ns_skip : ∀ (k : Nat) (T : List Tn) (m t : Nat) (ws : List Nat), nsL T k m t ws = nsL (T.drop k) 0 m t ws := by
  intro k
  induction k with
  | zero => intro T m t ws; rw [List.drop_zero]
  | succ k ih =>
    intro T m t ws
    cases T with
    | nil => rw [List.drop_nil]; rfl
    | cons y r => rw [List.drop_succ_cons, ← ih r m t ws]; rfl
/-- A token that is passed over. -/
def ovB (y : Tn) : Bool := !(isK 6 y || isK 8 y || isK 9 y || isK 10 y || isK 12 y || isK 1 y || isK 2 y || isK 3 y)
theorem ns_over {y : Tn} (h : ovB y = true) (r : List Tn) (m t : Nat) (ws : List Nat) : nsL (y :: r) 0 m t ws = nsL r 0 m t ws := by
  unfold ovB at h
  simp only [Bool.not_eq_true', Bool.or_eq_false_iff] at h
  obtain ⟨⟨⟨⟨⟨⟨⟨h6, h8⟩, h9⟩, h10⟩, h12⟩, h1⟩, h2⟩, h3⟩ := h
  rw [nsL, h6, h8, h9, h10, h12, h1, h2, h3]
  rfl
theorem ov_k {y : Tn} (k : Nat) (h : isK k y = true) (hk : k = 0 ∨ k = 4 ∨ k = 5 ∨ k = 14 ∨ k = 15 ∨ k = 16 ∨ k = 17 ∨ k = 18 ∨ k = 19 ∨ k = 20 ∨ k = 21) : ovB y = true := by
  have n : ∀ j, j ≠ k → isK j y = false := fun j hj => isK_ne h hj
  unfold ovB
  rw [n 6 (by omega), n 8 (by omega), n 9 (by omega), n 10 (by omega), n 12 (by omega), n 1 (by omega), n 2 (by omega), n 3 (by omega)]
  rfl
theorem sfxL_over {y : Tn} (h8 : isK 8 y = false) (h9 : isK 9 y = false) (r : List Tn) : sfxL (y :: r) = sfxL r := by rw [sfxL, h8, h9]; rfl
theorem ov_89 {y : Tn} (h : ovB y = true) : isK 8 y = false ∧ isK 9 y = false := by
  unfold ovB at h
  simp only [Bool.not_eq_true', Bool.or_eq_false_iff] at h
  obtain ⟨⟨⟨⟨⟨⟨⟨_, h8⟩, h9⟩, _⟩, _⟩, _⟩, _⟩, _⟩ := h
  exact ⟨h8, h9⟩
/-- The weights of the open groups; what the levels have come to. -/
def wsM : List Lv → List Nat → List Nat
  | [], _ => []
  | l :: r, F => (1 + l.t + F.headD 0) :: wsM r F.tail
def potM : Nat → List Lv → List Nat → Nat
  | n, [], _ => n
  | n, l :: r, F => max (n + (wsM (l :: r) F).sum) (potM l.n r F.tail)
def dpM (ou : List Lv) (F : List Nat) : Nat := (wsM ou F).sum
theorem pot_up (n k : Nat) (ou : List Lv) (F : List Nat) : potM (max n k) ou F = max (potM n ou F) (k + dpM ou F) := by
  cases ou with
  | nil => unfold dpM; simp [potM, wsM]
  | cons l r => unfold dpM; simp only [potM]; omega
theorem drop_tk {i : Nat} (h : i < R.length) : R.drop i = tkA R i :: R.drop (i + 1) := by
  rw [List.drop_eq_getElem_cons h]
  unfold tkA
  rw [List.getElem?_eq_getElem h]
  rfl
theorem tk_lt {i k : Nat} (h : isK k (tkA R i) = true) : i < R.length := by
  obtain ⟨_, _, _, q⟩ := tk_at (isK_noT k) h
  exact q
/-- What the run's nest N is, at a clause, a unary, a body (i the place, n and t the level's nest and NOTs, ou the outer levels); behind a star or a word; behind a piece. -/
def C0 (R : List Tn) (N i n t : Nat) (ou : List Lv) : Prop := ∀ m, max m (dpM ou (sfxL (R.drop i)) + t) = max (potM n ou (sfxL (R.drop i))) (dpM ou (sfxL (R.drop i)) + t) → N = nsL (R.drop i) 0 m t (wsM ou (sfxL (R.drop i)))
def K5 (R : List Tn) (N i n t : Nat) (ou : List Lv) (c : Nat) : Prop := N = nsL (R.drop i) 0 (max (potM n ou (sfxL (R.drop i))) (dpM ou (sfxL (R.drop i)) + t + c)) 0 (wsM ou (sfxL (R.drop i)))
def C3 (R : List Tn) (N i n t : Nat) (ou : List Lv) : Prop :=
  (hdC (R.drop i) = true → C0 R N (i + 1) n t ou) ∧ (hdC (R.drop i) = false → K5 R N i n t ou (sufL (R.drop i)))
def C5 (R : List Tn) (N i n t : Nat) (ou : List Lv) (ne : Nat) : Prop := K5 R N i n t ou (ne + cntL (R.drop i))
def CL (R : List Tn) (N : Nat) (lab : Nat) (s : MS) : Prop := match lab with
  | 0 => C0 R N s.at' s.top.n s.top.t s.ou
  | 1 => C0 R N s.at' s.top.n s.top.t s.ou
  | 2 => C0 R N s.at' s.top.n s.top.t s.ou
  | 3 => C3 R N s.at' s.top.n s.top.t s.ou
  | 4 => C3 R N s.at' s.top.n s.top.t s.ou
  | _ => C5 R N s.at' s.top.n s.top.t s.ou s.ne
/-- A row all of which is taken. -/
theorem all_ok (hOK : rfR R ≠ none) {a : Nat} (h : Inv14 R a s) (hl : s.at' < R.length) : (stepF (rsM a s) (tkA R s.at')).isSome = true := by
  obtain ⟨r, h1, h2, _⟩ := h.run
  have hy : R[s.at']? = some R[s.at'] := List.getElem?_eq_getElem hl
  have et : tkA R s.at' = R[s.at'] := by unfold tkA; rw [hy]; rfl
  rw [et, ← h2 _ hy]
  cases hq : stepF r R[s.at'] with
  | some _ => rfl
  | none =>
    exfalso
    apply hOK
    refine rf_take (i := s.at' + 1) ?_
    rw [rf_next hy, h1]
    exact hq
theorem nine_no {r : Rs} {y : Tn} (k : Nat) (h : isK k y = true) (hk : k = 7 ∨ k = 11 ∨ k = 13 ∨ k = 14 ∨ k = 20 ∨ k = 21) : behindF r y = none := by
  have n : ∀ j, j ≠ k → isK j y = false := fun j hj => isK_ne h hj
  unfold behindF clauseF begunF atomF
  rw [n 18 (by omega), n 19 (by omega), n 4 (by omega), n 5 (by omega), n 17 (by omega), n 9 (by omega), n 0 (by omega), n 15 (by omega), n 16 (by omega), n 6 (by omega), n 1 (by omega), n 2 (by omega), n 3 (by omega), n 8 (by omega), n 10 (by omega), n 12 (by omega)]
  rfl
/-- Behind a piece no least, no tilde, no colon. -/
theorem five_no (hOK : rfR R ≠ none) (h : Inv14 R 9 s) (k : Nat) (hk : k = 7 ∨ k = 11 ∨ k = 13 ∨ k = 14 ∨ k = 20 ∨ k = 21) : isK k (tkA R s.at') = false := by
  cases q : isK k (tkA R s.at') with
  | false => rfl
  | true =>
    have := all_ok hOK h (tk_lt q)
    have e : stepF (rsM 9 s) (tkA R s.at') = none := nine_no k q hk
    rw [e] at this
    cases this
theorem five_suf (hOK : rfR R ≠ none) (h : Inv14 R 9 s) : sufL (R.drop s.at') = cntL (R.drop s.at') ∧ hdC (R.drop s.at') = false := by
  rcases Nat.lt_or_ge s.at' R.length with q | q
  · rw [drop_tk q]
    refine ⟨?_, five_no hOK h 14 (by omega)⟩
    rw [sufL, five_no hOK h 21 (by omega), five_no hOK h 20 (by omega)]
    rfl
  · rw [List.drop_of_length_le q]
    exact ⟨rfl, rfl⟩
end Go.Proofs.YtiemiphlfbaojaaDoor
namespace Go.Proofs.YtiemiphlfbaojaaDoor
open Go.ChangeShapes Go.WideShapes Go.ChangeAt Go.RowKit
variable {R : List Tn} {s : MS} {N i n t ne c : Nat} {ou : List Lv}

/-! One token more, for the nest. -/
theorem sf_over (hi : i < R.length) (h8 : isK 8 (tkA R i) = false) (h9 : isK 9 (tkA R i) = false) : sfxL (R.drop i) = sfxL (R.drop (i + 1)) := by
  rw [drop_tk hi, sfxL_over h8 h9]
theorem c0_over (hi : i < R.length) (h : ovB (tkA R i) = true) (hc : C0 R N (i + 1) n t ou) : C0 R N i n t ou := by
  obtain ⟨h8, h9⟩ := ov_89 h
  intro m hm
  rw [sf_over hi h8 h9] at hm ⊢
  rw [drop_tk hi, ns_over h]
  exact hc m hm
theorem k5_over (hi : i < R.length) (h : ovB (tkA R i) = true) (hc : K5 R N (i + 1) n t ou c) : K5 R N i n t ou c := by
  obtain ⟨h8, h9⟩ := ov_89 h
  unfold K5
  rw [sf_over hi h8 h9, drop_tk hi, ns_over h]
  exact hc
theorem c0_not (h : isK 6 (tkA R i) = true) (hc : C0 R N (i + 1) n (t + 1) ou) : C0 R N i n t ou := by
  have hi := tk_lt h
  intro m hm
  rw [sf_over hi (isK_ne h (by decide)) (isK_ne h (by decide))] at hm ⊢
  rw [drop_tk hi]
  have e : nsL (tkA R i :: R.drop (i + 1)) 0 m t (wsM ou (sfxL (R.drop (i + 1)))) = nsL (R.drop (i + 1)) 0 m (t + 1) (wsM ou (sfxL (R.drop (i + 1)))) := by rw [nsL, h]; rfl
  rw [e]
  exact hc m (by omega)
theorem c0_open (b : Bool) (h : isK 8 (tkA R i) = true) (hc : C0 R N (i + 1) 0 0 (⟨n, t, b⟩ :: ou)) : C0 R N i n t ou := by
  have hi := tk_lt h
  intro m hm
  have es : sfxL (R.drop i) = (sfxL (R.drop (i + 1))).tail := by rw [drop_tk hi, sfxL, h]; rfl
  rw [es] at hm ⊢
  rw [drop_tk hi]
  generalize hF : sfxL (R.drop (i + 1)) = F at *
  have e : nsL (tkA R i :: R.drop (i + 1)) 0 m t (wsM ou F.tail) = nsL (R.drop (i + 1)) 0 m 0 (wsM (⟨n, t, b⟩ :: ou) F) := by
    rw [nsL, isK_ne h (j := 6) (by decide), h, hF]; rfl
  rw [e]
  have hc := hc m
  rw [hF] at hc
  refine hc ?_
  have ed : dpM (⟨n, t, b⟩ :: ou) F = 1 + t + F.headD 0 + dpM ou F.tail := by unfold dpM; rw [wsM, List.sum_cons]
  have ep : potM 0 (⟨n, t, b⟩ :: ou) F = max (0 + dpM (⟨n, t, b⟩ :: ou) F) (potM n ou F.tail) := rfl
  rw [ep]
  omega
theorem c0_leaf (k : Nat) (hk : k = 1 ∨ k = 2 ∨ k = 3) (h : isK k (tkA R i) = true) (hd : hdC (R.drop (i + 1)) = false) (hc : K5 R N (i + 1) n t ou (sufL (R.drop (i + 1)))) : C0 R N i n t ou := by
  have hi := tk_lt h
  have nk : ∀ j, j ≠ k → isK j (tkA R i) = false := fun j hj => isK_ne h hj
  intro m hm
  rw [sf_over hi (nk 8 (by omega)) (nk 9 (by omega))] at hm ⊢
  rw [drop_tk hi]
  have hkk : (isK 1 (tkA R i) || isK 2 (tkA R i) || isK 3 (tkA R i)) = true := by rcases hk with rfl | rfl | rfl <;> rw [h] <;> simp
  have e : nsL (tkA R i :: R.drop (i + 1)) 0 m t (wsM ou (sfxL (R.drop (i + 1)))) = nsL (R.drop (i + 1)) 0 (max m ((wsM ou (sfxL (R.drop (i + 1)))).sum + t + sufL (R.drop (i + 1)))) 0 (wsM ou (sfxL (R.drop (i + 1)))) := by
    rw [nsL, nk 6 (by omega), nk 8 (by omega), nk 9 (by omega), nk 10 (by omega), nk 12 (by omega), hkk, hd]; rfl
  rw [e]
  unfold K5 at hc
  have em : max m ((wsM ou (sfxL (R.drop (i + 1)))).sum + t + sufL (R.drop (i + 1))) = max (potM n ou (sfxL (R.drop (i + 1)))) (dpM ou (sfxL (R.drop (i + 1))) + t + sufL (R.drop (i + 1))) := by
    have : (wsM ou (sfxL (R.drop (i + 1)))).sum = dpM ou (sfxL (R.drop (i + 1))) := rfl
    rw [this]
    omega
  rw [em]
  exact hc
theorem c0_c3 (k : Nat) (hk : k = 1 ∨ k = 2) (h : isK k (tkA R i) = true) (hc : C3 R N (i + 1) n t ou) : C0 R N i n t ou := by
  cases hd : hdC (R.drop (i + 1)) with
  | false => exact c0_leaf k (by omega) h hd (hc.2 hd)
  | true =>
    have hi := tk_lt h
    have nk : ∀ j, j ≠ k → isK j (tkA R i) = false := fun j hj => isK_ne h hj
    have hc := hc.1 hd
    have hi2 : i + 1 < R.length := by
      rcases Nat.lt_or_ge (i + 1) R.length with q | q
      · exact q
      · rw [List.drop_of_length_le q] at hd; cases hd
    have h14 : isK 14 (tkA R (i + 1)) = true := by rw [drop_tk hi2] at hd; exact hd
    intro m hm
    rw [sf_over hi (nk 8 (by omega)) (nk 9 (by omega)), sf_over hi2 (isK_ne h14 (by decide)) (isK_ne h14 (by decide))] at hm ⊢
    have hkk : (isK 1 (tkA R i) || isK 2 (tkA R i) || isK 3 (tkA R i)) = true := by rcases hk with rfl | rfl <;> rw [h] <;> simp
    have e : nsL (R.drop i) 0 m t (wsM ou (sfxL (R.drop (i + 1 + 1)))) = nsL (R.drop (i + 1 + 1)) 0 m t (wsM ou (sfxL (R.drop (i + 1 + 1)))) := by
      have e2 : nsL (tkA R i :: R.drop (i + 1)) 0 m t (wsM ou (sfxL (R.drop (i + 1 + 1)))) = nsL (R.drop (i + 1)) 1 m t (wsM ou (sfxL (R.drop (i + 1 + 1)))) := by
        rw [nsL, nk 6 (by omega), nk 8 (by omega), nk 9 (by omega), nk 10 (by omega), nk 12 (by omega), hkk, hd]; rfl
      rw [drop_tk hi, e2, ns_skip, List.drop_drop]
    rw [e]
    exact hc m hm
theorem c3_colon (h : isK 14 (tkA R i) = true) (hc : C0 R N (i + 1) n t ou) : C3 R N i n t ou := by
  have hi := tk_lt h
  refine ⟨fun _ => hc, fun hd => ?_⟩
  rw [drop_tk hi] at hd
  have hd : isK 14 (tkA R i) = false := hd
  rw [h] at hd
  cases hd
theorem c3_leaf (h : isK 14 (tkA R i) = false) (hc : K5 R N i n t ou (sufL (R.drop i))) : C3 R N i n t ou := by
  refine ⟨fun hd => ?_, fun _ => hc⟩
  exfalso
  rcases Nat.lt_or_ge i R.length with q | q
  · rw [drop_tk q] at hd
    have hd : isK 14 (tkA R i) = true := hd
    rw [h] at hd
    cases hd
  · rw [List.drop_of_length_le q] at hd
    cases hd
theorem c0_span (h : isK 10 (tkA R i) = true ∨ isK 12 (tkA R i) = true) (hl : i + 4 < R.length) (h89 : ∀ j, j = 1 ∨ j = 2 ∨ j = 3 ∨ j = 4 → isK 8 (tkA R (i + j)) = false ∧ isK 9 (tkA R (i + j)) = false) (hc : K5 R N (i + 5) n t ou (sufL (R.drop (i + 5)))) : C0 R N i n t ou := by
  have hi : i < R.length := by omega
  have nk : ∀ j, j ≠ 10 → j ≠ 12 → isK j (tkA R i) = false := fun j h1 h2 => by
    rcases h with h | h
    · exact isK_ne h h1
    · exact isK_ne h h2
  have hkk : (isK 10 (tkA R i) || isK 12 (tkA R i)) = true := by rcases h with h | h <;> rw [h] <;> simp
  have es : sfxL (R.drop i) = sfxL (R.drop (i + 5)) := by
    have a1 := h89 1 (by omega)
    have a2 := h89 2 (by omega)
    have a3 := h89 3 (by omega)
    have a4 := h89 4 (by omega)
    rw [sf_over hi (nk 8 (by omega) (by omega)) (nk 9 (by omega) (by omega)), sf_over (i := i + 1) (by omega) a1.1 a1.2, sf_over (i := i + 1 + 1) (by omega) a2.1 a2.2, sf_over (i := i + 1 + 1 + 1) (by omega) a3.1 a3.2, sf_over (i := i + 1 + 1 + 1 + 1) (by omega) a4.1 a4.2]
  intro m hm
  rw [es] at hm ⊢
  have e : nsL (R.drop i) 0 m t (wsM ou (sfxL (R.drop (i + 5)))) = nsL (R.drop (i + 5)) 0 (max m ((wsM ou (sfxL (R.drop (i + 5)))).sum + t + sufL (R.drop (i + 5)))) 0 (wsM ou (sfxL (R.drop (i + 5)))) := by
    have e2 : nsL (tkA R i :: R.drop (i + 1)) 0 m t (wsM ou (sfxL (R.drop (i + 5)))) = nsL (R.drop (i + 1)) 4 (max m ((wsM ou (sfxL (R.drop (i + 5)))).sum + t + sufL ((R.drop (i + 1)).drop 4))) 0 (wsM ou (sfxL (R.drop (i + 5)))) := by
      rw [nsL, nk 6 (by omega) (by omega), nk 8 (by omega) (by omega), nk 9 (by omega) (by omega), hkk]; rfl
    rw [drop_tk hi, e2, ns_skip, List.drop_drop, show i + 1 + 4 = i + 5 by omega]
  rw [e]
  unfold K5 at hc
  have em : max m ((wsM ou (sfxL (R.drop (i + 5)))).sum + t + sufL (R.drop (i + 5))) = max (potM n ou (sfxL (R.drop (i + 5)))) (dpM ou (sfxL (R.drop (i + 5))) + t + sufL (R.drop (i + 5))) := by
    have : (wsM ou (sfxL (R.drop (i + 5)))).sum = dpM ou (sfxL (R.drop (i + 5))) := rfl
    rw [this]
    omega
  rw [em]
  exact hc
theorem c5_suffix (h : (isK 18 (tkA R i) || isK 19 (tkA R i)) = true) (hc : C5 R N (i + 1) n t ou (ne + 1)) : C5 R N i n t ou ne := by
  have hov : ovB (tkA R i) = true ∧ i < R.length := by
    rw [Bool.or_eq_true] at h
    rcases h with h | h
    · exact ⟨ov_k 18 h (by omega), tk_lt h⟩
    · exact ⟨ov_k 19 h (by omega), tk_lt h⟩
  have e : cntL (R.drop i) = cntL (R.drop (i + 1)) + 1 := by rw [drop_tk hov.2, cntL, h]; rfl
  unfold C5 at *
  rw [e]
  refine k5_over hov.2 hov.1 ?_
  rw [show ne + (cntL (R.drop (i + 1)) + 1) = ne + 1 + cntL (R.drop (i + 1)) by omega]
  exact hc
theorem cnt_none (h18 : isK 18 (tkA R i) = false) (h19 : isK 19 (tkA R i) = false) : cntL (R.drop i) = 0 := by
  rcases Nat.lt_or_ge i R.length with q | q
  · rw [drop_tk q, cntL, h18, h19]; rfl
  · rw [List.drop_of_length_le q]; rfl
theorem c5_end (h18 : isK 18 (tkA R i) = false) (h19 : isK 19 (tkA R i) = false) (hc : C0 R N i (max n (ne + t)) 0 ou) : C5 R N i n t ou ne := by
  have h1 := hc (potM (max n (ne + t)) ou (sfxL (R.drop i))) rfl
  unfold C5 K5
  rw [cnt_none h18 h19]
  rw [pot_up] at h1
  rw [show dpM ou (sfxL (R.drop i)) + t + (ne + 0) = ne + t + dpM ou (sfxL (R.drop i)) by omega]
  exact h1
theorem c5_close {l : Lv} {r : List Lv} (h : isK 9 (tkA R i) = true) (hc : K5 R N (i + 1) l.n l.t r (max n (ne + t) + 1 + sufL (R.drop (i + 1)))) : C5 R N i n t (l :: r) ne := by
  have hi := tk_lt h
  have nk : ∀ j, j ≠ 9 → isK j (tkA R i) = false := fun j hj => isK_ne h hj
  have es : sfxL (R.drop i) = sufL (R.drop (i + 1)) :: sfxL (R.drop (i + 1)) := by rw [drop_tk hi, sfxL, nk 8 (by omega), h]; rfl
  unfold C5 K5 at *
  rw [cnt_none (nk 18 (by omega)) (nk 19 (by omega)), es]
  generalize hS : sufL (R.drop (i + 1)) = S at *
  generalize hF : sfxL (R.drop (i + 1)) = F at *
  have e2 : ∀ m ws, nsL (R.drop i) 0 m 0 ws = nsL (R.drop (i + 1)) 0 m 0 ws.tail := fun m ws => by rw [drop_tk hi, nsL, nk 6 (by omega), nk 8 (by omega), h]; rfl
  rw [e2]
  have ews : (wsM (l :: r) (S :: F)).tail = wsM r F := rfl
  have ed : dpM (l :: r) (S :: F) = 1 + l.t + S + dpM r F := by unfold dpM; rw [wsM, List.sum_cons]; rfl
  have ep : potM n (l :: r) (S :: F) = max (n + dpM (l :: r) (S :: F)) (potM l.n r F) := rfl
  rw [ews, ep, ed]
  have em : max (max (n + (1 + l.t + S + dpM r F)) (potM l.n r F)) (1 + l.t + S + dpM r F + t + (ne + 0)) = max (potM l.n r F) (dpM r F + l.t + (max n (ne + t) + 1 + S)) := by omega
  rw [em]
  exact hc
theorem c5_done (h : isK 0 (tkA R i) = true) (hl : i + 1 = R.length) : C5 R (max n (ne + t)) i n t [] ne := by
  have hi := tk_lt h
  have nk : ∀ j, j ≠ 0 → isK j (tkA R i) = false := fun j hj => isK_ne h hj
  unfold C5 K5
  rw [cnt_none (nk 18 (by omega)) (nk 19 (by omega)), drop_tk hi, ns_over (ov_k 0 h (by omega)), List.drop_of_length_le (by omega)]
  show max n (ne + t) = max n (0 + t + (ne + 0))
  omega
end Go.Proofs.YtiemiphlfbaojaaDoor
namespace Go.Proofs.YtiemiphlfbaojaaDoor
open Go.ChangeShapes Go.WideShapes Go.ChangeAt Go.RowKit
variable {R : List Tn} {s : MS}

/-! The recogniser's nest is the document's. -/
theorem side_one (h : (tSide R s).1 = true) : (tSide R s).2.at' = s.at' + 1 ∧ isK 8 (tkA R s.at') = false ∧ isK 9 (tkA R s.at') = false := by
  unfold tSide at h ⊢
  cases q1 : isK 1 (tkA R s.at') with
  | true =>
    rw [or_yes (or_yes (tK_yes q1))]
    exact ⟨rfl, isK_ne q1 (by decide), isK_ne q1 (by decide)⟩
  | false =>
    cases q3 : isK 3 (tkA R s.at') with
    | true =>
      have e : orT (tK R 1) (tK R 3) s = (true, { s with at' := s.at' + 1, mi := 0 }) := by rw [or_no (tK_no q1), tK_yes (s := { s with mi := s.mi ||| (1 <<< 1) }) q3]
      rw [or_yes e]
      exact ⟨rfl, isK_ne q3 (by decide), isK_ne q3 (by decide)⟩
    | false =>
      have e : orT (tK R 1) (tK R 3) s = (false, { s with mi := s.mi ||| (1 <<< 1) ||| (1 <<< 3) }) := by rw [or_no (tK_no q1), tK_no (s := { s with mi := s.mi ||| (1 <<< 1) }) q3]
      rw [or_no e] at h ⊢
      cases qs : isSt (tkA R s.at') with
      | true =>
        rw [tSt_yes (s := { s with mi := s.mi ||| (1 <<< 1) ||| (1 <<< 3) }) qs]
        exact ⟨rfl, isK_ne (st_k qs) (by decide), isK_ne (st_k qs) (by decide)⟩
      | false =>
        rw [tSt_no (s := { s with mi := s.mi ||| (1 <<< 1) ||| (1 <<< 3) }) qs] at h
        cases h
theorem k_one {k : Nat} (h : (tK R k s).1 = true) : (tK R k s).2.at' = s.at' + 1 ∧ isK k (tkA R s.at') = true := by
  have q : isK k (tkA R s.at') = true := h
  rw [tK_yes q]
  exact ⟨rfl, q⟩
theorem sides_at (h : (tSides R s).1 = true) : (tSides R s).2.at' = s.at' + 4 ∧ ∀ j, j = 0 ∨ j = 1 ∨ j = 2 ∨ j = 3 → isK 8 (tkA R (s.at' + j)) = false ∧ isK 9 (tkA R (s.at' + j)) = false := by
  have key : ∀ (p q : MS → Bool × MS) (t : MS), (andT p q t).1 = true → (p t).1 = true ∧ (q (p t).2).1 = true ∧ (andT p q t) = q (p t).2 := fun p q t ht => by
    unfold andT at ht ⊢
    cases e : (p t).1 with
    | true => rw [e] at ht; exact ⟨rfl, ht, rfl⟩
    | false => rw [e] at ht; rw [if_neg (by decide)] at ht; rw [e] at ht; cases ht
  obtain ⟨a1, a2, a3⟩ := key _ _ _ h
  obtain ⟨b1, b2, b3⟩ := key _ _ _ a1
  obtain ⟨c1, c2, c3⟩ := key _ _ _ b1
  obtain ⟨x1, x2, x3⟩ := side_one c1
  obtain ⟨y1, y2⟩ := k_one c2
  rw [c3] at b2 b3
  obtain ⟨z1, z2, z3⟩ := side_one b2
  rw [b3] at a2 a3
  have hl : ∀ t : MS, (orT (tK R 11) (tK R 13) t).1 = true → (orT (tK R 11) (tK R 13) t).2.at' = t.at' + 1 ∧ isK 8 (tkA R t.at') = false ∧ isK 9 (tkA R t.at') = false := fun t ht => by
    cases q : isK 11 (tkA R t.at') with
    | true => rw [or_yes (tK_yes q)]; exact ⟨rfl, isK_ne q (by decide), isK_ne q (by decide)⟩
    | false =>
      rw [or_no (tK_no q)] at ht ⊢
      have q2 : isK 13 (tkA R t.at') = true := ht
      rw [tK_yes (s := { t with mi := t.mi ||| (1 <<< 11) }) q2]
      exact ⟨rfl, isK_ne q2 (by decide), isK_ne q2 (by decide)⟩
  obtain ⟨u1, u2, u3⟩ := hl _ a2
  have e : tSides R s = orT (tK R 11) (tK R 13) _ := a3
  rw [e]
  rw [z1, y1, x1] at u1 u2 u3
  rw [y1, x1] at z1 z2 z3
  rw [x1] at y1 y2
  refine ⟨by rw [u1], fun j hj => ?_⟩
  rcases hj with rfl | rfl | rfl | rfl
  · exact ⟨x2, x3⟩
  · exact ⟨isK_ne y2 (by decide), isK_ne y2 (by decide)⟩
  · exact ⟨z2, z3⟩
  · exact ⟨u2, u3⟩
theorem cl_run (Z : Bool × MS) (hZ1 : Z.1 = true) (hZ2 : Z.2.at' = R.length) (hOK : rfR R ≠ none) : ∀ (f lab : Nat) (s : MS), rkM R lab s < f → Inv14 R (cnL lab) s → (lab < 5 → s.ne = 0) → Z = runF R f lab s → CL R Z.2.top.n lab s := by
  intro f
  induction f with
  | zero => intro lab s h; omega
  | succ f ih =>
    intro lab s hr hI hN hZ
    have key : ∀ (l : Nat) (s' : MS), stpM R lab s = (.inl l, s') → (l < 5 → s'.ne = 0) → CL R Z.2.top.n l s' ∧ Inv14 R (cnL l) s' := by
      intro l s' hx hn
      have g := nxt_stp lab hI
      rw [hx] at g
      have g1 : Inv14 R (cnL l) s' := g.1
      have g2 : rkM R l s' < rkM R lab s := g.2
      exact ⟨ih l s' (by omega) g1 hn (by rw [hZ, runF_go hx]), g1⟩
    have noR : ∀ s', stpM R lab s = (.inr false, s') → False := by
      intro s' hx
      rw [hZ, runF_ret hx] at hZ1
      cases hZ1
    have yesR : ∀ s', stpM R lab s = (.inr true, s') → Z.2 = s' := by
      intro s' hx
      rw [hZ, runF_ret hx]
    clear ih hr hZ
    match lab, hI, hN, key, noR, yesR with
    | 0, hI, hN, key, noR, yesR =>
      have hne := hN (by decide)
      cases q15 : isK 15 (tkA R s.at') with
      | true =>
        have hx : stpM R 0 s = (.inl 1, { s with at' := s.at' + 1, mi := 0, top := { s.top with s := true } }) := by show stp0 R s = _; unfold stp0; rw [or_yes (tK_yes q15)]
        exact c0_over (tk_lt q15) (ov_k 15 q15 (by omega)) (key _ _ hx (fun _ => hne)).1
      | false =>
        cases q16 : isK 16 (tkA R s.at') with
        | true =>
          have hx : stpM R 0 s = (.inl 1, { s with at' := s.at' + 1, mi := 0, top := { s.top with s := true } }) := by show stp0 R s = _; unfold stp0; rw [or_no (tK_no q15), tK_yes (s := { s with mi := s.mi ||| (1 <<< 15) }) q16]
          exact c0_over (tk_lt q16) (ov_k 16 q16 (by omega)) (key _ _ hx (fun _ => hne)).1
        | false =>
          have hx : stpM R 0 s = (.inl 1, { s with mi := s.mi ||| (1 <<< 15) ||| (1 <<< 16), top := { s.top with s := false } }) := by show stp0 R s = _; unfold stp0; rw [or_no (tK_no q15), tK_no (s := { s with mi := s.mi ||| (1 <<< 15) }) q16]
          exact (key _ _ hx (fun _ => hne)).1
    | 1, hI, hN, key, noR, yesR =>
      have hne := hN (by decide)
      cases q6 : isK 6 (tkA R s.at') with
      | true =>
        have hx : stpM R 1 s = (.inl 1, { s with at' := s.at' + 1, mi := 0, top := { s.top with t := s.top.t + 1 } }) := by show stp1 R s = _; unfold stp1; rw [tK_yes q6]; rfl
        exact c0_not q6 (key _ _ hx (fun _ => hne)).1
      | false =>
        cases qs : isSt (tkA R s.at') with
        | true =>
          have hx : stpM R 1 s = (.inl 3, { s with at' := s.at' + 1, mi := 0 }) := by show stp1 R s = _; unfold stp1; rw [tK_no q6, tSt_yes (s := { s with mi := s.mi ||| (1 <<< 6) }) qs]; rfl
          exact c0_c3 2 (.inr rfl) (st_k qs) (key _ _ hx (fun _ => hne)).1
        | false =>
          cases q1 : isK 1 (tkA R s.at') with
          | true =>
            have hx : stpM R 1 s = (.inl 4, { s with at' := s.at' + 1, mi := 0 }) := by show stp1 R s = _; unfold stp1; rw [tK_no q6, tSt_no (s := { s with mi := s.mi ||| (1 <<< 6) }) qs, tK_yes (s := { s with mi := s.mi ||| (1 <<< 6) ||| (1 <<< 2) }) q1]; rfl
            exact c0_c3 1 (.inl rfl) q1 (key _ _ hx (fun _ => hne)).1
          | false =>
            have hx : stpM R 1 s = (.inl 2, { s with mi := s.mi ||| (1 <<< 6) ||| (1 <<< 2) ||| (1 <<< 1) }) := by show stp1 R s = _; unfold stp1; rw [tK_no q6, tSt_no (s := { s with mi := s.mi ||| (1 <<< 6) }) qs, tK_no (s := { s with mi := s.mi ||| (1 <<< 6) ||| (1 <<< 2) }) q1]; rfl
            exact (key _ _ hx (fun _ => hne)).1
    | 2, hI, hN, key, noR, yesR =>
      have hne := hN (by decide)
      have span : ∀ (t : MS), t.at' = s.at' + 1 → t.top = s.top → t.ou = s.ou → t.ne = 0 → Inv14 R 10 t → (isK 10 (tkA R s.at') = true ∨ isK 12 (tkA R s.at') = true) → stpM R 2 s = stpS R t → CL R Z.2.top.n 2 s := by
        intro t ht1 ht2 ht3 ht4 hti hk hx
        have g := sides_any hti
        unfold stpS at hx
        cases e : (tSides R t).1 with
        | false => rw [e] at hx; exact (noR _ hx).elim
        | true =>
          rw [e] at hx
          obtain ⟨_, _, g2, g3, g4⟩ := g.1 e
          obtain ⟨a1, a2⟩ := sides_at e
          obtain ⟨k1, k2⟩ := key _ _ hx (fun h => absurd h (by decide))
          obtain ⟨f1, _⟩ := five_suf hOK k2
          have k1 : C5 R Z.2.top.n (tSides R t).2.at' (tSides R t).2.top.n (tSides R t).2.top.t (tSides R t).2.ou (tSides R t).2.ne := k1
          have hle := k2.le
          rw [a1, ht1] at f1 k1 hle
          rw [g2, g3, g4, ht2, ht3, ht4] at k1
          unfold C5 at k1
          rw [Nat.zero_add, ← f1] at k1
          refine c0_span hk (by omega) (fun j hj => ?_) k1
          have := a2 (j - 1) (by omega)
          rw [ht1, show s.at' + 1 + (j - 1) = s.at' + j by omega] at this
          exact this
      cases q8 : isK 8 (tkA R s.at') with
      | true =>
        have hx : stpM R 2 s = (.inl 0, ({ s with at' := s.at' + 1, mi := 0 } : MS).open') := by show stp2 R s = _; unfold stp2; rw [tK_yes q8]; rfl
        exact c0_open s.top.s q8 (key _ _ hx (fun _ => hne)).1
      | false =>
        cases q10 : isK 10 (tkA R s.at') with
        | true =>
          have h1 : Chn R (stepF (rsM 10 s)) (kS (rsM 10 s)) (s.at' + 1) 0 := by
            have h : Chn R (stepF (rsM 2 s)) (kS (rsM 2 s)) s.at' s.mi := hI
            exact h.yes (f := isK 10) (isK_noT 10) q10 (fun y hy => by show begunF _ y true = _; rw [begun_2, isK_ne hy (j := 8) (by decide), hy]; rfl)
          exact span { s with at' := s.at' + 1, mi := 0 } rfl rfl rfl hne h1 (.inl q10) (by show stp2 R s = _; unfold stp2; rw [tK_no q8, tK_yes (s := { s with mi := s.mi ||| (1 <<< 8) }) q10]; rfl)
        | false =>
          cases q12 : isK 12 (tkA R s.at') with
          | true =>
            have h1 : Chn R (stepF (rsM 10 s)) (kS (rsM 10 s)) (s.at' + 1) 0 := by
              have h : Chn R (stepF (rsM 2 s)) (kS (rsM 2 s)) s.at' s.mi := hI
              exact h.yes (f := isK 12) (isK_noT 12) q12 (fun y hy => by show begunF _ y true = _; rw [begun_2, isK_ne hy (j := 8) (by decide), isK_ne hy (j := 10) (by decide), hy]; rfl)
            exact span { s with at' := s.at' + 1, mi := 0 } rfl rfl rfl hne h1 (.inr q12) (by show stp2 R s = _; unfold stp2; rw [tK_no q8, tK_no (s := { s with mi := s.mi ||| (1 <<< 8) }) q10, tK_yes (s := { s with mi := s.mi ||| (1 <<< 8) ||| (1 <<< 10) }) q12]; rfl)
          | false =>
            have h2e : ∀ X, stp2e R { s with mi := s.mi ||| (1 <<< 8) ||| (1 <<< 10) ||| (1 <<< 12) } = X → stpM R 2 s = X := fun X hX => by show stp2 R s = _; unfold stp2; rw [tK_no q8, tK_no (s := { s with mi := s.mi ||| (1 <<< 8) }) q10, tK_no (s := { s with mi := s.mi ||| (1 <<< 8) ||| (1 <<< 10) }) q12]; exact hX
            cases q3 : isK 3 (tkA R s.at') with
            | true =>
              cases qs : isSl (tkA R (s.at' + 1)) with
              | true =>
                have hx : stpM R 2 s = (.inl 5, { s with at' := s.at' + 1 + 1, mi := 0 }) := h2e _ (by unfold stp2e; rw [tK_yes (s := { s with mi := s.mi ||| (1 <<< 8) ||| (1 <<< 10) ||| (1 <<< 12) }) q3, tSl_yes (s := { s with at' := s.at' + 1, mi := 0 }) qs]; rfl)
                have k20 := sl_k qs
                have k1 : K5 R Z.2.top.n (s.at' + 1 + 1) s.top.n s.top.t s.ou (s.ne + cntL (R.drop (s.at' + 1 + 1))) := (key _ _ hx (fun h => absurd h (by decide))).1
                rw [hne, Nat.zero_add] at k1
                have hi1 := tk_lt k20
                refine c0_leaf 3 (by omega) q3 (by rw [drop_tk hi1]; exact isK_ne k20 (by decide)) ?_
                rw [show sufL (R.drop (s.at' + 1)) = cntL (R.drop (s.at' + 1 + 1)) by rw [drop_tk hi1, sufL, isK_ne k20 (j := 21) (by decide), k20]; rfl]
                exact k5_over hi1 (ov_k 20 k20 (by omega)) k1
              | false =>
                have hx : stpM R 2 s = (.inl 5, { s with at' := s.at' + 1, mi := 0 ||| (1 <<< 20) }) := h2e _ (by unfold stp2e; rw [tK_yes (s := { s with mi := s.mi ||| (1 <<< 8) ||| (1 <<< 10) ||| (1 <<< 12) }) q3, tSl_no (s := { s with at' := s.at' + 1, mi := 0 }) qs]; rfl)
                obtain ⟨k1, k2⟩ := key _ _ hx (fun h => absurd h (by decide))
                obtain ⟨f1, f2⟩ := five_suf hOK k2
                have k1 : K5 R Z.2.top.n (s.at' + 1) s.top.n s.top.t s.ou (s.ne + cntL (R.drop (s.at' + 1))) := k1
                rw [hne, Nat.zero_add] at k1
                refine c0_leaf 3 (by omega) q3 f2 ?_
                have f1 : sufL (R.drop (s.at' + 1)) = cntL (R.drop (s.at' + 1)) := f1
                rw [f1]
                exact k1
            | false =>
              cases q1 : isK 1 (tkA R s.at') with
              | true =>
                cases qs : isEd (tkA R (s.at' + 1)) with
                | true =>
                  have hx : stpM R 2 s = (.inl 5, { s with at' := s.at' + 1 + 1, mi := 0 }) := h2e _ (by unfold stp2e; rw [tK_no (s := { s with mi := s.mi ||| (1 <<< 8) ||| (1 <<< 10) ||| (1 <<< 12) }) q3, tK_yes (s := { s with mi := s.mi ||| (1 <<< 8) ||| (1 <<< 10) ||| (1 <<< 12) ||| (1 <<< 3) }) q1, tEd_yes (s := { s with at' := s.at' + 1, mi := 0 }) qs]; rfl)
                  have k20 := ed_k qs
                  have k1 : K5 R Z.2.top.n (s.at' + 1 + 1) s.top.n s.top.t s.ou (s.ne + cntL (R.drop (s.at' + 1 + 1))) := (key _ _ hx (fun h => absurd h (by decide))).1
                  rw [hne, Nat.zero_add] at k1
                  have hi1 := tk_lt k20
                  refine c0_leaf 1 (by omega) q1 (by rw [drop_tk hi1]; exact isK_ne k20 (by decide)) ?_
                  rw [show sufL (R.drop (s.at' + 1)) = cntL (R.drop (s.at' + 1 + 1)) by rw [drop_tk hi1, sufL, isK_ne k20 (j := 21) (by decide), k20]; rfl]
                  exact k5_over hi1 (ov_k 20 k20 (by omega)) k1
                | false =>
                  have hx : stpM R 2 s = (.inl 5, { s with at' := s.at' + 1, mi := 0 ||| (1 <<< 20) }) := h2e _ (by unfold stp2e; rw [tK_no (s := { s with mi := s.mi ||| (1 <<< 8) ||| (1 <<< 10) ||| (1 <<< 12) }) q3, tK_yes (s := { s with mi := s.mi ||| (1 <<< 8) ||| (1 <<< 10) ||| (1 <<< 12) ||| (1 <<< 3) }) q1, tEd_no (s := { s with at' := s.at' + 1, mi := 0 }) qs]; rfl)
                  obtain ⟨k1, k2⟩ := key _ _ hx (fun h => absurd h (by decide))
                  obtain ⟨f1, f2⟩ := five_suf hOK k2
                  have k1 : K5 R Z.2.top.n (s.at' + 1) s.top.n s.top.t s.ou (s.ne + cntL (R.drop (s.at' + 1))) := k1
                  rw [hne, Nat.zero_add] at k1
                  refine c0_leaf 1 (by omega) q1 f2 ?_
                  have f1 : sufL (R.drop (s.at' + 1)) = cntL (R.drop (s.at' + 1)) := f1
                  rw [f1]
                  exact k1
              | false =>
                cases q2 : isK 2 (tkA R s.at') with
                | true =>
                  have hx : stpM R 2 s = (.inl 5, { s with at' := s.at' + 1, mi := 0 }) := h2e _ (by unfold stp2e; rw [tK_no (s := { s with mi := s.mi ||| (1 <<< 8) ||| (1 <<< 10) ||| (1 <<< 12) }) q3, tK_no (s := { s with mi := s.mi ||| (1 <<< 8) ||| (1 <<< 10) ||| (1 <<< 12) ||| (1 <<< 3) }) q1, tK_yes (s := { s with mi := s.mi ||| (1 <<< 8) ||| (1 <<< 10) ||| (1 <<< 12) ||| (1 <<< 3) ||| (1 <<< 1) }) q2]; rfl)
                  obtain ⟨k1, k2⟩ := key _ _ hx (fun h => absurd h (by decide))
                  obtain ⟨f1, f2⟩ := five_suf hOK k2
                  have k1 : K5 R Z.2.top.n (s.at' + 1) s.top.n s.top.t s.ou (s.ne + cntL (R.drop (s.at' + 1))) := k1
                  rw [hne, Nat.zero_add] at k1
                  refine c0_leaf 2 (by omega) q2 f2 ?_
                  have f1 : sufL (R.drop (s.at' + 1)) = cntL (R.drop (s.at' + 1)) := f1
                  rw [f1]
                  exact k1
                | false =>
                  exact (noR { s with mi := s.mi ||| (1 <<< 8) ||| (1 <<< 10) ||| (1 <<< 12) ||| (1 <<< 3) ||| (1 <<< 1) ||| (1 <<< 2) } (h2e _ (by unfold stp2e; rw [tK_no (s := { s with mi := s.mi ||| (1 <<< 8) ||| (1 <<< 10) ||| (1 <<< 12) }) q3, tK_no (s := { s with mi := s.mi ||| (1 <<< 8) ||| (1 <<< 10) ||| (1 <<< 12) ||| (1 <<< 3) }) q1, tK_no (s := { s with mi := s.mi ||| (1 <<< 8) ||| (1 <<< 10) ||| (1 <<< 12) ||| (1 <<< 3) ||| (1 <<< 1) }) q2]; rfl))).elim
    | 3, hI, hN, key, noR, yesR =>
      have hne := hN (by decide)
      cases q : isK 14 (tkA R s.at') with
      | true =>
        cases qs : isSt (tkA R (s.at' + 1)) with
        | true =>
          have hx : stpM R 3 s = (.inl 5, { s with at' := s.at' + 1 + 1, mi := 0 }) := by show stp3 R s = _; unfold stp3; rw [tK_yes q, tSt_yes (s := { s with at' := s.at' + 1, mi := 0 }) qs]; rfl
          obtain ⟨k1, k2⟩ := key _ _ hx (fun h => absurd h (by decide))
          obtain ⟨f1, f2⟩ := five_suf hOK k2
          have k1 : K5 R Z.2.top.n (s.at' + 1 + 1) s.top.n s.top.t s.ou (s.ne + cntL (R.drop (s.at' + 1 + 1))) := k1
          rw [hne, Nat.zero_add] at k1
          refine c3_colon q (c0_leaf 2 (by omega) (st_k qs) f2 ?_)
          have f1 : sufL (R.drop (s.at' + 1 + 1)) = cntL (R.drop (s.at' + 1 + 1)) := f1
          rw [f1]
          exact k1
        | false =>
          exact (noR { s with at' := s.at' + 1, mi := 0 ||| (1 <<< 2) } (by show stp3 R s = _; unfold stp3; rw [tK_yes q, tSt_no (s := { s with at' := s.at' + 1, mi := 0 }) qs]; rfl)).elim
      | false =>
        have hx : stpM R 3 s = (.inl 5, { s with mi := s.mi ||| (1 <<< 14) }) := by show stp3 R s = _; unfold stp3; rw [tK_no q]; rfl
        obtain ⟨k1, k2⟩ := key _ _ hx (fun h => absurd h (by decide))
        obtain ⟨f1, f2⟩ := five_suf hOK k2
        have k1 : K5 R Z.2.top.n s.at' s.top.n s.top.t s.ou (s.ne + cntL (R.drop s.at')) := k1
        rw [hne, Nat.zero_add] at k1
        refine c3_leaf q ?_
        have f1 : sufL (R.drop s.at') = cntL (R.drop s.at') := f1
        rw [f1]
        exact k1
    | 4, hI, hN, key, noR, yesR =>
      have hne := hN (by decide)
      cases q : isK 14 (tkA R s.at') with
      | true =>
        have hx : stpM R 4 s = (.inl 2, { s with at' := s.at' + 1, mi := 0 }) := by show stp4 R s = _; unfold stp4; rw [tK_yes q]; rfl
        exact c3_colon q (key _ _ hx (fun _ => hne)).1
      | false =>
        cases qs : isEd (tkA R s.at') with
        | true =>
          have hx : stpM R 4 s = (.inl 5, { s with at' := s.at' + 1, mi := 0 }) := by show stp4 R s = _; unfold stp4; rw [tK_no q, tEd_yes (s := { s with mi := s.mi ||| (1 <<< 14) }) qs]; rfl
          have k20 := ed_k qs
          have k1 : K5 R Z.2.top.n (s.at' + 1) s.top.n s.top.t s.ou (s.ne + cntL (R.drop (s.at' + 1))) := (key _ _ hx (fun h => absurd h (by decide))).1
          rw [hne, Nat.zero_add] at k1
          have hi1 := tk_lt k20
          refine c3_leaf q ?_
          rw [show sufL (R.drop s.at') = cntL (R.drop (s.at' + 1)) by rw [drop_tk hi1, sufL, isK_ne k20 (j := 21) (by decide), k20]; rfl]
          exact k5_over hi1 (ov_k 20 k20 (by omega)) k1
        | false =>
          have hx : stpM R 4 s = (.inl 5, { s with mi := s.mi ||| (1 <<< 14) ||| (1 <<< 20) }) := by show stp4 R s = _; unfold stp4; rw [tK_no q, tEd_no (s := { s with mi := s.mi ||| (1 <<< 14) }) qs]; rfl
          obtain ⟨k1, k2⟩ := key _ _ hx (fun h => absurd h (by decide))
          obtain ⟨f1, f2⟩ := five_suf hOK k2
          have k1 : K5 R Z.2.top.n s.at' s.top.n s.top.t s.ou (s.ne + cntL (R.drop s.at')) := k1
          rw [hne, Nat.zero_add] at k1
          refine c3_leaf q ?_
          have f1 : sufL (R.drop s.at') = cntL (R.drop s.at') := f1
          rw [f1]
          exact k1
    | lab + 5, hI, hN, key, noR, yesR =>
      have hM : ∀ X, stp5 R s = X → stpM R (lab + 5) s = X := fun X hX => by
        unfold stpM
        rw [if_neg (by omega), if_neg (by omega), if_neg (by omega), if_neg (by omega), if_neg (by omega)]
        exact hX
      show C5 R Z.2.top.n s.at' s.top.n s.top.t s.ou s.ne
      cases q18 : isK 18 (tkA R s.at') with
      | true =>
        have hx := hM (.inl 5, { s with at' := s.at' + 1, mi := 0, ne := s.ne + 1 }) (by unfold stp5; rw [or_yes (tK_yes q18)]; rfl)
        exact c5_suffix (by rw [q18]; rfl) (key _ _ hx (fun h => absurd h (by decide))).1
      | false =>
        cases q19 : isK 19 (tkA R s.at') with
        | true =>
          have hx := hM (.inl 5, { s with at' := s.at' + 1, mi := 0, ne := s.ne + 1 }) (by unfold stp5; rw [or_no (tK_no q18), tK_yes (s := { s with mi := s.mi ||| (1 <<< 18) }) q19]; rfl)
          exact c5_suffix (by rw [q18, q19]; rfl) (key _ _ hx (fun h => absurd h (by decide))).1
        | false =>
          have hU : ∀ X, stp5u R (MS.endU { s with mi := s.mi ||| (1 <<< 18) ||| (1 <<< 19) }) = X → stpM R (lab + 5) s = X := fun X hX => hM X (by unfold stp5; rw [or_no (tK_no q18), tK_no (s := { s with mi := s.mi ||| (1 <<< 18) }) q19]; exact hX)
          have fin : ∀ (t : MS), t.at' = s.at' → t.top.n = max s.top.n (s.ne + s.top.t) → t.top.t = 0 → t.ou = s.ou → t.ne = 0 → stpM R (lab + 5) s = stp5e R t → C5 R Z.2.top.n s.at' s.top.n s.top.t s.ou s.ne := by
            intro t ht1 ht2 ht3 ht4 ht5 hx
            unfold stp5e at hx
            cases ho : t.ou with
            | nil =>
              rw [ho] at hx ht4
              dsimp only at hx
              rw [← ht4]
              cases q0 : isK 0 (tkA R t.at') with
              | true =>
                rw [tK_yes q0] at hx
                have e := yesR _ hx
                have eN : Z.2.top.n = max s.top.n (s.ne + s.top.t) := by rw [e]; exact ht2
                have eA : s.at' + 1 = R.length := by rw [← hZ2, e, ← ht1]
                rw [eN]
                exact c5_done (by rw [← ht1]; exact q0) eA
              | false =>
                rw [tK_no q0] at hx
                have k1 : C0 R Z.2.top.n t.at' t.top.n t.top.t t.ou := (key _ _ hx (fun _ => ht5)).1
                rw [ht1, ht2, ht3, ho] at k1
                exact c5_end q18 q19 k1
            | cons l r =>
              rw [ho] at hx ht4
              dsimp only at hx
              rw [← ht4]
              cases q9 : isK 9 (tkA R t.at') with
              | true =>
                rw [tK_yes q9] at hx
                cases q21 : isK 21 (tkA R (t.at' + 1)) with
                | true =>
                  rw [tK_yes (s := ({ t with at' := t.at' + 1, mi := 0 } : MS).close' l r) q21] at hx
                  have k1 : K5 R Z.2.top.n (t.at' + 1 + 1) l.n l.t r (t.top.n + 1 + cntL (R.drop (t.at' + 1 + 1))) := (key _ _ hx (fun h => absurd h (by decide))).1
                  have hi1 := tk_lt q21
                  rw [ht1] at q9 q21 k1 hi1
                  rw [ht2] at k1
                  refine c5_close q9 ?_
                  rw [show sufL (R.drop (s.at' + 1)) = cntL (R.drop (s.at' + 1 + 1)) by rw [drop_tk hi1, sufL, q21]; rfl]
                  exact k5_over hi1 (ov_k 21 q21 (by omega)) k1
                | false =>
                  rw [tK_no (s := ({ t with at' := t.at' + 1, mi := 0 } : MS).close' l r) q21] at hx
                  obtain ⟨k1, k2⟩ := key _ _ hx (fun h => absurd h (by decide))
                  obtain ⟨f1, f2⟩ := five_suf hOK k2
                  have k1 : K5 R Z.2.top.n (t.at' + 1) l.n l.t r (t.top.n + 1 + cntL (R.drop (t.at' + 1))) := k1
                  have f1 : sufL (R.drop (t.at' + 1)) = cntL (R.drop (t.at' + 1)) := f1
                  rw [ht1] at q9 k1 f1
                  rw [ht2] at k1
                  refine c5_close q9 ?_
                  rw [f1]
                  exact k1
              | false =>
                rw [tK_no q9] at hx
                have k1 : C0 R Z.2.top.n t.at' t.top.n t.top.t t.ou := (key _ _ hx (fun _ => ht5)).1
                rw [ht1, ht2, ht3, ho] at k1
                exact c5_end q18 q19 k1
          cases hs : s.top.s with
          | true => exact fin (MS.endU { s with mi := s.mi ||| (1 <<< 18) ||| (1 <<< 19) }) rfl rfl rfl rfl rfl (hU _ (by unfold stp5u; rw [show (MS.endU { s with mi := s.mi ||| (1 <<< 18) ||| (1 <<< 19) }).top.s = true from hs]; rfl))
          | false =>
            have hJ : ∀ X, (if (tJoin R (MS.endU { s with mi := s.mi ||| (1 <<< 18) ||| (1 <<< 19) })).1 then ((.inl 1 : Nat ⊕ Bool), (tJoin R (MS.endU { s with mi := s.mi ||| (1 <<< 18) ||| (1 <<< 19) })).2) else stp5e R (tJoin R (MS.endU { s with mi := s.mi ||| (1 <<< 18) ||| (1 <<< 19) })).2) = X → stpM R (lab + 5) s = X := fun X hX => hU X (by unfold stp5u; rw [show (MS.endU { s with mi := s.mi ||| (1 <<< 18) ||| (1 <<< 19) }).top.s = false from hs]; exact hX)
            have join : ∀ (k : Nat), (k = 4 ∨ k = 5 ∨ k = 17) → isK k (tkA R s.at') = true → ∀ t : MS, t.at' = s.at' + 1 → t.top.n = max s.top.n (s.ne + s.top.t) → t.top.t = 0 → t.ou = s.ou → t.ne = 0 → stpM R (lab + 5) s = (.inl 1, t) → C5 R Z.2.top.n s.at' s.top.n s.top.t s.ou s.ne := by
              intro k hk hq t ht1 ht2 ht3 ht4 ht5 hx
              have k1 : C0 R Z.2.top.n t.at' t.top.n t.top.t t.ou := (key _ _ hx (fun _ => ht5)).1
              rw [ht1, ht2, ht3, ht4] at k1
              exact c5_end q18 q19 (c0_over (tk_lt hq) (ov_k k hq (by omega)) k1)
            generalize hE : MS.endU { s with mi := s.mi ||| (1 <<< 18) ||| (1 <<< 19) } = t at hJ
            have t1 : t.at' = s.at' := by rw [← hE]; rfl
            have t2 : t.top.n = max s.top.n (s.ne + s.top.t) := by rw [← hE]; rfl
            have t3 : t.top.t = 0 := by rw [← hE]; rfl
            have t4 : t.ou = s.ou := by rw [← hE]; rfl
            have t5 : t.ne = 0 := by rw [← hE]; rfl
            unfold tJoin at hJ
            cases q5 : isK 5 (tkA R s.at') with
            | true =>
              have q5' : isK 5 (tkA R t.at') = true := by rw [t1]; exact q5
              exact join 5 (by omega) q5 { t with at' := t.at' + 1, mi := 0 } (by rw [← t1]) t2 t3 t4 t5 (hJ _ (by rw [or_yes (or_yes (tK_yes q5'))]; rfl))
            | false =>
              have q5' : isK 5 (tkA R t.at') = false := by rw [t1]; exact q5
              cases q4 : isK 4 (tkA R s.at') with
              | true =>
                have q4' : isK 4 (tkA R t.at') = true := by rw [t1]; exact q4
                have e : orT (tK R 5) (tK R 4) t = (true, { t with at' := t.at' + 1, mi := 0 }) := by rw [or_no (tK_no q5'), tK_yes (s := { t with mi := t.mi ||| (1 <<< 5) }) q4']
                exact join 4 (by omega) q4 { t with at' := t.at' + 1, mi := 0 } (by rw [← t1]) t2 t3 t4 t5 (hJ _ (by rw [or_yes e]; rfl))
              | false =>
                have q4' : isK 4 (tkA R t.at') = false := by rw [t1]; exact q4
                have e : orT (tK R 5) (tK R 4) t = (false, { t with mi := t.mi ||| (1 <<< 5) ||| (1 <<< 4) }) := by rw [or_no (tK_no q5'), tK_no (s := { t with mi := t.mi ||| (1 <<< 5) }) q4']
                cases q17 : isK 17 (tkA R s.at') with
                | true =>
                  have q17' : isK 17 (tkA R t.at') = true := by rw [t1]; exact q17
                  exact join 17 (by omega) q17 { t with at' := t.at' + 1, mi := 0 } (by rw [← t1]) t2 t3 t4 t5 (hJ _ (by rw [or_no e, tK_yes (s := { t with mi := t.mi ||| (1 <<< 5) ||| (1 <<< 4) }) q17']; rfl))
                | false =>
                  have q17' : isK 17 (tkA R t.at') = false := by rw [t1]; exact q17
                  exact fin { t with mi := t.mi ||| (1 <<< 5) ||| (1 <<< 4) ||| (1 <<< 17) } t1 t2 t3 t4 t5 (hJ _ (by rw [or_no e, tK_no (s := { t with mi := t.mi ||| (1 <<< 5) ||| (1 <<< 4) }) q17']; rfl))
end Go.Proofs.YtiemiphlfbaojaaDoor
namespace Go.Proofs.YtiemiphlfbaojaaDoor
open Go.ChangeShapes Go.WideShapes Go.ChangeAt Go.RowKit
variable {R : List Tn}

/-! Both sides together. -/
theorem run_ok (h : (runR R).1 = true) (ha : (runR R).2.at' = R.length) : rfR R ≠ none := by
  have g : FolOK R (runR R) := run_fol _ 0 s00 (by unfold rkM s00 lrk; simp) inv_start
  obtain ⟨r, hr⟩ := g.2.2.2.1 h
  rw [ha, List.take_length] at hr
  rw [hr]
  exact fun e => by cases e
theorem runR_bad14 (h : (runR R).1 = false) (ha : (runR R).2.at' < R.length) : rfR (R.take (runR R).2.at') ≠ none ∧ rfR (R.take ((runR R).2.at' + 1)) = none := by
  have g : FolOK R (runR R) := run_fol _ 0 s00 (by unfold rkM s00 lrk; simp) inv_start
  obtain ⟨⟨r, hr⟩, h2⟩ := g.2.2.2.2 h ha
  exact ⟨(by rw [hr]; exact fun e => by cases e), h2⟩
theorem run_nest (h : (runR R).1 = true) (ha : (runR R).2.at' = R.length) : (runR R).2.top.n = nsL R 0 0 0 [] := by
  have c : CL R (runR R).2.top.n 0 s00 := cl_run (runR R) h ha (run_ok h ha) _ 0 s00 (by unfold rkM s00 lrk; simp) inv_start (fun _ => rfl) rfl
  have c : C0 R (runR R).2.top.n 0 0 0 [] := c
  exact c 0 rfl
theorem rf_mono {i j : Nat} (hij : i ≤ j) (h : rfR (R.take i) = none) : rfR (R.take j) = none := by
  have e : R.take j = R.take i ++ (R.take j).drop i := by
    have := List.take_append_drop i (R.take j)
    rw [List.take_take, Nat.min_eq_left hij] at this
    exact this.symm
  rw [e]
  exact rf_none _ _ h
theorem rf_first {i j : Nat} (hi1 : rfR (R.take i) ≠ none) (hi2 : rfR (R.take (i + 1)) = none) (hj1 : rfR (R.take j) ≠ none) (hj2 : rfR (R.take (j + 1)) = none) : i = j := by
  rcases Nat.lt_trichotomy i j with q | q | q
  · exact absurd (rf_mono (by omega) hi2) hj1
  · exact q
  · exact absurd (rf_mono (by omega) hj2) hi1
end Go.Proofs.YtiemiphlfbaojaaDoor
