import Derived.Test.YtiemiphlfbaojaaDoorSyg
namespace Go.Proofs.YtiemiphlfbaojaaDoor
open Go.ChangeShapes Go.WideShapes Go.ChangeAt Go.RowKit

/-! The recogniser's run, as a function: labels clause 0, unary 1, body 2, star 3, word 4, piece 5. -/
/-- A taking: it goes on by a token at least where it answers true, and leaves all but the place and what was missed. -/
structure Adv (R : List Tn) (F : MS → Bool × MS) : Prop where
  le : ∀ s, s.at' ≤ (F s).2.at'
  lt : ∀ s, (F s).1 = true → s.at' < (F s).2.at'
  hi : ∀ s, s.at' ≤ R.length → (F s).2.at' ≤ R.length
  ne : ∀ s, (F s).2.ne = s.ne
  top : ∀ s, (F s).2.top = s.top
  ou : ∀ s, (F s).2.ou = s.ou
theorem adv_tk {R : List Tn} (k : Nat) (f : Tn → Bool) (hf : f noT = false) : Adv R (fun s => (tkB R f s, tkS R k f s)) := by
  have key : ∀ s : MS, (tkS R k f s) = if f (tkA R s.at') then { s with at' := s.at' + 1, mi := 0 } else { s with mi := s.mi ||| (1 <<< k) } := fun s => rfl
  refine ⟨fun s => ?_, fun s h => ?_, fun s h => ?_, fun s => ?_, fun s => ?_, fun s => ?_⟩
  · show s.at' ≤ (tkS R k f s).at'
    rw [key]; split
    · exact Nat.le_succ _
    · exact Nat.le_refl _
  · show s.at' < (tkS R k f s).at'
    have h : f (tkA R s.at') = true := h
    rw [key, if_pos h]; exact Nat.lt_succ_self _
  · show (tkS R k f s).at' ≤ R.length
    rw [key]; split
    · rename_i q; exact tk_in hf q
    · exact h
  · show (tkS R k f s).ne = s.ne
    rw [key]; split <;> rfl
  · show (tkS R k f s).top = s.top
    rw [key]; split <;> rfl
  · show (tkS R k f s).ou = s.ou
    rw [key]; split <;> rfl
theorem adv_K (R : List Tn) (k : Nat) : Adv R (tK R k) := adv_tk k (isK k) (by unfold isK noT; simp)
theorem adv_St (R : List Tn) : Adv R (tSt R) := adv_tk 2 isSt rfl
theorem adv_Ed (R : List Tn) : Adv R (tEd R) := adv_tk 20 isEd rfl
theorem adv_Sl (R : List Tn) : Adv R (tSl R) := adv_tk 20 isSl rfl
theorem Adv.or {R : List Tn} {p q : MS → Bool × MS} (hp : Adv R p) (hq : Adv R q) : Adv R (orT p q) := by
  have key : ∀ s : MS, ((p s).1 = true ∧ orT p q s = p s) ∨ ((p s).1 = false ∧ orT p q s = q (p s).2) := fun s => by
    unfold orT
    cases h : (p s).1
    · exact .inr ⟨rfl, rfl⟩
    · exact .inl ⟨rfl, rfl⟩
  refine ⟨fun s => ?_, fun s h => ?_, fun s h => ?_, fun s => ?_, fun s => ?_, fun s => ?_⟩ <;> rcases key s with ⟨h1, h2⟩ | ⟨h1, h2⟩ <;> rw [h2]
  · exact hp.le s
  · exact Nat.le_trans (hp.le s) (hq.le _)
  · exact hp.lt s (by rw [← h2]; exact h)
  · exact Nat.lt_of_le_of_lt (hp.le s) (hq.lt _ (by rw [← h2]; exact h))
  · exact hp.hi s h
  · exact hq.hi _ (hp.hi s h)
  · exact hp.ne s
  · rw [hq.ne, hp.ne]
  · exact hp.top s
  · rw [hq.top, hp.top]
  · exact hp.ou s
  · rw [hq.ou, hp.ou]
theorem Adv.and {R : List Tn} {p q : MS → Bool × MS} (hp : Adv R p) (hq : Adv R q) : Adv R (andT p q) := by
  have key : ∀ s : MS, ((p s).1 = true ∧ andT p q s = q (p s).2) ∨ ((p s).1 = false ∧ andT p q s = p s) := fun s => by
    unfold andT
    cases h : (p s).1
    · exact .inr ⟨rfl, rfl⟩
    · exact .inl ⟨rfl, rfl⟩
  refine ⟨fun s => ?_, fun s h => ?_, fun s h => ?_, fun s => ?_, fun s => ?_, fun s => ?_⟩ <;> rcases key s with ⟨h1, h2⟩ | ⟨h1, h2⟩ <;> rw [h2]
  · exact Nat.le_trans (hp.le s) (hq.le _)
  · exact hp.le s
  · exact Nat.lt_of_le_of_lt (hp.le s) (hq.lt _ (by rw [← h2]; exact h))
  · exact hp.lt s (by rw [← h2]; exact h)
  · exact hq.hi _ (hp.hi s h)
  · exact hp.hi s h
  · rw [hq.ne, hp.ne]
  · exact hp.ne s
  · rw [hq.top, hp.top]
  · exact hp.top s
  · rw [hq.ou, hp.ou]
  · exact hp.ou s
theorem adv_Side (R : List Tn) : Adv R (tSide R) := ((adv_K R 1).or (adv_K R 3)).or (adv_St R)
theorem adv_Sides (R : List Tn) : Adv R (tSides R) := (((adv_Side R).and (adv_K R 7)).and (adv_Side R)).and ((adv_K R 11).or (adv_K R 13))
theorem adv_Join (R : List Tn) : Adv R (tJoin R) := ((adv_K R 5).or (adv_K R 4)).or (adv_K R 17)
/-- One pass from a label: where it jumps, or what it answers; and what it leaves. -/
def stp0 (R : List Tn) (s : MS) : (Nat ⊕ Bool) × MS := (.inl 1, { (orT (tK R 15) (tK R 16) s).2 with top := { (orT (tK R 15) (tK R 16) s).2.top with s := (orT (tK R 15) (tK R 16) s).1 } })
def stp1 (R : List Tn) (s : MS) : (Nat ⊕ Bool) × MS :=
  if (tK R 6 s).1 then (.inl 1, { (tK R 6 s).2 with top := { (tK R 6 s).2.top with t := (tK R 6 s).2.top.t + 1 } })
  else if (tSt R (tK R 6 s).2).1 then (.inl 3, (tSt R (tK R 6 s).2).2)
  else if (tK R 1 (tSt R (tK R 6 s).2).2).1 then (.inl 4, (tK R 1 (tSt R (tK R 6 s).2).2).2)
  else (.inl 2, (tK R 1 (tSt R (tK R 6 s).2).2).2)
def stp2e (R : List Tn) (s : MS) : (Nat ⊕ Bool) × MS :=
  if (tK R 3 s).1 then (.inl 5, (tSl R (tK R 3 s).2).2)
  else if (tK R 1 (tK R 3 s).2).1 then (.inl 5, (tEd R (tK R 1 (tK R 3 s).2).2).2)
  else if (tK R 2 (tK R 1 (tK R 3 s).2).2).1 then (.inl 5, (tK R 2 (tK R 1 (tK R 3 s).2).2).2)
  else (.inr false, (tK R 2 (tK R 1 (tK R 3 s).2).2).2)
def stpS (R : List Tn) (s : MS) : (Nat ⊕ Bool) × MS := if (tSides R s).1 then (.inl 5, (tSides R s).2) else (.inr false, (tSides R s).2)
def stp2 (R : List Tn) (s : MS) : (Nat ⊕ Bool) × MS :=
  if (tK R 8 s).1 then (.inl 0, (tK R 8 s).2.open')
  else if (tK R 10 (tK R 8 s).2).1 then stpS R (tK R 10 (tK R 8 s).2).2
  else if (tK R 12 (tK R 10 (tK R 8 s).2).2).1 then stpS R (tK R 12 (tK R 10 (tK R 8 s).2).2).2
  else stp2e R (tK R 12 (tK R 10 (tK R 8 s).2).2).2
def stp3 (R : List Tn) (s : MS) : (Nat ⊕ Bool) × MS :=
  if (tK R 14 s).1 then (if (tSt R (tK R 14 s).2).1 then (.inl 5, (tSt R (tK R 14 s).2).2) else (.inr false, (tSt R (tK R 14 s).2).2)) else (.inl 5, (tK R 14 s).2)
def stp4 (R : List Tn) (s : MS) : (Nat ⊕ Bool) × MS := if (tK R 14 s).1 then (.inl 2, (tK R 14 s).2) else (.inl 5, (tEd R (tK R 14 s).2).2)
/-- Behind a piece where no part is joined. -/
def stp5e (R : List Tn) (s : MS) : (Nat ⊕ Bool) × MS :=
  match s.ou with
  | [] => if (tK R 0 s).1 then (.inr true, (tK R 0 s).2) else (.inl 0, (tK R 0 s).2)
  | l :: r => if (tK R 9 s).1 then (.inl 5, (tK R 21 ((tK R 9 s).2.close' l r)).2) else (.inl 0, (tK R 9 s).2)
def stp5u (R : List Tn) (s : MS) : (Nat ⊕ Bool) × MS := if s.top.s then stp5e R s else if (tJoin R s).1 then (.inl 1, (tJoin R s).2) else stp5e R (tJoin R s).2
def stp5 (R : List Tn) (s : MS) : (Nat ⊕ Bool) × MS :=
  if (orT (tK R 18) (tK R 19) s).1 then (.inl 5, { (orT (tK R 18) (tK R 19) s).2 with ne := (orT (tK R 18) (tK R 19) s).2.ne + 1 }) else stp5u R (orT (tK R 18) (tK R 19) s).2.endU
def stpM (R : List Tn) (lab : Nat) (s : MS) : (Nat ⊕ Bool) × MS :=
  if lab = 0 then stp0 R s else if lab = 1 then stp1 R s else if lab = 2 then stp2 R s else if lab = 3 then stp3 R s else if lab = 4 then stp4 R s else stp5 R s
/-- The rank of a place in the run. -/
def lrk (lab : Nat) : Nat := if lab = 0 then 4 else if lab = 1 then 3 else if lab = 2 then 2 else if lab = 5 then 5 else 6
def rkM (R : List Tn) (lab : Nat) (s : MS) : Nat := (R.length - s.at') * 10 + lrk lab
def runF (R : List Tn) : Nat → Nat → MS → Bool × MS
  | 0, _, s => (false, s)
  | f + 1, lab, s => match stpM R lab s with
    | (.inr b, s') => (b, s')
    | (.inl l, s') => runF R f l s'
theorem runF_ret {R : List Tn} {f lab : Nat} {s s' : MS} {b : Bool} (h : stpM R lab s = (.inr b, s')) : runF R (f + 1) lab s = (b, s') := by rw [runF, h]
theorem runF_go {R : List Tn} {f lab l : Nat} {s s' : MS} (h : stpM R lab s = (.inl l, s')) : runF R (f + 1) lab s = runF R f l s' := by rw [runF, h]
/-- Bounds that keep every number small. -/
def sO : List Lv → Nat
  | [] => 0
  | l :: r => l.t + 1 + sO r
def okO (a : Nat) : List Lv → Prop
  | [] => True
  | l :: r => l.n + sO r ≤ a ∧ okO a r
structure okS (s : MS) : Prop where
  a : s.ne + s.top.t + sO s.ou ≤ s.at'
  b : s.top.n + sO s.ou ≤ s.at'
  c : okO s.at' s.ou
theorem okO.mono {a a' : Nat} : ∀ {L : List Lv}, okO a L → a ≤ a' → okO a' L
  | [], _, _ => trivial
  | _ :: _, h, ha => ⟨Nat.le_trans h.1 ha, okO.mono h.2 ha⟩
theorem sO_len : ∀ L : List Lv, L.length ≤ sO L
  | [] => Nat.le_refl _
  | l :: r => by have := sO_len r; simp only [List.length_cons, sO]; omega
theorem Adv.ok {R : List Tn} {F : MS → Bool × MS} (h : Adv R F) {s : MS} (hs : okS s) : okS (F s).2 := by
  have := h.le s
  refine ⟨?_, ?_, ?_⟩
  · rw [h.ne, h.top, h.ou]; have := hs.a; omega
  · rw [h.top, h.ou]; have := hs.b; omega
  · rw [h.ou]; exact hs.c.mono this
theorem okS.sign {s : MS} (h : okS s) (q : Bool) : okS { s with top := { s.top with s := q } } := ⟨h.a, h.b, h.c⟩
theorem okS.not {s : MS} (h : okS s) {s' : MS} (h1 : s.at' < s'.at') (h2 : s'.ne = s.ne) (h3 : s'.top = s.top) (h4 : s'.ou = s.ou) : okS { s' with top := { s'.top with t := s'.top.t + 1 } } := by
  refine ⟨?_, ?_, ?_⟩
  · show s'.ne + (s'.top.t + 1) + sO s'.ou ≤ s'.at'
    rw [h2, h3, h4]; have := h.a; omega
  · show s'.top.n + sO s'.ou ≤ s'.at'
    rw [h3, h4]; have := h.b; omega
  · show okO s'.at' s'.ou
    rw [h4]; exact h.c.mono (Nat.le_of_lt h1)
theorem okS.boost {s : MS} (h : okS s) {s' : MS} (h1 : s.at' < s'.at') (h2 : s'.ne = s.ne) (h3 : s'.top = s.top) (h4 : s'.ou = s.ou) : okS { s' with ne := s'.ne + 1 } := by
  refine ⟨?_, ?_, ?_⟩
  · show s'.ne + 1 + s'.top.t + sO s'.ou ≤ s'.at'
    rw [h2, h3, h4]; have := h.a; omega
  · show s'.top.n + sO s'.ou ≤ s'.at'
    rw [h3, h4]; have := h.b; omega
  · show okO s'.at' s'.ou
    rw [h4]; exact h.c.mono (Nat.le_of_lt h1)
theorem okS.endU {s : MS} (h : okS s) : okS s.endU := by
  have h1 := h.a
  have h2 := h.b
  refine ⟨?_, ?_, h.c⟩
  · show 0 + 0 + sO s.ou ≤ s.at'
    omega
  · show max s.top.n (s.ne + s.top.t) + sO s.ou ≤ s.at'
    omega
theorem okS.open' {s : MS} (h : okS s) {s' : MS} (h1 : s.at' < s'.at') (h3 : s'.top = s.top) (h4 : s'.ou = s.ou) (h5 : s'.ne = 0) : okS s'.open' := by
  have q1 := h.a
  have q2 := h.b
  refine ⟨?_, ?_, ?_, ?_⟩
  · show s'.ne + 0 + (s'.top.t + 1 + sO s'.ou) ≤ s'.at'
    rw [h5, h3, h4]; omega
  · show 0 + (s'.top.t + 1 + sO s'.ou) ≤ s'.at'
    rw [h3, h4]; omega
  · show s'.top.n + sO s'.ou ≤ s'.at'
    rw [h3, h4]; omega
  · show okO s'.at' s'.ou
    rw [h4]; exact h.c.mono (Nat.le_of_lt h1)
theorem okS.close' {s : MS} (h : okS s) {l : Lv} {r : List Lv} (e : s.ou = l :: r) : okS (s.close' l r) := by
  have q2 := h.b
  have q3 := h.c
  rw [e] at q2 q3
  simp only [sO] at q2
  obtain ⟨q4, q5⟩ := q3
  refine ⟨?_, ?_, ?_⟩
  · show s.top.n + 1 + l.t + sO r ≤ s.at'
    omega
  · exact q4
  · exact q5
end Go.Proofs.YtiemiphlfbaojaaDoor
