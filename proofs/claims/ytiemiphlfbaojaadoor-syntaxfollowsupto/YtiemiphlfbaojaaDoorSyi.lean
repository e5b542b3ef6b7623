import Derived.Test.YtiemiphlfbaojaaDoorSyh
namespace Go.Proofs.YtiemiphlfbaojaaDoor
open Go.ChangeShapes Go.WideShapes Go.ChangeAt Go.RowKit

/-! The edges of the run. -/
/-- A state at a label, on the way to the answer Z. -/
structure Goo (R : List Tn) (Z : Bool × MS) (ml : Nat) (s : MS) : Prop where
  ok : okS s
  ne : ml ≠ 5 → s.ne = 0
  at' : s.at' ≤ R.length
  go : ∃ f, Z = runF R f ml s ∧ rkM R ml s < f
variable {R : List Tn} {Z : Bool × MS} {s s1 s2 s3 s4 s5 s6 : MS} {B : Bool}
theorem lrk_le (l : Nat) : 2 ≤ lrk l ∧ lrk l ≤ 6 := by unfold lrk; (repeat' split) <;> omega
theorem rk_tok {s s' : MS} (ml l : Nat) (h : s.at' < s'.at') (h2 : s'.at' ≤ R.length) : rkM R l s' < rkM R ml s := by
  have h3 := lrk_le ml
  have h4 := lrk_le l
  unfold rkM
  omega
theorem rk_lab {s s' : MS} {ml l : Nat} (h : s.at' ≤ s'.at') (h2 : lrk l < lrk ml) : rkM R l s' < rkM R ml s := by unfold rkM; omega
theorem Goo.edge {ml l : Nat} {s' : MS} (h : Goo R Z ml s) (e : stpM R ml s = (.inl l, s')) (hr : rkM R l s' < rkM R ml s) (ho : okS s') (hn : l ≠ 5 → s'.ne = 0) (ha : s'.at' ≤ R.length) : Goo R Z l s' ∧ rkM R l s' < rkM R ml s := by
  obtain ⟨f, hZ, hf⟩ := h.go
  obtain ⟨g, rfl⟩ : ∃ g, f = g + 1 := ⟨f - 1, by omega⟩
  exact ⟨⟨ho, hn, ha, g, by rw [hZ, runF_go e], by omega⟩, hr⟩
theorem Goo.ret {ml : Nat} {s' : MS} (h : Goo R Z ml s) (e : stpM R ml s = (.inr B, s')) : Z = (B, s') := by
  obtain ⟨f, hZ, hf⟩ := h.go
  obtain ⟨g, rfl⟩ : ∃ g, f = g + 1 := ⟨f - 1, by omega⟩
  rw [hZ, runF_ret e]
/-- What a taking leaves, by its equation. -/
theorem Adv.at' {F : MS → Bool × MS} (h : Adv R F) {s s1 : MS} {B : Bool} (e : F s = (B, s1)) : s.at' ≤ s1.at' ∧ (B = true → s.at' < s1.at') ∧ (s.at' ≤ R.length → s1.at' ≤ R.length) ∧ s1.ne = s.ne ∧ s1.top = s.top ∧ s1.ou = s.ou ∧ (okS s → okS s1) := by
  have h1 := h.le s
  have h2 := h.lt s
  have h3 := h.hi s
  have h4 := h.ne s
  have h5 := h.top s
  have h6 := h.ou s
  have h7 := @Adv.ok R F h s
  rw [e] at h1 h2 h3 h4 h5 h6 h7
  exact ⟨h1, h2, h3, h4, h5, h6, h7⟩
theorem e01 (h : Goo R Z 0 s) (q0 : orT (tK R 15) (tK R 16) s = (B, s1)) : Goo R Z 1 { s1 with top := { s1.top with s := B } } ∧ rkM R 1 { s1 with top := { s1.top with s := B } } < rkM R 0 s := by
  obtain ⟨a0, b0, c0, d0, e0, f0, g0⟩ := Adv.at' ((adv_K R 15).or (adv_K R 16)) q0
  have hn := h.ne (by decide)
  have ha := h.at'
  have k0 := c0 ha
  have o0 := g0 h.ok
  refine h.edge ?_ ?_ ?_ ?_ ?_
  · show stp0 R s = _
    simp only [stp0, q0]
    try rfl
  · exact rk_lab (by show s.at' ≤ s1.at'; omega) (by decide)
  · exact o0.sign _
  · intro _; show s1.ne = 0; rw [d0]; exact hn
  · exact k0
theorem e11 (h : Goo R Z 1 s) (q0 : tK R 6 s = (true, s1)) : Goo R Z 1 { s1 with top := { s1.top with t := s1.top.t + 1 } } ∧ rkM R 1 { s1 with top := { s1.top with t := s1.top.t + 1 } } < rkM R 1 s := by
  obtain ⟨a0, b0, c0, d0, e0, f0, g0⟩ := Adv.at' (adv_K R 6) q0
  have hn := h.ne (by decide)
  have ha := h.at'
  have k0 := c0 ha
  have o0 := g0 h.ok
  refine h.edge ?_ ?_ ?_ ?_ ?_
  · show stp1 R s = _
    simp only [stp1, q0, ↓reduceIte]
    try rfl
  · exact rk_tok _ _ (by show s.at' < s1.at'; have w := b0 rfl; omega) k0
  · exact h.ok.not (b0 rfl) d0 e0 f0
  · intro _; show s1.ne = 0; rw [d0]; exact hn
  · exact k0
theorem e13 (h : Goo R Z 1 s) (q0 : tK R 6 s = (false, s1)) (q1 : tSt R s1 = (true, s2)) : Goo R Z 3 s2 ∧ rkM R 3 s2 < rkM R 1 s := by
  obtain ⟨a0, b0, c0, d0, e0, f0, g0⟩ := Adv.at' (adv_K R 6) q0
  obtain ⟨a1, b1, c1, d1, e1, f1, g1⟩ := Adv.at' (adv_St R) q1
  have hn := h.ne (by decide)
  have ha := h.at'
  have k0 := c0 ha
  have k1 := c1 k0
  have o0 := g0 h.ok
  have o1 := g1 o0
  refine h.edge ?_ ?_ ?_ ?_ ?_
  · show stp1 R s = _
    simp only [stp1, q0, q1, Bool.false_eq_true, ↓reduceIte]
    try rfl
  · exact rk_tok _ _ (by show s.at' < s2.at'; have w := b1 rfl; omega) k1
  · exact o1
  · intro _; show s2.ne = 0; rw [d1, d0]; exact hn
  · exact k1
theorem e14 (h : Goo R Z 1 s) (q0 : tK R 6 s = (false, s1)) (q1 : tSt R s1 = (false, s2)) (q2 : tK R 1 s2 = (true, s3)) : Goo R Z 4 s3 ∧ rkM R 4 s3 < rkM R 1 s := by
  obtain ⟨a0, b0, c0, d0, e0, f0, g0⟩ := Adv.at' (adv_K R 6) q0
  obtain ⟨a1, b1, c1, d1, e1, f1, g1⟩ := Adv.at' (adv_St R) q1
  obtain ⟨a2, b2, c2, d2, e2, f2, g2⟩ := Adv.at' (adv_K R 1) q2
  have hn := h.ne (by decide)
  have ha := h.at'
  have k0 := c0 ha
  have k1 := c1 k0
  have k2 := c2 k1
  have o0 := g0 h.ok
  have o1 := g1 o0
  have o2 := g2 o1
  refine h.edge ?_ ?_ ?_ ?_ ?_
  · show stp1 R s = _
    simp only [stp1, q0, q1, q2, Bool.false_eq_true, ↓reduceIte]
    try rfl
  · exact rk_tok _ _ (by show s.at' < s3.at'; have w := b2 rfl; omega) k2
  · exact o2
  · intro _; show s3.ne = 0; rw [d2, d1, d0]; exact hn
  · exact k2
theorem e12 (h : Goo R Z 1 s) (q0 : tK R 6 s = (false, s1)) (q1 : tSt R s1 = (false, s2)) (q2 : tK R 1 s2 = (false, s3)) : Goo R Z 2 s3 ∧ rkM R 2 s3 < rkM R 1 s := by
  obtain ⟨a0, b0, c0, d0, e0, f0, g0⟩ := Adv.at' (adv_K R 6) q0
  obtain ⟨a1, b1, c1, d1, e1, f1, g1⟩ := Adv.at' (adv_St R) q1
  obtain ⟨a2, b2, c2, d2, e2, f2, g2⟩ := Adv.at' (adv_K R 1) q2
  have hn := h.ne (by decide)
  have ha := h.at'
  have k0 := c0 ha
  have k1 := c1 k0
  have k2 := c2 k1
  have o0 := g0 h.ok
  have o1 := g1 o0
  have o2 := g2 o1
  refine h.edge ?_ ?_ ?_ ?_ ?_
  · show stp1 R s = _
    simp only [stp1, q0, q1, q2, Bool.false_eq_true, ↓reduceIte]
    try rfl
  · exact rk_lab (by show s.at' ≤ s3.at'; omega) (by decide)
  · exact o2
  · intro _; show s3.ne = 0; rw [d2, d1, d0]; exact hn
  · exact k2
theorem e20 (h : Goo R Z 2 s) (q0 : tK R 8 s = (true, s1)) : Goo R Z 0 s1.open' ∧ rkM R 0 s1.open' < rkM R 2 s := by
  obtain ⟨a0, b0, c0, d0, e0, f0, g0⟩ := Adv.at' (adv_K R 8) q0
  have hn := h.ne (by decide)
  have ha := h.at'
  have k0 := c0 ha
  have o0 := g0 h.ok
  refine h.edge ?_ ?_ ?_ ?_ ?_
  · show stp2 R s = _
    simp only [stp2, q0, ↓reduceIte]
    try rfl
  · exact rk_tok _ _ (by show s.at' < s1.at'; have w := b0 rfl; omega) k0
  · exact h.ok.open' (b0 rfl) e0 f0 (by rw [d0]; exact hn)
  · intro _; show s1.ne = 0; rw [d0]; exact hn
  · exact k0
theorem e25a (h : Goo R Z 2 s) (q0 : tK R 8 s = (false, s1)) (q1 : tK R 10 s1 = (true, s2)) (q2 : tSides R s2 = (true, s3)) : Goo R Z 5 s3 ∧ rkM R 5 s3 < rkM R 2 s := by
  obtain ⟨a0, b0, c0, d0, e0, f0, g0⟩ := Adv.at' (adv_K R 8) q0
  obtain ⟨a1, b1, c1, d1, e1, f1, g1⟩ := Adv.at' (adv_K R 10) q1
  obtain ⟨a2, b2, c2, d2, e2, f2, g2⟩ := Adv.at' (adv_Sides R) q2
  have hn := h.ne (by decide)
  have ha := h.at'
  have k0 := c0 ha
  have k1 := c1 k0
  have k2 := c2 k1
  have o0 := g0 h.ok
  have o1 := g1 o0
  have o2 := g2 o1
  refine h.edge ?_ ?_ ?_ ?_ ?_
  · show stp2 R s = _
    simp only [stp2, stpS, q0, q1, q2, Bool.false_eq_true, ↓reduceIte]
    try rfl
  · exact rk_tok _ _ (by show s.at' < s3.at'; have w := b1 rfl; omega) k2
  · exact o2
  · intro w; exact absurd rfl w
  · exact k2
theorem r2a (h : Goo R Z 2 s) (q0 : tK R 8 s = (false, s1)) (q1 : tK R 10 s1 = (true, s2)) (q2 : tSides R s2 = (false, s3)) : Z = (false, s3) := by
  refine h.ret ?_
  show stp2 R s = _
  simp only [stp2, stpS, q0, q1, q2, Bool.false_eq_true, ↓reduceIte]
  try rfl
theorem e25b (h : Goo R Z 2 s) (q0 : tK R 8 s = (false, s1)) (q1 : tK R 10 s1 = (false, s2)) (q2 : tK R 12 s2 = (true, s3)) (q3 : tSides R s3 = (true, s4)) : Goo R Z 5 s4 ∧ rkM R 5 s4 < rkM R 2 s := by
  obtain ⟨a0, b0, c0, d0, e0, f0, g0⟩ := Adv.at' (adv_K R 8) q0
  obtain ⟨a1, b1, c1, d1, e1, f1, g1⟩ := Adv.at' (adv_K R 10) q1
  obtain ⟨a2, b2, c2, d2, e2, f2, g2⟩ := Adv.at' (adv_K R 12) q2
  obtain ⟨a3, b3, c3, d3, e3, f3, g3⟩ := Adv.at' (adv_Sides R) q3
  have hn := h.ne (by decide)
  have ha := h.at'
  have k0 := c0 ha
  have k1 := c1 k0
  have k2 := c2 k1
  have k3 := c3 k2
  have o0 := g0 h.ok
  have o1 := g1 o0
  have o2 := g2 o1
  have o3 := g3 o2
  refine h.edge ?_ ?_ ?_ ?_ ?_
  · show stp2 R s = _
    simp only [stp2, stpS, q0, q1, q2, q3, Bool.false_eq_true, ↓reduceIte]
    try rfl
  · exact rk_tok _ _ (by show s.at' < s4.at'; have w := b2 rfl; omega) k3
  · exact o3
  · intro w; exact absurd rfl w
  · exact k3
theorem r2b (h : Goo R Z 2 s) (q0 : tK R 8 s = (false, s1)) (q1 : tK R 10 s1 = (false, s2)) (q2 : tK R 12 s2 = (true, s3)) (q3 : tSides R s3 = (false, s4)) : Z = (false, s4) := by
  refine h.ret ?_
  show stp2 R s = _
  simp only [stp2, stpS, q0, q1, q2, q3, Bool.false_eq_true, ↓reduceIte]
  try rfl
theorem e25c (h : Goo R Z 2 s) (q0 : tK R 8 s = (false, s1)) (q1 : tK R 10 s1 = (false, s2)) (q2 : tK R 12 s2 = (false, s3)) (q3 : tK R 3 s3 = (true, s4)) (q4 : tSl R s4 = (B, s5)) : Goo R Z 5 s5 ∧ rkM R 5 s5 < rkM R 2 s := by
  obtain ⟨a0, b0, c0, d0, e0, f0, g0⟩ := Adv.at' (adv_K R 8) q0
  obtain ⟨a1, b1, c1, d1, e1, f1, g1⟩ := Adv.at' (adv_K R 10) q1
  obtain ⟨a2, b2, c2, d2, e2, f2, g2⟩ := Adv.at' (adv_K R 12) q2
  obtain ⟨a3, b3, c3, d3, e3, f3, g3⟩ := Adv.at' (adv_K R 3) q3
  obtain ⟨a4, b4, c4, d4, e4, f4, g4⟩ := Adv.at' (adv_Sl R) q4
  have hn := h.ne (by decide)
  have ha := h.at'
  have k0 := c0 ha
  have k1 := c1 k0
  have k2 := c2 k1
  have k3 := c3 k2
  have k4 := c4 k3
  have o0 := g0 h.ok
  have o1 := g1 o0
  have o2 := g2 o1
  have o3 := g3 o2
  have o4 := g4 o3
  refine h.edge ?_ ?_ ?_ ?_ ?_
  · show stp2 R s = _
    simp only [stp2, stp2e, q0, q1, q2, q3, q4, Bool.false_eq_true, ↓reduceIte]
    try rfl
  · exact rk_tok _ _ (by show s.at' < s5.at'; have w := b3 rfl; omega) k4
  · exact o4
  · intro w; exact absurd rfl w
  · exact k4
theorem e25d (h : Goo R Z 2 s) (q0 : tK R 8 s = (false, s1)) (q1 : tK R 10 s1 = (false, s2)) (q2 : tK R 12 s2 = (false, s3)) (q3 : tK R 3 s3 = (false, s4)) (q4 : tK R 1 s4 = (true, s5)) (q5 : tEd R s5 = (B, s6)) : Goo R Z 5 s6 ∧ rkM R 5 s6 < rkM R 2 s := by
  obtain ⟨a0, b0, c0, d0, e0, f0, g0⟩ := Adv.at' (adv_K R 8) q0
  obtain ⟨a1, b1, c1, d1, e1, f1, g1⟩ := Adv.at' (adv_K R 10) q1
  obtain ⟨a2, b2, c2, d2, e2, f2, g2⟩ := Adv.at' (adv_K R 12) q2
  obtain ⟨a3, b3, c3, d3, e3, f3, g3⟩ := Adv.at' (adv_K R 3) q3
  obtain ⟨a4, b4, c4, d4, e4, f4, g4⟩ := Adv.at' (adv_K R 1) q4
  obtain ⟨a5, b5, c5, d5, e5, f5, g5⟩ := Adv.at' (adv_Ed R) q5
  have hn := h.ne (by decide)
  have ha := h.at'
  have k0 := c0 ha
  have k1 := c1 k0
  have k2 := c2 k1
  have k3 := c3 k2
  have k4 := c4 k3
  have k5 := c5 k4
  have o0 := g0 h.ok
  have o1 := g1 o0
  have o2 := g2 o1
  have o3 := g3 o2
  have o4 := g4 o3
  have o5 := g5 o4
  refine h.edge ?_ ?_ ?_ ?_ ?_
  · show stp2 R s = _
    simp only [stp2, stp2e, q0, q1, q2, q3, q4, q5, Bool.false_eq_true, ↓reduceIte]
    try rfl
  · exact rk_tok _ _ (by show s.at' < s6.at'; have w := b4 rfl; omega) k5
  · exact o5
  · intro w; exact absurd rfl w
  · exact k5
theorem e25e (h : Goo R Z 2 s) (q0 : tK R 8 s = (false, s1)) (q1 : tK R 10 s1 = (false, s2)) (q2 : tK R 12 s2 = (false, s3)) (q3 : tK R 3 s3 = (false, s4)) (q4 : tK R 1 s4 = (false, s5)) (q5 : tK R 2 s5 = (true, s6)) : Goo R Z 5 s6 ∧ rkM R 5 s6 < rkM R 2 s := by
  obtain ⟨a0, b0, c0, d0, e0, f0, g0⟩ := Adv.at' (adv_K R 8) q0
  obtain ⟨a1, b1, c1, d1, e1, f1, g1⟩ := Adv.at' (adv_K R 10) q1
  obtain ⟨a2, b2, c2, d2, e2, f2, g2⟩ := Adv.at' (adv_K R 12) q2
  obtain ⟨a3, b3, c3, d3, e3, f3, g3⟩ := Adv.at' (adv_K R 3) q3
  obtain ⟨a4, b4, c4, d4, e4, f4, g4⟩ := Adv.at' (adv_K R 1) q4
  obtain ⟨a5, b5, c5, d5, e5, f5, g5⟩ := Adv.at' (adv_K R 2) q5
  have hn := h.ne (by decide)
  have ha := h.at'
  have k0 := c0 ha
  have k1 := c1 k0
  have k2 := c2 k1
  have k3 := c3 k2
  have k4 := c4 k3
  have k5 := c5 k4
  have o0 := g0 h.ok
  have o1 := g1 o0
  have o2 := g2 o1
  have o3 := g3 o2
  have o4 := g4 o3
  have o5 := g5 o4
  refine h.edge ?_ ?_ ?_ ?_ ?_
  · show stp2 R s = _
    simp only [stp2, stp2e, q0, q1, q2, q3, q4, q5, Bool.false_eq_true, ↓reduceIte]
    try rfl
  · exact rk_tok _ _ (by show s.at' < s6.at'; have w := b5 rfl; omega) k5
  · exact o5
  · intro w; exact absurd rfl w
  · exact k5
theorem r2c (h : Goo R Z 2 s) (q0 : tK R 8 s = (false, s1)) (q1 : tK R 10 s1 = (false, s2)) (q2 : tK R 12 s2 = (false, s3)) (q3 : tK R 3 s3 = (false, s4)) (q4 : tK R 1 s4 = (false, s5)) (q5 : tK R 2 s5 = (false, s6)) : Z = (false, s6) := by
  refine h.ret ?_
  show stp2 R s = _
  simp only [stp2, stp2e, q0, q1, q2, q3, q4, q5, Bool.false_eq_true, ↓reduceIte]
  try rfl
theorem e35a (h : Goo R Z 3 s) (q0 : tK R 14 s = (true, s1)) (q1 : tSt R s1 = (true, s2)) : Goo R Z 5 s2 ∧ rkM R 5 s2 < rkM R 3 s := by
  obtain ⟨a0, b0, c0, d0, e0, f0, g0⟩ := Adv.at' (adv_K R 14) q0
  obtain ⟨a1, b1, c1, d1, e1, f1, g1⟩ := Adv.at' (adv_St R) q1
  have hn := h.ne (by decide)
  have ha := h.at'
  have k0 := c0 ha
  have k1 := c1 k0
  have o0 := g0 h.ok
  have o1 := g1 o0
  refine h.edge ?_ ?_ ?_ ?_ ?_
  · show stp3 R s = _
    simp only [stp3, q0, q1, ↓reduceIte]
    try rfl
  · exact rk_tok _ _ (by show s.at' < s2.at'; have w := b0 rfl; omega) k1
  · exact o1
  · intro w; exact absurd rfl w
  · exact k1
theorem r3 (h : Goo R Z 3 s) (q0 : tK R 14 s = (true, s1)) (q1 : tSt R s1 = (false, s2)) : Z = (false, s2) := by
  refine h.ret ?_
  show stp3 R s = _
  simp only [stp3, q0, q1, Bool.false_eq_true, ↓reduceIte]
  try rfl
theorem e35b (h : Goo R Z 3 s) (q0 : tK R 14 s = (false, s1)) : Goo R Z 5 s1 ∧ rkM R 5 s1 < rkM R 3 s := by
  obtain ⟨a0, b0, c0, d0, e0, f0, g0⟩ := Adv.at' (adv_K R 14) q0
  have hn := h.ne (by decide)
  have ha := h.at'
  have k0 := c0 ha
  have o0 := g0 h.ok
  refine h.edge ?_ ?_ ?_ ?_ ?_
  · show stp3 R s = _
    simp only [stp3, q0, Bool.false_eq_true, ↓reduceIte]
    try rfl
  · exact rk_lab (by show s.at' ≤ s1.at'; omega) (by decide)
  · exact o0
  · intro w; exact absurd rfl w
  · exact k0
theorem e42 (h : Goo R Z 4 s) (q0 : tK R 14 s = (true, s1)) : Goo R Z 2 s1 ∧ rkM R 2 s1 < rkM R 4 s := by
  obtain ⟨a0, b0, c0, d0, e0, f0, g0⟩ := Adv.at' (adv_K R 14) q0
  have hn := h.ne (by decide)
  have ha := h.at'
  have k0 := c0 ha
  have o0 := g0 h.ok
  refine h.edge ?_ ?_ ?_ ?_ ?_
  · show stp4 R s = _
    simp only [stp4, q0, ↓reduceIte]
    try rfl
  · exact rk_tok _ _ (by show s.at' < s1.at'; have w := b0 rfl; omega) k0
  · exact o0
  · intro _; show s1.ne = 0; rw [d0]; exact hn
  · exact k0
theorem e45 (h : Goo R Z 4 s) (q0 : tK R 14 s = (false, s1)) (q1 : tEd R s1 = (B, s2)) : Goo R Z 5 s2 ∧ rkM R 5 s2 < rkM R 4 s := by
  obtain ⟨a0, b0, c0, d0, e0, f0, g0⟩ := Adv.at' (adv_K R 14) q0
  obtain ⟨a1, b1, c1, d1, e1, f1, g1⟩ := Adv.at' (adv_Ed R) q1
  have hn := h.ne (by decide)
  have ha := h.at'
  have k0 := c0 ha
  have k1 := c1 k0
  have o0 := g0 h.ok
  have o1 := g1 o0
  refine h.edge ?_ ?_ ?_ ?_ ?_
  · show stp4 R s = _
    simp only [stp4, q0, q1, Bool.false_eq_true, ↓reduceIte]
    try rfl
  · exact rk_lab (by show s.at' ≤ s2.at'; omega) (by decide)
  · exact o1
  · intro w; exact absurd rfl w
  · exact k1
theorem e55 (h : Goo R Z 5 s) (q0 : orT (tK R 18) (tK R 19) s = (true, s1)) : Goo R Z 5 { s1 with ne := s1.ne + 1 } ∧ rkM R 5 { s1 with ne := s1.ne + 1 } < rkM R 5 s := by
  obtain ⟨a0, b0, c0, d0, e0, f0, g0⟩ := Adv.at' ((adv_K R 18).or (adv_K R 19)) q0
  have ha := h.at'
  have k0 := c0 ha
  have o0 := g0 h.ok
  refine h.edge ?_ ?_ ?_ ?_ ?_
  · show stp5 R s = _
    simp only [stp5, q0, ↓reduceIte]
    try rfl
  · exact rk_tok _ _ (by show s.at' < s1.at'; have w := b0 rfl; omega) k0
  · exact h.ok.boost (b0 rfl) d0 e0 f0
  · intro w; exact absurd rfl w
  · exact k0
end Go.Proofs.YtiemiphlfbaojaaDoor
