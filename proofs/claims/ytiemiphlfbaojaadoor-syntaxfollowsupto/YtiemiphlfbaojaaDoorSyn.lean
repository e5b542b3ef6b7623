import Derived.Test.YtiemiphlfbaojaaDoorSym
namespace Go.Proofs.YtiemiphlfbaojaaDoor
open Go.ChangeShapes Go.WideShapes Go.ChangeAt Go.RowKit
variable {w : World} {b rc : Nat} {a0 : Option Addr} {R : List Tn}

/-! A row whose last token is the end: the run never goes behind it, but where it answers true. -/
def EndR (R : List Tn) : Prop := ∃ y, R[R.length - 1]? = some y ∧ y.k = 0
def Bd (R : List Tn) (F : MS → Bool × MS) : Prop := ∀ s, s.at' < R.length → (F s).2.at' < R.length
theorem bd_tk (hE : EndR R) (k : Nat) (f : Tn → Bool) (hf : ∀ y : Tn, y.k = 0 → f y = false) : Bd R (fun s => (tkB R f s, tkS R k f s)) := by
  intro s hs
  obtain ⟨y, hy, h0⟩ := hE
  show (s.pass k (f (tkA R s.at'))).at' < R.length
  unfold MS.pass
  cases hq : f (tkA R s.at') with
  | false => exact hs
  | true =>
    show s.at' + 1 < R.length
    rcases Nat.lt_or_ge (s.at' + 1) R.length with q | q
    · exact q
    · exfalso
      have e : s.at' = R.length - 1 := by omega
      have : tkA R s.at' = y := by unfold tkA; rw [e, hy]; rfl
      rw [this, hf y h0] at hq
      cases hq
theorem bd_K (hE : EndR R) (k : Nat) (hk : k ≠ 0) : Bd R (tK R k) := bd_tk hE k (isK k) (fun y h => by unfold isK; rw [h, beq_eq_false_iff_ne]; omega)
theorem bd_St (hE : EndR R) : Bd R (tSt R) := bd_tk hE 2 isSt (fun y h => by unfold isSt; rw [h]; rfl)
theorem bd_Ed (hE : EndR R) : Bd R (tEd R) := bd_tk hE 20 isEd (fun y h => by unfold isEd; rw [h]; rfl)
theorem bd_Sl (hE : EndR R) : Bd R (tSl R) := bd_tk hE 20 isSl (fun y h => by unfold isSl; rw [h]; rfl)
theorem Bd.or {p q : MS → Bool × MS} (hp : Bd R p) (hq : Bd R q) : Bd R (orT p q) := by
  intro s hs
  unfold orT
  split
  · exact hp s hs
  · exact hq _ (hp s hs)
theorem Bd.and {p q : MS → Bool × MS} (hp : Bd R p) (hq : Bd R q) : Bd R (andT p q) := by
  intro s hs
  unfold andT
  split
  · exact hq _ (hp s hs)
  · exact hp s hs
theorem bd_Side (hE : EndR R) : Bd R (tSide R) := ((bd_K hE 1 (by decide)).or (bd_K hE 3 (by decide))).or (bd_St hE)
theorem bd_Sides (hE : EndR R) : Bd R (tSides R) := (((bd_Side hE).and (bd_K hE 7 (by decide))).and (bd_Side hE)).and ((bd_K hE 11 (by decide)).or (bd_K hE 13 (by decide)))
theorem bd_Join (hE : EndR R) : Bd R (tJoin R) := ((bd_K hE 5 (by decide)).or (bd_K hE 4 (by decide))).or (bd_K hE 17 (by decide))
theorem tk0_no {s : MS} (h : (tK R 0 s).1 = false) : (tK R 0 s).2.at' = s.at' := by
  have h : isK 0 (tkA R s.at') = false := h
  show (s.pass 0 (isK 0 (tkA R s.at'))).at' = s.at'
  unfold MS.pass
  rw [h]
  rfl
def InR (R : List Tn) (x : (Nat ⊕ Bool) × MS) : Prop := (∃ l, x.1 = .inl l ∧ x.2.at' < R.length) ∨ (∃ b, x.1 = .inr b ∧ (b = false → x.2.at' < R.length))
theorem in_go {l : Nat} {s : MS} (h : s.at' < R.length) : InR R (.inl l, s) := .inl ⟨l, rfl, h⟩
theorem in_no {s : MS} (h : s.at' < R.length) : InR R (.inr false, s) := .inr ⟨false, rfl, fun _ => h⟩
theorem in_yes {s : MS} : InR R (.inr true, s) := .inr ⟨true, rfl, fun h => by cases h⟩
theorem in_5e (hE : EndR R) {s : MS} (h : s.at' < R.length) : InR R (stp5e R s) := by
  unfold stp5e
  split
  · split
    · exact in_yes
    · rename_i q
      exact in_go (by rw [tk0_no (by simpa using q)]; exact h)
  · rename_i l r _
    split
    · refine in_go (bd_K hE 21 (by decide) _ ?_)
      exact bd_K hE 9 (by decide) _ h
    · exact in_go (bd_K hE 9 (by decide) _ h)
theorem in_stp (hE : EndR R) (lab : Nat) {s : MS} (h : s.at' < R.length) : InR R (stpM R lab s) := by
  have K : ∀ k, k ≠ 0 → ∀ s : MS, s.at' < R.length → (tK R k s).2.at' < R.length := fun k hk s hs => bd_K hE k hk s hs
  have St := bd_St hE
  have Ed := bd_Ed hE
  have Sl := bd_Sl hE
  unfold stpM
  split
  · exact in_go (((bd_K hE 15 (by decide)).or (bd_K hE 16 (by decide))) s h)
  split
  · have h6 := K 6 (by decide) s h
    have hs := St _ h6
    have h1 := K 1 (by decide) _ hs
    unfold stp1
    split
    · exact in_go h6
    · split
      · exact in_go hs
      · split <;> exact in_go h1
  split
  · have h8 := K 8 (by decide) s h
    have h10 := K 10 (by decide) _ h8
    have h12 := K 12 (by decide) _ h10
    have h3 := K 3 (by decide) _ h12
    have h1 := K 1 (by decide) _ h3
    have h2 := K 2 (by decide) _ h1
    have hS : ∀ t : MS, t.at' < R.length → InR R (stpS R t) := fun t ht => by
      unfold stpS
      split
      · exact in_go (bd_Sides hE t ht)
      · exact in_no (bd_Sides hE t ht)
    unfold stp2
    split
    · exact in_go h8
    · split
      · exact hS _ h10
      · split
        · exact hS _ h12
        · unfold stp2e
          split
          · exact in_go (Sl _ h3)
          · split
            · exact in_go (Ed _ h1)
            · split
              · exact in_go h2
              · exact in_no h2
  split
  · have h14 := K 14 (by decide) s h
    unfold stp3
    split
    · split
      · exact in_go (St _ h14)
      · exact in_no (St _ h14)
    · exact in_go h14
  split
  · have h14 := K 14 (by decide) s h
    unfold stp4
    split
    · exact in_go h14
    · exact in_go (Ed _ h14)
  · have ho := ((bd_K hE 18 (by decide)).or (bd_K hE 19 (by decide))) s h
    unfold stp5
    split
    · exact in_go ho
    · unfold stp5u
      split
      · exact in_5e hE ho
      · split
        · exact in_go (bd_Join hE _ ho)
        · exact in_5e hE (bd_Join hE _ ho)
theorem run_in (hE : EndR R) : ∀ (f lab : Nat) (s : MS), s.at' < R.length → (runF R f lab s).1 = false → (runF R f lab s).2.at' < R.length := by
  intro f
  induction f with
  | zero => intro lab s h _; exact h
  | succ f ih =>
    intro lab s h
    rcases in_stp hE lab h with ⟨l, h1, h2⟩ | ⟨b, h1, h2⟩
    · have e : stpM R lab s = (.inl l, (stpM R lab s).2) := by rw [← h1]
      rw [runF_go e]
      exact ih l _ h2
    · have e : stpM R lab s = (.inr b, (stpM R lab s).2) := by rw [← h1]
      rw [runF_ret e]
      exact h2
theorem runR_in (hE : EndR R) (h : (runR R).1 = false) : (runR R).2.at' < R.length := by
  refine run_in hE _ 0 s00 ?_ h
  obtain ⟨y, hy, _⟩ := hE
  have := (List.getElem?_eq_some_iff.1 hy).1
  show 0 < R.length
  omega
/-- What judge answers: the nest, or the place of the fault. -/
def jdPost (w : World) (ad : Addr) (R : List Tn) (x : Ending) (w' : World) : Prop :=
  (((runR R).1 = true ∧ x = .returned (.tuple #[.int .i64 (((runR R).2.top.n : Nat) : Int), .int .i64 0, .nilIface])) ∨ ((runR R).1 = false ∧ x = .returned (.tuple #[.int .i64 0, .int .i64 (tkA R (runR R).2.at').a, synV ad]))) ∧ Kept (fun _ => False) w w'
set_option maxRecDepth 20000 in
set_option maxHeartbeats 4000000 in
theorem judge_any (n : Nat) (ad : Addr) (hn : n = R.length) (hR : Rw w a0 R) (hr : R.length ≤ 500000000000) (hE : EndR R) (hS : SynAt w ad) : Calls Tryd.prog 13 #[.slice a0 n rc] w (jdPost w ad R) := by
  subst hn
  have CR := hideL (run_any (mc_start (rc := rc) hR hr) (goo_start R))
  unfold rnPost at CR
  obtain ⟨B, t, hZ⟩ : ∃ B t, runR R = (B, t) := ⟨_, _, rfl⟩
  have hin := runR_in hE
  unfold jdPost
  rw [hZ] at CR hin ⊢
  dsimp only at CR hin ⊢
  have HR := hideL hR
  have HS := hideL hS
  clear hZ hE hR hS
  cases B with
  | true =>
    generalize R.length = n at *
    clear hin
    go_enter Tryd.func13, Tryd.ntmps13
    go_wp2_with (go_at_call 17; refine CR.out.mono ?_; clear CR; rintro e W1 ⟨rfl, v1, h1⟩; have H1 := hideL h1; have x4 := H1.out.cells.2.2.2.2.1; clear h1)
    go_ret3
    exact ⟨.inl ⟨trivial, rfl⟩, H1.out.kept⟩
  | false =>
    have hlt := hin rfl
    have hne : R ≠ [] := by intro e; rw [e] at hlt; simp at hlt
    obtain ⟨g, o, e0, hc⟩ := HR.out hne
    have hy : R[t.at']? = some R[t.at'] := List.getElem?_eq_getElem hlt
    have et : tkA R t.at' = R[t.at'] := by unfold tkA; rw [hy]; rfl
    have HC := hideL (fun W (k : Kept (fun _ => False) w W) => ((hc _ _ hy).later k).c3)
    rw [et]
    have hz : (t.at' : Int) < (R.length : Int) := by omega
    subst e0
    generalize R[t.at'] = Y at *
    generalize hp : t.at' = p at *
    generalize R.length = n at *
    have HPp := hideL hp
    clear hin hc hy et hne hlt hp HR
    go_enter Tryd.func13, Tryd.ntmps13
    go_wp2_with (go_at_call 17; refine CR.out.mono ?_; clear CR; rintro e W1 ⟨rfl, v1, h1⟩; have H1 := hideL h1; have x1 := H1.out.cells.2.1; rw [HPp.out] at x1; have x3 := HC.out W1 H1.out.kept; have xs := (HS.out.later H1.out.kept).var; unfold synV at xs; clear h1)
    go_region
    all_goals go_wp2_with fail
    all_goals go_ret3
    all_goals exact ⟨.inr ⟨trivial, rfl⟩, H1.out.kept.trans (Kept.drew _) (fun _ f => f.elim)⟩
end Go.Proofs.YtiemiphlfbaojaaDoor
