import Derived.Test.YtiemiphlfbaojaaDoorMrg2
namespace Go.Proofs.YtiemiphlfbaojaaDoor
open Go.ChangeShapes Go.WideShapes Go.ChangeAt Go.RowKit
variable {w0 w w' : World} {b rc : Nat} {a0 : Option Addr} {R : List Tn} {v : Value} {s : MS}

/-! Takings one behind the other. -/
def orT (p q : MS → Bool × MS) (s : MS) : Bool × MS := if (p s).1 then p s else q (p s).2
def andT (p q : MS → Bool × MS) (s : MS) : Bool × MS := if (p s).1 then q (p s).2 else p s
theorem or_yes {p q : MS → Bool × MS} {s s1 : MS} (h : p s = (true, s1)) : orT p q s = (true, s1) := by unfold orT; rw [h]; rfl
theorem or_no {p q : MS → Bool × MS} {s s1 : MS} (h : p s = (false, s1)) : orT p q s = q s1 := by unfold orT; rw [h]; rfl
theorem and_yes {p q : MS → Bool × MS} {s s1 : MS} (h : p s = (true, s1)) : andT p q s = q s1 := by unfold andT; rw [h]; rfl
theorem and_no {p q : MS → Bool × MS} {s s1 : MS} (h : p s = (false, s1)) : andT p q s = (false, s1) := by unfold andT; rw [h]; rfl
def tK (R : List Tn) (k : Nat) (s : MS) : Bool × MS := (tkB R (isK k) s, tkS R k (isK k) s)
def tSt (R : List Tn) (s : MS) : Bool × MS := (tkB R isSt s, tkS R 2 isSt s)
def tEd (R : List Tn) (s : MS) : Bool × MS := (tkB R isEd s, tkS R 20 isEd s)
def tSl (R : List Tn) (s : MS) : Bool × MS := (tkB R isSl s, tkS R 20 isSl s)
def tSide (R : List Tn) : MS → Bool × MS := orT (orT (tK R 1) (tK R 3)) (tSt R)
def tSides (R : List Tn) : MS → Bool × MS := andT (andT (andT (tSide R) (tK R 7)) (tSide R)) (orT (tK R 11) (tK R 13))
def tJoin (R : List Tn) : MS → Bool × MS := orT (orT (tK R 5) (tK R 4)) (tK R 17)
/-- A method that takes. -/
def Tks14 (w0 : World) (b rc : Nat) (a0 : Option Addr) (R : List Tn) (f : FuncId) (args : Array Value) (F : MS → Bool × MS) : Prop :=
  ∀ (w : World) (v : Value) (s : MS), Mc w0 w b rc a0 R v s → Calls Tryd.prog f args w fun e w' => e = .returned (.bool (F s).1) ∧ Mc w0 w' b rc a0 R v (F s).2
theorem tks_take (k : Nat) (hk : k ≤ 21) : Tks14 w0 b rc a0 R 29 #[.pointer (some ⟨b, 0, none⟩), .int .i64 (k : Int)] (tK R k) := fun _ _ _ h => take_anyS h k hk
theorem tks_star : Tks14 w0 b rc a0 R 30 #[.pointer (some ⟨b, 0, none⟩)] (tSt R) := fun _ _ _ h => takeStar_anyS h
theorem tks_edits : Tks14 w0 b rc a0 R 34 #[.pointer (some ⟨b, 0, none⟩)] (tEd R) := fun _ _ _ h => takeEdits_anyS h
theorem tks_slop : Tks14 w0 b rc a0 R 33 #[.pointer (some ⟨b, 0, none⟩)] (tSl R) := fun _ _ _ h => takeSlop_anyS h
/-- A method's contract at one state, its answer named. -/
theorem Tks14.at' {f : FuncId} {args : Array Value} {F : MS → Bool × MS} (h : Tks14 w0 b rc a0 R f args F) {s : MS} {B : Bool} {s1 : MS} (e : F s = (B, s1)) (v : Value) : ∀ W, Mc w0 W b rc a0 R v s → Calls Tryd.prog f args W fun e w' => e = .returned (.bool B) ∧ Mc w0 w' b rc a0 R v s1 := fun W hW => by
  have := h W v s hW
  rw [e] at this
  exact this
set_option maxRecDepth 20000 in
set_option maxHeartbeats 4000000 in
theorem tks_takeSide : Tks14 w0 b rc a0 R 59 #[.pointer (some ⟨b, 0, none⟩)] (tSide R) := by
  intro w v s h
  have H0 := hideL h
  clear h
  obtain ⟨⟨B0, s1⟩, q0⟩ : ∃ x, tK R 1 s = x := ⟨_, rfl⟩
  have D0 := hideL ((tks_take (w0 := w0) (b := b) (rc := rc) (a0 := a0) (R := R) 1 (by decide)).at' q0 v)
  cases B0 with
  | true =>
    have E : tSide R s = (true, s1) := by unfold tSide; exact or_yes (or_yes q0)
    rw [E]
    clear E
    clear q0
    go_enter Tryd.func59, Tryd.ntmps59
    go_wp2_with (first
      | (go_at_call 29; refine (D0.out _ H0.out).mono ?_; clear D0; rintro e W1 ⟨rfl, h1⟩; have H1 := hideL h1; clear h1 H0))
    go_ret
    exact ⟨rfl, H1.out⟩
  | false =>
    obtain ⟨⟨B1, s2⟩, q1⟩ : ∃ x, tK R 3 s1 = x := ⟨_, rfl⟩
    have D1 := hideL ((tks_take (w0 := w0) (b := b) (rc := rc) (a0 := a0) (R := R) 3 (by decide)).at' q1 v)
    cases B1 with
    | true =>
      have E : tSide R s = (true, s2) := by unfold tSide; exact or_yes ((or_no q0).trans q1)
      rw [E]
      clear E
      clear q0 q1
      go_enter Tryd.func59, Tryd.ntmps59
      go_wp2_with (first
        | (go_at_call 29; refine (D0.out _ H0.out).mono ?_; clear D0; rintro e W1 ⟨rfl, h1⟩; have H1 := hideL h1; clear h1 H0)
        | (go_at_call 29; refine (D1.out _ H1.out).mono ?_; clear D1; rintro e W2 ⟨rfl, h1⟩; have H2 := hideL h1; clear h1 H1))
      go_ret
      exact ⟨rfl, H2.out⟩
    | false =>
      obtain ⟨⟨B2, s3⟩, q2⟩ : ∃ x, tSt R s2 = x := ⟨_, rfl⟩
      have D2 := hideL ((tks_star (w0 := w0) (b := b) (rc := rc) (a0 := a0) (R := R)).at' q2 v)
      cases B2 with
      | true =>
        have E : tSide R s = (true, s3) := by unfold tSide; rw [or_no ((or_no q0).trans q1)]; exact q2
        rw [E]
        clear E
        clear q0 q1 q2
        go_enter Tryd.func59, Tryd.ntmps59
        go_wp2_with (first
          | (go_at_call 29; refine (D0.out _ H0.out).mono ?_; clear D0; rintro e W1 ⟨rfl, h1⟩; have H1 := hideL h1; clear h1 H0)
          | (go_at_call 29; refine (D1.out _ H1.out).mono ?_; clear D1; rintro e W2 ⟨rfl, h1⟩; have H2 := hideL h1; clear h1 H1)
          | (go_at_call 30; refine (D2.out _ H2.out).mono ?_; clear D2; rintro e W3 ⟨rfl, h1⟩; have H3 := hideL h1; clear h1 H2))
        go_ret
        exact ⟨rfl, H3.out⟩
      | false =>
        have E : tSide R s = (false, s3) := by unfold tSide; rw [or_no ((or_no q0).trans q1)]; exact q2
        rw [E]
        clear E
        clear q0 q1 q2
        go_enter Tryd.func59, Tryd.ntmps59
        go_wp2_with (first
          | (go_at_call 29; refine (D0.out _ H0.out).mono ?_; clear D0; rintro e W1 ⟨rfl, h1⟩; have H1 := hideL h1; clear h1 H0)
          | (go_at_call 29; refine (D1.out _ H1.out).mono ?_; clear D1; rintro e W2 ⟨rfl, h1⟩; have H2 := hideL h1; clear h1 H1)
          | (go_at_call 30; refine (D2.out _ H2.out).mono ?_; clear D2; rintro e W3 ⟨rfl, h1⟩; have H3 := hideL h1; clear h1 H2))
        go_ret
        exact ⟨rfl, H3.out⟩
set_option maxRecDepth 20000 in
set_option maxHeartbeats 4000000 in
theorem tks_takeJoin : Tks14 w0 b rc a0 R 36 #[.pointer (some ⟨b, 0, none⟩)] (tJoin R) := by
  intro w v s h
  have H0 := hideL h
  clear h
  obtain ⟨⟨B0, s1⟩, q0⟩ : ∃ x, tK R 5 s = x := ⟨_, rfl⟩
  have D0 := hideL ((tks_take (w0 := w0) (b := b) (rc := rc) (a0 := a0) (R := R) 5 (by decide)).at' q0 v)
  cases B0 with
  | true =>
    have E : tJoin R s = (true, s1) := by unfold tJoin; exact or_yes (or_yes q0)
    rw [E]
    clear E
    clear q0
    go_enter Tryd.func36, Tryd.ntmps36
    go_wp2_with (first
      | (go_at_call 29; refine (D0.out _ H0.out).mono ?_; clear D0; rintro e W1 ⟨rfl, h1⟩; have H1 := hideL h1; clear h1 H0))
    go_ret
    exact ⟨rfl, H1.out⟩
  | false =>
    obtain ⟨⟨B1, s2⟩, q1⟩ : ∃ x, tK R 4 s1 = x := ⟨_, rfl⟩
    have D1 := hideL ((tks_take (w0 := w0) (b := b) (rc := rc) (a0 := a0) (R := R) 4 (by decide)).at' q1 v)
    cases B1 with
    | true =>
      have E : tJoin R s = (true, s2) := by unfold tJoin; exact or_yes ((or_no q0).trans q1)
      rw [E]
      clear E
      clear q0 q1
      go_enter Tryd.func36, Tryd.ntmps36
      go_wp2_with (first
        | (go_at_call 29; refine (D0.out _ H0.out).mono ?_; clear D0; rintro e W1 ⟨rfl, h1⟩; have H1 := hideL h1; clear h1 H0)
        | (go_at_call 29; refine (D1.out _ H1.out).mono ?_; clear D1; rintro e W2 ⟨rfl, h1⟩; have H2 := hideL h1; clear h1 H1))
      go_ret
      exact ⟨rfl, H2.out⟩
    | false =>
      obtain ⟨⟨B2, s3⟩, q2⟩ : ∃ x, tK R 17 s2 = x := ⟨_, rfl⟩
      have D2 := hideL ((tks_take (w0 := w0) (b := b) (rc := rc) (a0 := a0) (R := R) 17 (by decide)).at' q2 v)
      cases B2 with
      | true =>
        have E : tJoin R s = (true, s3) := by unfold tJoin; rw [or_no ((or_no q0).trans q1)]; exact q2
        rw [E]
        clear E
        clear q0 q1 q2
        go_enter Tryd.func36, Tryd.ntmps36
        go_wp2_with (first
          | (go_at_call 29; refine (D0.out _ H0.out).mono ?_; clear D0; rintro e W1 ⟨rfl, h1⟩; have H1 := hideL h1; clear h1 H0)
          | (go_at_call 29; refine (D1.out _ H1.out).mono ?_; clear D1; rintro e W2 ⟨rfl, h1⟩; have H2 := hideL h1; clear h1 H1)
          | (go_at_call 29; refine (D2.out _ H2.out).mono ?_; clear D2; rintro e W3 ⟨rfl, h1⟩; have H3 := hideL h1; clear h1 H2))
        go_ret
        exact ⟨rfl, H3.out⟩
      | false =>
        have E : tJoin R s = (false, s3) := by unfold tJoin; rw [or_no ((or_no q0).trans q1)]; exact q2
        rw [E]
        clear E
        clear q0 q1 q2
        go_enter Tryd.func36, Tryd.ntmps36
        go_wp2_with (first
          | (go_at_call 29; refine (D0.out _ H0.out).mono ?_; clear D0; rintro e W1 ⟨rfl, h1⟩; have H1 := hideL h1; clear h1 H0)
          | (go_at_call 29; refine (D1.out _ H1.out).mono ?_; clear D1; rintro e W2 ⟨rfl, h1⟩; have H2 := hideL h1; clear h1 H1)
          | (go_at_call 29; refine (D2.out _ H2.out).mono ?_; clear D2; rintro e W3 ⟨rfl, h1⟩; have H3 := hideL h1; clear h1 H2))
        go_ret
        exact ⟨rfl, H3.out⟩
set_option maxRecDepth 20000 in
set_option maxHeartbeats 4000000 in
theorem tks_takeSides : Tks14 w0 b rc a0 R 32 #[.pointer (some ⟨b, 0, none⟩)] (tSides R) := by
  intro w v s h
  have H0 := hideL h
  clear h
  obtain ⟨⟨B0, s1⟩, q0⟩ : ∃ x, tSide R s = x := ⟨_, rfl⟩
  have D0 := hideL ((tks_takeSide (w0 := w0) (b := b) (rc := rc) (a0 := a0) (R := R)).at' q0 v)
  cases B0 with
  | true =>
    obtain ⟨⟨B1, s2⟩, q1⟩ : ∃ x, tK R 7 s1 = x := ⟨_, rfl⟩
    have D1 := hideL ((tks_take (w0 := w0) (b := b) (rc := rc) (a0 := a0) (R := R) 7 (by decide)).at' q1 v)
    cases B1 with
    | true =>
      obtain ⟨⟨B2, s3⟩, q2⟩ : ∃ x, tSide R s2 = x := ⟨_, rfl⟩
      have D2 := hideL ((tks_takeSide (w0 := w0) (b := b) (rc := rc) (a0 := a0) (R := R)).at' q2 v)
      cases B2 with
      | true =>
        obtain ⟨⟨B3, s4⟩, q3⟩ : ∃ x, tK R 11 s3 = x := ⟨_, rfl⟩
        have D3 := hideL ((tks_take (w0 := w0) (b := b) (rc := rc) (a0 := a0) (R := R) 11 (by decide)).at' q3 v)
        cases B3 with
        | true =>
          have E : tSides R s = (true, s4) := by unfold tSides; rw [and_yes ((and_yes ((and_yes q0).trans q1)).trans q2)]; exact or_yes q3
          rw [E]
          clear E
          clear q0 q1 q2 q3
          go_enter Tryd.func32, Tryd.ntmps32
          go_wp2_with (first
            | (go_at_call 59; refine (D0.out _ H0.out).mono ?_; clear D0; rintro e W1 ⟨rfl, h1⟩; have H1 := hideL h1; clear h1 H0)
            | (go_at_call 29; refine (D1.out _ H1.out).mono ?_; clear D1; rintro e W2 ⟨rfl, h1⟩; have H2 := hideL h1; clear h1 H1)
            | (go_at_call 59; refine (D2.out _ H2.out).mono ?_; clear D2; rintro e W3 ⟨rfl, h1⟩; have H3 := hideL h1; clear h1 H2)
            | (go_at_call 29; refine (D3.out _ H3.out).mono ?_; clear D3; rintro e W4 ⟨rfl, h1⟩; have H4 := hideL h1; clear h1 H3))
          go_ret
          exact ⟨rfl, H4.out⟩
        | false =>
          obtain ⟨⟨B4, s5⟩, q4⟩ : ∃ x, tK R 13 s4 = x := ⟨_, rfl⟩
          have D4 := hideL ((tks_take (w0 := w0) (b := b) (rc := rc) (a0 := a0) (R := R) 13 (by decide)).at' q4 v)
          cases B4 with
          | true =>
            have E : tSides R s = (true, s5) := by unfold tSides; rw [and_yes ((and_yes ((and_yes q0).trans q1)).trans q2), or_no q3]; exact q4
            rw [E]
            clear E
            clear q0 q1 q2 q3 q4
            go_enter Tryd.func32, Tryd.ntmps32
            go_wp2_with (first
              | (go_at_call 59; refine (D0.out _ H0.out).mono ?_; clear D0; rintro e W1 ⟨rfl, h1⟩; have H1 := hideL h1; clear h1 H0)
              | (go_at_call 29; refine (D1.out _ H1.out).mono ?_; clear D1; rintro e W2 ⟨rfl, h1⟩; have H2 := hideL h1; clear h1 H1)
              | (go_at_call 59; refine (D2.out _ H2.out).mono ?_; clear D2; rintro e W3 ⟨rfl, h1⟩; have H3 := hideL h1; clear h1 H2)
              | (go_at_call 29; refine (D3.out _ H3.out).mono ?_; clear D3; rintro e W4 ⟨rfl, h1⟩; have H4 := hideL h1; clear h1 H3)
              | (go_at_call 29; refine (D4.out _ H4.out).mono ?_; clear D4; rintro e W5 ⟨rfl, h1⟩; have H5 := hideL h1; clear h1 H4))
            go_ret
            exact ⟨rfl, H5.out⟩
          | false =>
            have E : tSides R s = (false, s5) := by unfold tSides; rw [and_yes ((and_yes ((and_yes q0).trans q1)).trans q2), or_no q3]; exact q4
            rw [E]
            clear E
            clear q0 q1 q2 q3 q4
            go_enter Tryd.func32, Tryd.ntmps32
            go_wp2_with (first
              | (go_at_call 59; refine (D0.out _ H0.out).mono ?_; clear D0; rintro e W1 ⟨rfl, h1⟩; have H1 := hideL h1; clear h1 H0)
              | (go_at_call 29; refine (D1.out _ H1.out).mono ?_; clear D1; rintro e W2 ⟨rfl, h1⟩; have H2 := hideL h1; clear h1 H1)
              | (go_at_call 59; refine (D2.out _ H2.out).mono ?_; clear D2; rintro e W3 ⟨rfl, h1⟩; have H3 := hideL h1; clear h1 H2)
              | (go_at_call 29; refine (D3.out _ H3.out).mono ?_; clear D3; rintro e W4 ⟨rfl, h1⟩; have H4 := hideL h1; clear h1 H3)
              | (go_at_call 29; refine (D4.out _ H4.out).mono ?_; clear D4; rintro e W5 ⟨rfl, h1⟩; have H5 := hideL h1; clear h1 H4))
            go_ret
            exact ⟨rfl, H5.out⟩
      | false =>
        have E : tSides R s = (false, s3) := by unfold tSides; exact and_no ((and_yes ((and_yes q0).trans q1)).trans q2)
        rw [E]
        clear E
        clear q0 q1 q2
        go_enter Tryd.func32, Tryd.ntmps32
        go_wp2_with (first
          | (go_at_call 59; refine (D0.out _ H0.out).mono ?_; clear D0; rintro e W1 ⟨rfl, h1⟩; have H1 := hideL h1; clear h1 H0)
          | (go_at_call 29; refine (D1.out _ H1.out).mono ?_; clear D1; rintro e W2 ⟨rfl, h1⟩; have H2 := hideL h1; clear h1 H1)
          | (go_at_call 59; refine (D2.out _ H2.out).mono ?_; clear D2; rintro e W3 ⟨rfl, h1⟩; have H3 := hideL h1; clear h1 H2))
        go_ret
        exact ⟨rfl, H3.out⟩
    | false =>
      have E : tSides R s = (false, s2) := by unfold tSides; exact and_no (and_no ((and_yes q0).trans q1))
      rw [E]
      clear E
      clear q0 q1
      go_enter Tryd.func32, Tryd.ntmps32
      go_wp2_with (first
        | (go_at_call 59; refine (D0.out _ H0.out).mono ?_; clear D0; rintro e W1 ⟨rfl, h1⟩; have H1 := hideL h1; clear h1 H0)
        | (go_at_call 29; refine (D1.out _ H1.out).mono ?_; clear D1; rintro e W2 ⟨rfl, h1⟩; have H2 := hideL h1; clear h1 H1))
      go_ret
      exact ⟨rfl, H2.out⟩
  | false =>
    have E : tSides R s = (false, s1) := by unfold tSides; exact and_no (and_no (and_no q0))
    rw [E]
    clear E
    clear q0
    go_enter Tryd.func32, Tryd.ntmps32
    go_wp2_with (first
      | (go_at_call 59; refine (D0.out _ H0.out).mono ?_; clear D0; rintro e W1 ⟨rfl, h1⟩; have H1 := hideL h1; clear h1 H0))
    go_ret
    exact ⟨rfl, H1.out⟩
end Go.Proofs.YtiemiphlfbaojaaDoor
