import Derived.Test.YtiemiphlfbaojaaDoorMrg2
import Derived.Test.YtiemiphlfbaojaaDoorAnyz
namespace Go.Proofs.YtiemiphlfbaojaaDoor
open Go.ChangeShapes Go.WideShapes Go.ChangeAt Go.RowKit
variable {w0 w w' : World} {b rc : Nat} {a0 : Option Addr} {R : List Tn} {v : Value} {s : MS}

/-! Takings one behind the other. -/
def orT (p q : MS → Bool × MS) (s : MS) : Bool × MS := if (p s).1 then p s else q (p s).2
def andT (p q : MS → Bool × MS) (s : MS) : Bool × MS := if (p s).1 then q (p s).2 else p s
theorem or_yes {p q : MS → Bool × MS} {s s1 : MS} (h : p s = (true, s1)) : orT p q s = (true, s1) := by unfold orT; rw [h]; rfl
theorem or_no {p q : MS → Bool × MS} {s s1 : MS} (h : p s = (false, s1)) : orT p q s = q s1 := by unfold orT; rw [h]; rfl
theorem and_yes {p q : MS → Bool × MS} {s s1 : MS} (h : p s = (true, s1)) : andT p q s = q s1 := by unfold andT; rw [h]; rfl
theorem and_no {p q : MS → Bool × MS} {s s1 : MS} (h : p s = (false, s1)) : andT p q s = (false, s1) := by unfold andT; rw [h]; rfl
def tK (R : List Tn) (k : Nat) (s : MS) : Bool × MS := (tkB R (isK k) s, tkS R k (isK k) s)
def tSt (R : List Tn) (s : MS) : Bool × MS := (tkB R isSt s, tkS R 2 isSt s)
def tEd (R : List Tn) (s : MS) : Bool × MS := (tkB R isEd s, tkS R 20 isEd s)
def tSl (R : List Tn) (s : MS) : Bool × MS := (tkB R isSl s, tkS R 20 isSl s)
def tSide (R : List Tn) : MS → Bool × MS := orT (orT (tK R 1) (tK R 3)) (tSt R)
def tSides (R : List Tn) : MS → Bool × MS := andT (andT (andT (tSide R) (tK R 7)) (tSide R)) (orT (tK R 11) (tK R 13))
def tJoin (R : List Tn) : MS → Bool × MS := orT (orT (tK R 5) (tK R 4)) (tK R 17)
/-- A method that takes. -/
def Tks14 (w0 : World) (b rc : Nat) (a0 : Option Addr) (R : List Tn) (f : FuncId) (args : Array Value) (F : MS → Bool × MS) : Prop :=
  ∀ (w : World) (v : Value) (s : MS), Mc w0 w b rc a0 R v s → Calls Tryd.prog f args w fun e w' => e = .returned (.bool (F s).1) ∧ Mc w0 w' b rc a0 R v (F s).2
theorem tks_take (k : Nat) (hk : k ≤ 21) : Tks14 w0 b rc a0 R 29 #[.pointer (some ⟨b, 0, none⟩), .int .i64 (k : Int)] (tK R k) := fun _ _ _ h => take_anyS h k hk
theorem tks_star : Tks14 w0 b rc a0 R 30 #[.pointer (some ⟨b, 0, none⟩)] (tSt R) := fun _ _ _ h => takeStar_anyS h
theorem tks_edits : Tks14 w0 b rc a0 R 34 #[.pointer (some ⟨b, 0, none⟩)] (tEd R) := fun _ _ _ h => takeEdits_anyS h
theorem tks_slop : Tks14 w0 b rc a0 R 33 #[.pointer (some ⟨b, 0, none⟩)] (tSl R) := fun _ _ _ h => takeSlop_anyS h
/-- A method's contract at one state, its answer named. -/
theorem Tks14.at' {f : FuncId} {args : Array Value} {F : MS → Bool × MS} (h : Tks14 w0 b rc a0 R f args F) {s : MS} {B : Bool} {s1 : MS} (e : F s = (B, s1)) (v : Value) : ∀ W, Mc w0 W b rc a0 R v s → Calls Tryd.prog f args W fun e w' => e = .returned (.bool B) ∧ Mc w0 w' b rc a0 R v s1 := fun W hW => by
  have := h W v s hW
  rw [e] at this
  exact this
set_option maxRecDepth 20000 in
set_option maxHeartbeats 4000000 in
theorem tks_takeSide : Tks14 w0 b rc a0 R 59 #[.pointer (some ⟨b, 0, none⟩)] (tSide R) := by
  intro w v s h
  have H0 := hideL h
  clear h
  obtain ⟨⟨B0, s1⟩, q0⟩ : ∃ x, tK R 1 s = x := ⟨_, rfl⟩
  have D0 := hideL ((tks_take (w0 := w0) (b := b) (rc := rc) (a0 := a0) (R := R) 1 (by decide)).at' q0 v)
  cases B0 with
  | true =>
    have E : tSide R s = (true, s1) := by unfold tSide; exact or_yes (or_yes q0)
    rw [E]
    clear E
    clear q0
    go_enter Tryd.func59, Tryd.ntmps59
    go_wp2_with (first
      | (go_at_call 29; refine (D0.out _ H0.out).mono ?_; clear D0; rintro e W1 ⟨rfl, h1⟩; have H1 := hideL h1; clear h1 H0))
    go_ret
    exact ⟨rfl, H1.out⟩
  | false =>
    obtain ⟨⟨B1, s2⟩, q1⟩ : ∃ x, tK R 3 s1 = x := ⟨_, rfl⟩
    have D1 := hideL ((tks_take (w0 := w0) (b := b) (rc := rc) (a0 := a0) (R := R) 3 (by decide)).at' q1 v)
    cases B1 with
    | true =>
      have E : tSide R s = (true, s2) := by unfold tSide; exact or_yes ((or_no q0).trans q1)
      rw [E]
      clear E
      clear q0 q1
      go_enter Tryd.func59, Tryd.ntmps59
      go_wp2_with (first
        | (go_at_call 29; refine (D0.out _ H0.out).mono ?_; clear D0; rintro e W1 ⟨rfl, h1⟩; have H1 := hideL h1; clear h1 H0)
        | (go_at_call 29; refine (D1.out _ H1.out).mono ?_; clear D1; rintro e W2 ⟨rfl, h1⟩; have H2 := hideL h1; clear h1 H1))
      go_ret
      exact ⟨rfl, H2.out⟩
    | false =>
      obtain ⟨⟨B2, s3⟩, q2⟩ : ∃ x, tSt R s2 = x := ⟨_, rfl⟩
      have D2 := hideL ((tks_star (w0 := w0) (b := b) (rc := rc) (a0 := a0) (R := R)).at' q2 v)
      cases B2 with
      | true =>
        have E : tSide R s = (true, s3) := by unfold tSide; rw [or_no ((or_no q0).trans q1)]; exact q2
        rw [E]
        clear E
        clear q0 q1 q2
        go_enter Tryd.func59, Tryd.ntmps59
        go_wp2_with (first
          | (go_at_call 29; refine (D0.out _ H0.out).mono ?_; clear D0; rintro e W1 ⟨rfl, h1⟩; have H1 := hideL h1; clear h1 H0)
          | (go_at_call 29; refine (D1.out _ H1.out).mono ?_; clear D1; rintro e W2 ⟨rfl, h1⟩; have H2 := hideL h1; clear h1 H1)
          | (go_at_call 30; refine (D2.out _ H2.out).mono ?_; clear D2; rintro e W3 ⟨rfl, h1⟩; have H3 := hideL h1; clear h1 H2))
        go_ret
        exact ⟨rfl, H3.out⟩
      | false =>
        have E : tSide R s = (false, s3) := by unfold tSide; rw [or_no ((or_no q0).trans q1)]; exact q2
        rw [E]
        clear E
        clear q0 q1 q2
        go_enter Tryd.func59, Tryd.ntmps59
        go_wp2_with (first
          | (go_at_call 29; refine (D0.out _ H0.out).mono ?_; clear D0; rintro e W1 ⟨rfl, h1⟩; have H1 := hideL h1; clear h1 H0)
          | (go_at_call 29; refine (D1.out _ H1.out).mono ?_; clear D1; rintro e W2 ⟨rfl, h1⟩; have H2 := hideL h1; clear h1 H1)
          | (go_at_call 30; refine (D2.out _ H2.out).mono ?_; clear D2; rintro e W3 ⟨rfl, h1⟩; have H3 := hideL h1; clear h1 H2))
        go_ret
        exact ⟨rfl, H3.out⟩
set_option maxRecDepth 20000 in
set_option maxHeartbeats 4000000 in
theorem tks_takeJoin : Tks14 w0 b rc a0 R 36 #[.pointer (some ⟨b, 0, none⟩)] (tJoin R) := by
  intro w v s h
  have H0 := hideL h
  clear h
  obtain ⟨⟨B0, s1⟩, q0⟩ : ∃ x, tK R 5 s = x := ⟨_, rfl⟩
  have D0 := hideL ((tks_take (w0 := w0) (b := b) (rc := rc) (a0 := a0) (R := R) 5 (by decide)).at' q0 v)
  cases B0 with
  | true =>
    have E : tJoin R s = (true, s1) := by unfold tJoin; exact or_yes (or_yes q0)
    rw [E]
    clear E
    clear q0
    go_enter Tryd.func36, Tryd.ntmps36
    go_wp2_with (first
      | (go_at_call 29; refine (D0.out _ H0.out).mono ?_; clear D0; rintro e W1 ⟨rfl, h1⟩; have H1 := hideL h1; clear h1 H0))
    go_ret
    exact ⟨rfl, H1.out⟩
  | false =>
    obtain ⟨⟨B1, s2⟩, q1⟩ : ∃ x, tK R 4 s1 = x := ⟨_, rfl⟩
    have D1 := hideL ((tks_take (w0 := w0) (b := b) (rc := rc) (a0 := a0) (R := R) 4 (by decide)).at' q1 v)
    cases B1 with
    | true =>
      have E : tJoin R s = (true, s2) := by unfold tJoin; exact or_yes ((or_no q0).trans q1)
      rw [E]
      clear E
      clear q0 q1
      go_enter Tryd.func36, Tryd.ntmps36
      go_wp2_with (first
        | (go_at_call 29; refine (D0.out _ H0.out).mono ?_; clear D0; rintro e W1 ⟨rfl, h1⟩; have H1 := hideL h1; clear h1 H0)
        | (go_at_call 29; refine (D1.out _ H1.out).mono ?_; clear D1; rintro e W2 ⟨rfl, h1⟩; have H2 := hideL h1; clear h1 H1))
      go_ret
      exact ⟨rfl, H2.out⟩
    | false =>
      obtain ⟨⟨B2, s3⟩, q2⟩ : ∃ x, tK R 17 s2 = x := ⟨_, rfl⟩
      have D2 := hideL ((tks_take (w0 := w0) (b := b) (rc := rc) (a0 := a0) (R := R) 17 (by decide)).at' q2 v)
      cases B2 with
      | true =>
        have E : tJoin R s = (true, s3) := by unfold tJoin; rw [or_no ((or_no q0).trans q1)]; exact q2
        rw [E]
        clear E
        clear q0 q1 q2
        go_enter Tryd.func36, Tryd.ntmps36
        go_wp2_with (first
          | (go_at_call 29; refine (D0.out _ H0.out).mono ?_; clear D0; rintro e W1 ⟨rfl, h1⟩; have H1 := hideL h1; clear h1 H0)
          | (go_at_call 29; refine (D1.out _ H1.out).mono ?_; clear D1; rintro e W2 ⟨rfl, h1⟩; have H2 := hideL h1; clear h1 H1)
          | (go_at_call 29; refine (D2.out _ H2.out).mono ?_; clear D2; rintro e W3 ⟨rfl, h1⟩; have H3 := hideL h1; clear h1 H2))
        go_ret
        exact ⟨rfl, H3.out⟩
      | false =>
        have E : tJoin R s = (false, s3) := by unfold tJoin; rw [or_no ((or_no q0).trans q1)]; exact q2
        rw [E]
        clear E
        clear q0 q1 q2
        go_enter Tryd.func36, Tryd.ntmps36
        go_wp2_with (first
          | (go_at_call 29; refine (D0.out _ H0.out).mono ?_; clear D0; rintro e W1 ⟨rfl, h1⟩; have H1 := hideL h1; clear h1 H0)
          | (go_at_call 29; refine (D1.out _ H1.out).mono ?_; clear D1; rintro e W2 ⟨rfl, h1⟩; have H2 := hideL h1; clear h1 H1)
          | (go_at_call 29; refine (D2.out _ H2.out).mono ?_; clear D2; rintro e W3 ⟨rfl, h1⟩; have H3 := hideL h1; clear h1 H2))
        go_ret
        exact ⟨rfl, H3.out⟩
set_option maxRecDepth 20000 in
set_option maxHeartbeats 4000000 in
theorem tks_takeSides : Tks14 w0 b rc a0 R 32 #[.pointer (some ⟨b, 0, none⟩)] (tSides R) := by
  intro w v s h
  have H0 := hideL h
  clear h
  obtain ⟨⟨B0, s1⟩, q0⟩ : ∃ x, tSide R s = x := ⟨_, rfl⟩
  have D0 := hideL ((tks_takeSide (w0 := w0) (b := b) (rc := rc) (a0 := a0) (R := R)).at' q0 v)
  cases B0 with
  | true =>
    obtain ⟨⟨B1, s2⟩, q1⟩ : ∃ x, tK R 7 s1 = x := ⟨_, rfl⟩
    have D1 := hideL ((tks_take (w0 := w0) (b := b) (rc := rc) (a0 := a0) (R := R) 7 (by decide)).at' q1 v)
    cases B1 with
    | true =>
      obtain ⟨⟨B2, s3⟩, q2⟩ : ∃ x, tSide R s2 = x := ⟨_, rfl⟩
      have D2 := hideL ((tks_takeSide (w0 := w0) (b := b) (rc := rc) (a0 := a0) (R := R)).at' q2 v)
      cases B2 with
      | true =>
        obtain ⟨⟨B3, s4⟩, q3⟩ : ∃ x, tK R 11 s3 = x := ⟨_, rfl⟩
        have D3 := hideL ((tks_take (w0 := w0) (b := b) (rc := rc) (a0 := a0) (R := R) 11 (by decide)).at' q3 v)
        cases B3 with
        | true =>
          have E : tSides R s = (true, s4) := by unfold tSides; rw [and_yes ((and_yes ((and_yes q0).trans q1)).trans q2)]; exact or_yes q3
          rw [E]
          clear E
          clear q0 q1 q2 q3
          go_enter Tryd.func32, Tryd.ntmps32
          go_wp2_with (first
            | (go_at_call 59; refine (D0.out _ H0.out).mono ?_; clear D0; rintro e W1 ⟨rfl, h1⟩; have H1 := hideL h1; clear h1 H0)
            | (go_at_call 29; refine (D1.out _ H1.out).mono ?_; clear D1; rintro e W2 ⟨rfl, h1⟩; have H2 := hideL h1; clear h1 H1)
            | (go_at_call 59; refine (D2.out _ H2.out).mono ?_; clear D2; rintro e W3 ⟨rfl, h1⟩; have H3 := hideL h1; clear h1 H2)
            | (go_at_call 29; refine (D3.out _ H3.out).mono ?_; clear D3; rintro e W4 ⟨rfl, h1⟩; have H4 := hideL h1; clear h1 H3))
          go_ret
          exact ⟨rfl, H4.out⟩
        | false =>
          obtain ⟨⟨B4, s5⟩, q4⟩ : ∃ x, tK R 13 s4 = x := ⟨_, rfl⟩
          have D4 := hideL ((tks_take (w0 := w0) (b := b) (rc := rc) (a0 := a0) (R := R) 13 (by decide)).at' q4 v)
          cases B4 with
          | true =>
            have E : tSides R s = (true, s5) := by unfold tSides; rw [and_yes ((and_yes ((and_yes q0).trans q1)).trans q2), or_no q3]; exact q4
            rw [E]
            clear E
            clear q0 q1 q2 q3 q4
            go_enter Tryd.func32, Tryd.ntmps32
            go_wp2_with (first
              | (go_at_call 59; refine (D0.out _ H0.out).mono ?_; clear D0; rintro e W1 ⟨rfl, h1⟩; have H1 := hideL h1; clear h1 H0)
              | (go_at_call 29; refine (D1.out _ H1.out).mono ?_; clear D1; rintro e W2 ⟨rfl, h1⟩; have H2 := hideL h1; clear h1 H1)
              | (go_at_call 59; refine (D2.out _ H2.out).mono ?_; clear D2; rintro e W3 ⟨rfl, h1⟩; have H3 := hideL h1; clear h1 H2)
              | (go_at_call 29; refine (D3.out _ H3.out).mono ?_; clear D3; rintro e W4 ⟨rfl, h1⟩; have H4 := hideL h1; clear h1 H3)
              | (go_at_call 29; refine (D4.out _ H4.out).mono ?_; clear D4; rintro e W5 ⟨rfl, h1⟩; have H5 := hideL h1; clear h1 H4))
            go_ret
            exact ⟨rfl, H5.out⟩
          | false =>
            have E : tSides R s = (false, s5) := by unfold tSides; rw [and_yes ((and_yes ((and_yes q0).trans q1)).trans q2), or_no q3]; exact q4
            rw [E]
            clear E
            clear q0 q1 q2 q3 q4
            go_enter Tryd.func32, Tryd.ntmps32
            go_wp2_with (first
              | (go_at_call 59; refine (D0.out _ H0.out).mono ?_; clear D0; rintro e W1 ⟨rfl, h1⟩; have H1 := hideL h1; clear h1 H0)
              | (go_at_call 29; refine (D1.out _ H1.out).mono ?_; clear D1; rintro e W2 ⟨rfl, h1⟩; have H2 := hideL h1; clear h1 H1)
              | (go_at_call 59; refine (D2.out _ H2.out).mono ?_; clear D2; rintro e W3 ⟨rfl, h1⟩; have H3 := hideL h1; clear h1 H2)
              | (go_at_call 29; refine (D3.out _ H3.out).mono ?_; clear D3; rintro e W4 ⟨rfl, h1⟩; have H4 := hideL h1; clear h1 H3)
              | (go_at_call 29; refine (D4.out _ H4.out).mono ?_; clear D4; rintro e W5 ⟨rfl, h1⟩; have H5 := hideL h1; clear h1 H4))
            go_ret
            exact ⟨rfl, H5.out⟩
      | false =>
        have E : tSides R s = (false, s3) := by unfold tSides; exact and_no ((and_yes ((and_yes q0).trans q1)).trans q2)
        rw [E]
        clear E
        clear q0 q1 q2
        go_enter Tryd.func32, Tryd.ntmps32
        go_wp2_with (first
          | (go_at_call 59; refine (D0.out _ H0.out).mono ?_; clear D0; rintro e W1 ⟨rfl, h1⟩; have H1 := hideL h1; clear h1 H0)
          | (go_at_call 29; refine (D1.out _ H1.out).mono ?_; clear D1; rintro e W2 ⟨rfl, h1⟩; have H2 := hideL h1; clear h1 H1)
          | (go_at_call 59; refine (D2.out _ H2.out).mono ?_; clear D2; rintro e W3 ⟨rfl, h1⟩; have H3 := hideL h1; clear h1 H2))
        go_ret
        exact ⟨rfl, H3.out⟩
    | false =>
      have E : tSides R s = (false, s2) := by unfold tSides; exact and_no (and_no ((and_yes q0).trans q1))
      rw [E]
      clear E
      clear q0 q1
      go_enter Tryd.func32, Tryd.ntmps32
      go_wp2_with (first
        | (go_at_call 59; refine (D0.out _ H0.out).mono ?_; clear D0; rintro e W1 ⟨rfl, h1⟩; have H1 := hideL h1; clear h1 H0)
        | (go_at_call 29; refine (D1.out _ H1.out).mono ?_; clear D1; rintro e W2 ⟨rfl, h1⟩; have H2 := hideL h1; clear h1 H1))
      go_ret
      exact ⟨rfl, H2.out⟩
  | false =>
    have E : tSides R s = (false, s1) := by unfold tSides; exact and_no (and_no (and_no q0))
    rw [E]
    clear E
    clear q0
    go_enter Tryd.func32, Tryd.ntmps32
    go_wp2_with (first
      | (go_at_call 59; refine (D0.out _ H0.out).mono ?_; clear D0; rintro e W1 ⟨rfl, h1⟩; have H1 := hideL h1; clear h1 H0))
    go_ret
    exact ⟨rfl, H1.out⟩
end Go.Proofs.YtiemiphlfbaojaaDoor
namespace Go.Proofs.YtiemiphlfbaojaaDoor
open Go.ChangeShapes Go.WideShapes Go.ChangeAt Go.RowKit
variable {w0 w w' : World} {b rc : Nat} {a0 : Option Addr} {R : List Tn} {v : Value} {s : MS}

/-! The machine's levels. -/
def MS.endU (s : MS) : MS := { s with ne := 0, top := ⟨max s.top.n (s.ne + s.top.t), 0, s.top.s⟩ }
def MS.open' (s : MS) : MS := { s with top := ⟨0, 0, false⟩, ou := s.top :: s.ou }
def MS.close' (s : MS) (l : Lv) (r : List Lv) : MS := { s with ne := s.top.n + 1, top := l, ou := r }
theorem lvv_append (G H : List Lv) : lvv (G ++ H) = lvv G ++ lvv H := List.flatMap_append
theorem Tryd.infoLv : (Tryd.prog.info? 50).map (fun i => (i.zero, i.size, i.bytes)) = some (some (.agg #[.int .i64 0, .int .i64 0, .bool false]), 3, 24) := by kernel_rfl
set_option maxRecDepth 20000 in
set_option maxHeartbeats 4000000 in
theorem endU_any (h : Mc w0 w b rc a0 R v s) (h1 : s.ne + s.top.t ≤ 500000000000) (h2 : s.top.n ≤ 500000000000) :
    Calls Tryd.prog 35 #[.pointer (some ⟨b, 0, none⟩)] w fun e w' => e = .returned (.tuple #[]) ∧ Mc w0 w' b rc a0 R v s.endU := by
  obtain ⟨-, -, -, x3, x4, x5, -, -⟩ := h.cells
  have f3 := h.free 3
  have f4 := h.free 4
  have f5 := h.free 5
  have hmx : ((max s.top.n (s.ne + s.top.t) : Nat) : Int) = if (s.top.n : Int) < (s.ne : Int) + (s.top.t : Int) then (s.ne : Int) + (s.top.t : Int) else (s.top.n : Int) := by split <;> omega
  have H1 := hideL (((h.setTn (max s.top.n (s.ne + s.top.t)) _ rfl).later (Kept.drew _)).setTt 0 0 rfl |>.setNe 0 0 rfl)
  have e0 : ({ { { s with top := { s.top with n := max s.top.n (s.ne + s.top.t) } } with top := { { s.top with n := max s.top.n (s.ne + s.top.t) } with t := 0 } } with ne := 0 } : MS) = s.endU := rfl
  generalize hs' : s.endU = s' at *
  have HH : Hid (Mc w0 ((((w.setCell ⟨b, 4, none⟩ (.int .i64 ((max s.top.n (s.ne + s.top.t) : Nat) : Int))).drew).setCell ⟨b, 5, none⟩ (.int .i64 0)).setCell ⟨b, 3, none⟩ (.int .i64 0)) b rc a0 R v s') := by rw [← hs']; exact H1
  clear H1 e0 hs'
  rw [hmx] at HH
  generalize s.top.n = tn at *
  generalize s.top.t = tt at *
  generalize s.ne = ne at *
  clear h hmx
  by_cases hlt : (tn : Int) < (ne : Int) + (tt : Int)
  · rw [if_pos hlt] at HH
    go_enter Tryd.func35, Tryd.ntmps35
    go_wp2_with fail
    go_region
    go_wp2_with fail
    first | go_ret | go_end0
    exact ⟨rfl, HH.out⟩
  · rw [if_neg hlt] at HH
    go_enter Tryd.func35, Tryd.ntmps35
    go_wp2_with fail
    go_region
    go_wp2_with fail
    first | go_ret | go_end0
    exact ⟨rfl, HH.out⟩
end Go.Proofs.YtiemiphlfbaojaaDoor
namespace Go.Proofs.YtiemiphlfbaojaaDoor
open Go.ChangeShapes Go.WideShapes Go.ChangeAt Go.RowKit
variable {w0 w w' : World} {b rc : Nat} {a0 : Option Addr} {R : List Tn} {v : Value} {s : MS}

theorem Mc.setOu (h : Mc w0 w b rc a0 R v s) (v' : Value) (ou' : List Lv) (ho : w.ownsRow w0.heap.size 50 3 v' ou'.length (lvv ou'.reverse)) : Mc w0 (w.setCell ⟨b, 7, none⟩ v') b rc a0 R v' { s with ou := ou' } := by
  have hne : v'.ownBlock ≠ some b := by
    intro x
    rcases ho.2 with ⟨rfl, _⟩ | ⟨g, cap, cur, rfl, _, hg, _⟩
    · simp [Value.ownBlock] at x
    · simp [Value.ownBlock] at x
      subst x
      rw [h.blk] at hg
      simp at hg
  obtain ⟨h1, _, h3⟩ := h.put 7 v'
  exact ⟨h1, ownsRow_setCell_other ho hne _, h3, h.hb, h.row, h.ha, h.hr, h.hm⟩
theorem lvv_len (L : List Lv) : (lvv L).length = L.length * 3 := by
  induction L with
  | nil => rfl
  | cons x L ih =>
    have e : lvv (x :: L) = lvC x ++ lvv L := rfl
    rw [e, List.length_append, ih, List.length_cons]
    show 3 + _ = _
    omega
/-- The list of levels without its last. -/
theorem own_cut {l : Lv} {r : List Lv} (ho : w.ownsRow w0.heap.size 50 3 v (l :: r).length (lvv (l :: r).reverse)) : ∃ g cap, v = .slice (some ⟨g, 0, none⟩) (r.length + 1) cap ∧ r.length ≤ cap ∧ w.ownsRow w0.heap.size 50 3 (.slice (some ⟨g, 0, none⟩) r.length cap) r.length (lvv r.reverse) ∧ (w.cell? ⟨g, r.length * 3, none⟩ = some (.int .i64 (l.n : Int)) ∧ w.cell? ⟨g, r.length * 3 + 1, none⟩ = some (.int .i64 (l.t : Int)) ∧ w.cell? ⟨g, r.length * 3 + 2, none⟩ = some (.bool l.s)) ∧ ∃ cs, w.heap[g]? = some (.cells cs 50 (0, 0)) := by
  have hrev : lvv (l :: r).reverse = lvv r.reverse ++ lvC l := by rw [List.reverse_cons, lvv_append]; show _ ++ (lvC l ++ []) = _; rw [List.append_nil]
  have hl : (lvv r.reverse).length = r.length * 3 := by rw [lvv_len, List.length_reverse]
  rcases ho.2 with ⟨_, e2⟩ | ⟨g, cap, cur, rfl, hb, hh, h1, h2, h3, h4⟩
  · simp at e2
  · refine ⟨g, cap, rfl, by simp at h1; omega, ⟨hl, .inr ⟨g, cap, cur, rfl, hb, hh, by simp at h1; omega, h2, h3, ?_⟩⟩, ?_, cur, hh⟩
    · have h5 := congrArg (List.take (r.length * 3)) h4
      rw [List.take_take, hrev, List.take_left' hl] at h5
      rw [show min (r.length * 3) ((l :: r).length * 3) = r.length * 3 by rw [List.length_cons]; omega] at h5
      exact h5
    · have hc : ∀ j u, (lvv (l :: r).reverse)[j]? = some u → w.cell? ⟨g, j, none⟩ = some u := fun j u hu => by
        have := ho.cells (g := g) rfl j u hu
        have hplain : (⟨g, 0, none⟩ : Addr).add j = ⟨g, j, none⟩ := by unfold Addr.add; split <;> simp_all
        rwa [hplain] at this
      rw [hrev] at hc
      refine ⟨hc _ _ ?_, hc _ _ ?_, hc _ _ ?_⟩
      · rw [List.getElem?_append_right (by omega), hl, Nat.sub_self]; rfl
      · rw [List.getElem?_append_right (by omega), hl, show r.length * 3 + 1 - r.length * 3 = 1 by omega]; rfl
      · rw [List.getElem?_append_right (by omega), hl, show r.length * 3 + 2 - r.length * 3 = 2 by omega]; rfl
set_option maxRecDepth 20000 in
set_option maxHeartbeats 4000000 in
theorem close_anyS (h : Mc w0 w b rc a0 R v s) (l : Lv) (r : List Lv) (hou : s.ou = l :: r) (h1 : s.top.n ≤ 500000000000) (h2 : r.length ≤ 500000000000) :
    Calls Tryd.prog 37 #[.pointer (some ⟨b, 0, none⟩)] w fun e w' => e = .returned (.tuple #[]) ∧ ∃ v', Mc w0 w' b rc a0 R v' (s.close' l r) := by
  have ho := h.own
  rw [hou] at ho
  obtain ⟨g, cap, rfl, hcap, ho2, ⟨y0, y1, y2⟩, cs, hgh⟩ := own_cut ho
  have hgb : ¬ g = b := by
    intro e
    subst e
    rw [h.blk] at hgh
    simp at hgh
  have hbg : ¬ b = g := fun e => hgb e.symm
  obtain ⟨-, -, -, x3, x4, x5, x6, x7⟩ := h.cells
  have f3 := h.free 3
  have f4 := h.free 4
  have f5 := h.free 5
  have f6 := h.free 6
  have f7 := h.free 7
  have H4 := (((h.setNe (s.top.n + 1) ((s.top.n : Int) + 1) (by omega)).setTn l.n _ rfl).setTt l.t _ rfl).setTs l.s
  have ho4 : (World.setCell (((w.setCell ⟨b, 3, none⟩ (.int .i64 ((s.top.n : Int) + 1))).setCell ⟨b, 4, none⟩ (.int .i64 (l.n : Int))).setCell ⟨b, 5, none⟩ (.int .i64 (l.t : Int))) ⟨b, 6, none⟩ (.bool l.s)).ownsRow w0.heap.size 50 3 (.slice (some ⟨g, 0, none⟩) r.length cap) r.length (lvv r.reverse) := by
    have hne : (Value.slice (some ⟨g, 0, none⟩) r.length cap).ownBlock ≠ some b := by simp [Value.ownBlock, hgb]
    exact ownsRow_setCell_other (ownsRow_setCell_other (ownsRow_setCell_other (ownsRow_setCell_other ho2 hne _) hne _) hne _) hne _
  have H5 := hideL (H4.setOu _ r ho4)
  have e5 : Hid (Mc w0 _ b rc a0 R _ (s.close' l r)) := H5
  clear H5 H4 ho4 ho2 ho hgh
  generalize s.close' l r = s' at *
  obtain ⟨ln, lt, ls⟩ := l
  dsimp only at y0 y1 y2 e5
  generalize s.top.n = tn at *
  generalize s.top.t = tt at *
  generalize s.top.s = ts at *
  generalize s.ne = ne at *
  generalize r.length = rn at *
  have hrz : (rn : Int) < (rn : Int) + 1 := by omega
  have hrc : (rn : Int) ≤ (cap : Int) := by omega
  clear h hou
  go_enter Tryd.func37, Tryd.ntmps37
  go_wp2_with fail
  first | go_ret | go_end0
  exact ⟨rfl, _, e5.out⟩
end Go.Proofs.YtiemiphlfbaojaaDoor
namespace Go.Proofs.YtiemiphlfbaojaaDoor
open Go.ChangeShapes Go.WideShapes Go.ChangeAt Go.RowKit
variable {w0 w w' : World} {b rc : Nat} {a0 : Option Addr} {R : List Tn} {v : Value} {s : MS}

theorem mc_at {V : World} {x0 x1 x2 x3 x4 x5 x6 x7 : Value} {b : Nat} (hW : V.heap[b]? = some (.cells #[x0, x1, x2, x3, x4, x5, x6, x7] 53 (0, 0))) : V.cell? ⟨b, 4, none⟩ = some x4 ∧ V.cell? ⟨b, 5, none⟩ = some x5 ∧ V.cell? ⟨b, 6, none⟩ = some x6 ∧ V.cell? ⟨b, 7, none⟩ = some x7 := by
  have hc := fun j => cell_of_row V b j _ _ _ hW
  refine ⟨?_, ?_, ?_, ?_⟩ <;> (rw [hc]; rfl)
/-- 'append(s, x)' of a level, as one operation; the block of a machine stays. -/
theorem wp_lvl {W : World} {o : Oper} {act : Act} {K : Act → World → Prop} {Q : Exit → Act → World → Prop} {m : Nat} {L : List Lv} (s x : Operand)
    (ho : o.op = .call { callee := .builtin .append, args := #[s, x], argTypes := #[51, 51] }) (y : Lv) (g : Nat) (hs : act.eval s = v) (hG : W.ownsRow w0.heap.size 50 3 v m (lvv L)) (k0 : Kept (fun _ => False) w0 W) (hx : act.eval x = .slice (some ⟨g, 0, none⟩) 1 1)
    (hc : ∀ j u, (lvC y)[j]? = some u → W.cell? ⟨g, j, none⟩ = some u) (hm : m ≤ 1000000000000)
    (h : ∀ v' W', W'.ownsRow w0.heap.size 50 3 v' (m + 1) (lvv (L ++ [y])) → Kept (fun _ => False) w0 W' → (∀ (b : Nat) cs fz, W.heap[b]? = some (.cells cs 53 fz) → W'.heap[b]? = some (.cells cs 53 fz)) → K (act.put o.dst v') W') : o.wp Tryd.prog act W K Q := by
  obtain ⟨i0, hi, hz0, hz1, hz2⟩ := info_partsL Tryd.infoLv
  have hplain : ∀ j, (⟨g, 0, none⟩ : Addr).add j = ⟨g, j, none⟩ := fun j => by unfold Addr.add; split <;> simp_all
  refine wp_append_own W s x 51 ho w0.heap.size 50 i0 (.agg #[.int .i64 0, .int .i64 0, .bool false]) 3 24 Tryd.underlying51 hi hz0 hz1 hz2 rfl (by decide) v m (lvv L) hs hG ⟨g, 0, none⟩ 1 1 (lvC y) hx rfl (fun j u hu => by rw [hplain]; exact hc j u hu) ?_ (by unfold maxLen; omega) (by omega) k0.size ?_
  · intro u hu
    simp [lvC] at hu
    rcases hu with rfl | rfl | rfl <;> rfl
  · intro v' W' ho2 hg2 _
    refine h v' W' ?_ (k0.trans (Kept.grown hg2) (fun i hi => .inr (hG.lt i hi).1)) (fun b cs fz hb => (Kept.grown hg2).heap hb (fun hk => ?_))
    · rw [lvv_append]
      have e : lvv [y] = lvC y := List.append_nil _
      rw [e]
      exact ho2
    · rcases hG.2 with ⟨hn, _⟩ | ⟨g', cap, cur, e, _, hgg, _⟩
      · rw [hn] at hk; simp [Value.ownBlock] at hk
      · rw [e] at hk
        simp [Value.ownBlock] at hk
        subst hk
        rw [hb] at hgg
        simp at hgg
/-- The innermost level's cells. -/
def S3v (b : Nat) (n t : Nat) (q : Bool) (V : World) : Prop := V.cell? ⟨b, 4, none⟩ = some (.int .i64 (n : Int)) ∧ V.cell? ⟨b, 5, none⟩ = some (.int .i64 (t : Int)) ∧ V.cell? ⟨b, 6, none⟩ = some (.bool q)
theorem s3v (h : Mc w0 w b rc a0 R v s) : S3v b s.top.n s.top.t s.top.s w := by
  obtain ⟨x0, x1, x2, x3, x4, x5, x6, x7⟩ := h.cells
  exact ⟨x4, x5, x6⟩
set_option maxRecDepth 20000 in
set_option maxHeartbeats 4000000 in
theorem open_anyS (h : Mc w0 w b rc a0 R v s) (hm : s.ou.length ≤ 1000000000000) :
    Calls Tryd.prog 31 #[.pointer (some ⟨b, 0, none⟩)] w fun x w' => x = .returned (.tuple #[]) ∧ ∃ v', Mc w0 w' b rc a0 R v' s.open' := by
  have H1 := hideL h
  clear h
  obtain ⟨at0, mi, ne, ⟨tn, tt, ts⟩, ou⟩ := s
  go_enter Tryd.func31, Tryd.ntmps31
  go_wp2_with fail
  refine wp_region_held (S := S3v b tn tt ts) (by kernel_rfl) ?_
  change wpAnyH _ _ _ _ _ _ _ _ (World.drew _)
  have HD := hideL (H1.out.later (Kept.drew w))
  clear H1
  generalize w.drew = V0 at *
  have hS : S3v b tn tt ts V0 := s3v HD.out
  refine takeZ (i := 0) (d := 2) (v := .pointer (some ⟨b, 0, none⟩)) rfl rfl (by kernel_rfl) (by kernel_rfl) (by kernel_rfl) (fun _ _ _ h => h) (Or.inl ⟨by rfl, fun W hW => ?_⟩) hS ?_
  · (go_simp)
  simp only [Act.put, List.setIfInBounds_toArray, List.set_cons_zero, List.set_cons_succ]
  refine takeZ (i := 1) (d := 3) (v := .pointer (some ⟨b, 0, none⟩)) rfl rfl (by kernel_rfl) (by kernel_rfl) (by kernel_rfl) (fun _ _ _ h => h) (Or.inl ⟨by rfl, fun W hW => ?_⟩) hS ?_
  · (go_simp)
  simp only [Act.put, List.setIfInBounds_toArray, List.set_cons_zero, List.set_cons_succ]
  refine takeZ (i := 2) (d := 4) (v := .pointer (some ⟨b, 0, none⟩)) rfl rfl (by kernel_rfl) (by kernel_rfl) (by kernel_rfl) (fun _ _ _ h => h) (Or.inl ⟨by rfl, fun W hW => ?_⟩) hS ?_
  · (go_simp)
  simp only [Act.put, List.setIfInBounds_toArray, List.set_cons_zero, List.set_cons_succ]
  refine takeZ (i := 3) (d := 5) (v := .pointer (some ⟨b, 7, none⟩)) rfl rfl (by kernel_rfl) (by kernel_rfl) (by kernel_rfl) (fun _ _ _ h => h) (Or.inl ⟨by rfl, fun W hW => ?_⟩) hS ?_
  · (go_simp)
  simp only [Act.put, List.setIfInBounds_toArray, List.set_cons_zero, List.set_cons_succ]
  refine takeZ (i := 5) (d := 7) (v := .pointer (some ⟨b, 0, none⟩)) rfl rfl (by kernel_rfl) (by kernel_rfl) (by kernel_rfl) (fun _ _ _ h => h) (Or.inl ⟨by rfl, fun W hW => ?_⟩) hS ?_
  · (go_simp)
  simp only [Act.put, List.setIfInBounds_toArray, List.set_cons_zero, List.set_cons_succ]
  refine takeZ (i := 6) (d := 8) (v := .pointer (some ⟨b, 0, none⟩)) rfl rfl (by kernel_rfl) (by kernel_rfl) (by kernel_rfl) (fun _ _ _ h => h) (Or.inl ⟨by rfl, fun W hW => ?_⟩) hS ?_
  · (go_simp)
  simp only [Act.put, List.setIfInBounds_toArray, List.set_cons_zero, List.set_cons_succ]
  refine takeZ (i := 7) (d := 9) (v := .pointer (some ⟨b, 4, none⟩)) rfl rfl (by kernel_rfl) (by kernel_rfl) (by kernel_rfl) (fun _ _ _ h => h) (Or.inl ⟨by rfl, fun W hW => ?_⟩) hS ?_
  · (go_simp)
  simp only [Act.put, List.setIfInBounds_toArray, List.set_cons_zero, List.set_cons_succ]
  refine takeZ (i := 8) (d := 10) (v := .agg #[.int .i64 (tn : Int), .int .i64 (tt : Int), .bool ts]) rfl rfl (by kernel_rfl) (by kernel_rfl) (by kernel_rfl) (fun _ _ _ h => h) (Or.inl ⟨by rfl, fun W hW => ?_⟩) hS ?_
  · (obtain ⟨x4, x5, x6⟩ := hW; go_simp)
  simp only [Act.put, List.setIfInBounds_toArray, List.set_cons_zero, List.set_cons_succ]
  refine wpAnyH_all (rs := [4, 9]) (by kernel_rfl) (by simp) ?_
  intro i' hi'
  obtain rfl | rfl : i' = 4 ∨ i' = 9 := by simpa using hi'
  · have c7 := HD.out.cells.2.2.2.2.2.2.2
    unfold wpOp
    go_simp
    first | refine Or.inl ⟨hS, ?_⟩ | refine ⟨hS, ?_⟩ | (change wpAnyH _ _ _ _ _ _ _ _ _) | refine Or.inl ?_
    clear c7
    refine wpAnyH_all (rs := [9]) (by kernel_rfl) (by simp) ?_
    intro i' hi'
    obtain rfl : i' = 9 := by simpa using hi'
    unfold wpOp
    go_simp
    have H2 := hideL (HD.out.later (Kept.alloc V0 (.cells #[.int .i64 (tn : Int), .int .i64 (tt : Int), .bool ts] 50)))
    have hS2 : S3v b tn tt ts _ := s3v H2.out
    first | refine Or.inl ⟨hS2, ?_⟩ | refine ⟨hS2, ?_⟩ | (change wpAnyH _ _ _ _ _ _ _ _ _) | refine Or.inl ?_
    have hR : Hid (∀ j u, (lvC ⟨tn, tt, ts⟩)[j]? = some u → (V0.alloc (.cells #[.int .i64 (tn : Int), .int .i64 (tt : Int), .bool ts] 50)).cell? ⟨V0.heap.size, j, none⟩ = some u) := hideL (fun j u hu => by
      rw [World.cell?_alloc_new, ← hu]
      exact List.getElem?_toArray)
    generalize (V0.alloc (.cells #[.int .i64 (tn : Int), .int .i64 (tt : Int), .bool ts] 50)) = V1 at *
    clear HD hS
    refine wpAnyH_all (rs := [10]) (by kernel_rfl) (by simp) ?_
    intro i' hi'
    obtain rfl : i' = 10 := by simpa using hi'
    refine wpOp_inL rfl rfl ?_
    refine wp_lvl (w0 := w0) (.tmp 6) (.tmp 11) rfl ⟨tn, tt, ts⟩ V0.heap.size rfl H2.out.own H2.out.kept rfl hR.out hm ?_
    intro v' V2 ho2 k2 hb2
    have hB := hb2 _ _ _ H2.out.blk
    have hC8 := mc_at hB
    have hS3 : S3v b tn tt ts V2 := ⟨hC8.1, hC8.2.1, hC8.2.2.1⟩
    refine ⟨hS3, ?_⟩
    simp only [Act.put, List.setIfInBounds_toArray]
    refine takeZ (i := 11) (d := 13) (v := .pointer (some ⟨b, 0, none⟩)) rfl rfl (by kernel_rfl) (by kernel_rfl) (by kernel_rfl) (fun _ _ _ h => h) (Or.inl ⟨by rfl, fun W hW => ?_⟩) hS3 ?_
    · (go_simp)
    simp only [Act.put]
    refine takeZ (i := 12) (d := 14) (v := .pointer (some ⟨b, 7, none⟩)) rfl rfl (by kernel_rfl) (by kernel_rfl) (by kernel_rfl) (fun _ _ _ h => h) (Or.inl ⟨by rfl, fun W hW => ?_⟩) hS3 ?_
    · (go_simp)
    simp only [Act.put]
    refine wpAnyH_all (rs := [13]) (by kernel_rfl) (by simp) ?_
    intro i' hi'
    obtain rfl : i' = 13 := by simpa using hi'
    have c7 := hC8.2.2.2
    have f7 : V2.frozen? ⟨b, 7, none⟩ = false := by simp [World.frozen?, hB]
    have hsh : ∃ a' c', v' = .slice a' (ou.length + 1) c' := by
      rcases ho2.2 with ⟨_, e2⟩ | ⟨g, cap, cur, rfl, _⟩
      · omega
      · exact ⟨_, _, rfl⟩
    have hne : v'.ownBlock ≠ some b := by
      intro x
      rcases ho2.2 with ⟨rfl, _⟩ | ⟨g, cap, cur, rfl, _, hg, _⟩
      · simp [Value.ownBlock] at x
      · simp [Value.ownBlock] at x
        subst x
        rw [hB] at hg
        simp at hg
    have HF : Hid (Mc w0 (V2.setCell ⟨b, 7, none⟩ v') b rc a0 R v' ⟨at0, mi, ne, ⟨tn, tt, ts⟩, ⟨tn, tt, ts⟩ :: ou⟩) := hideL ⟨heap_setCell_same V2 b 7 _ _ v' hB, by rw [List.reverse_cons]; exact ownsRow_setCell_other ho2 hne _, k2.trans (Kept.setCell _ _ _) (fun i hi => .inr (by have := H2.out.hb; simp only at hi; omega)), H2.out.hb, H2.out.row, H2.out.ha, H2.out.hr, H2.out.hm⟩
    obtain ⟨a', c', rfl⟩ := hsh
    have hSF : S3v b tn tt ts _ := s3v HF.out
    clear H2 hR ho2 k2 hb2 hS2 hne hC8 hB
    unfold wpOp
    go_simp
    first | refine Or.inl ⟨hSF, ?_⟩ | refine ⟨hSF, ?_⟩ | (change wpAnyH _ _ _ _ _ _ _ _ _) | refine Or.inl ?_
    refine wpAnyH_done (by kernel_rfl) ?_ _
    clear hS3 hSF c7 f7
    generalize V2.setCell ⟨b, 7, none⟩ (.slice a' (ou.length + 1) c') = V3 at *
    obtain ⟨-, -, -, -, x4, x5, x6, -⟩ := HF.out.cells
    have f4 := HF.out.free 4
    have f5 := HF.out.free 5
    have f6 := HF.out.free 6
    have HE := hideL ((((HF.out.setTn 0 0 rfl).setTt 0 0 rfl).setTs false))
    dsimp only at x4 x5 x6
    clear HF
    go_wp2_with fail
    first | go_ret | go_ret2 | go_end0
    exact ⟨rfl, _, HE.out⟩
  · unfold wpOp
    go_simp
    have H2 := hideL (HD.out.later (Kept.alloc V0 (.cells #[.int .i64 (tn : Int), .int .i64 (tt : Int), .bool ts] 50)))
    have hS2 : S3v b tn tt ts _ := s3v H2.out
    first | refine Or.inl ⟨hS2, ?_⟩ | refine ⟨hS2, ?_⟩ | (change wpAnyH _ _ _ _ _ _ _ _ _) | refine Or.inl ?_
    have hR : Hid (∀ j u, (lvC ⟨tn, tt, ts⟩)[j]? = some u → (V0.alloc (.cells #[.int .i64 (tn : Int), .int .i64 (tt : Int), .bool ts] 50)).cell? ⟨V0.heap.size, j, none⟩ = some u) := hideL (fun j u hu => by
      rw [World.cell?_alloc_new, ← hu]
      exact List.getElem?_toArray)
    generalize (V0.alloc (.cells #[.int .i64 (tn : Int), .int .i64 (tt : Int), .bool ts] 50)) = V1 at *
    clear HD hS
    refine wpAnyH_all (rs := [4]) (by kernel_rfl) (by simp) ?_
    intro i' hi'
    obtain rfl : i' = 4 := by simpa using hi'
    have c7 := H2.out.cells.2.2.2.2.2.2.2
    unfold wpOp
    go_simp
    first | refine Or.inl ⟨hS2, ?_⟩ | refine ⟨hS2, ?_⟩ | (change wpAnyH _ _ _ _ _ _ _ _ _) | refine Or.inl ?_
    clear c7
    refine wpAnyH_all (rs := [10]) (by kernel_rfl) (by simp) ?_
    intro i' hi'
    obtain rfl : i' = 10 := by simpa using hi'
    refine wpOp_inL rfl rfl ?_
    refine wp_lvl (w0 := w0) (.tmp 6) (.tmp 11) rfl ⟨tn, tt, ts⟩ V0.heap.size rfl H2.out.own H2.out.kept rfl hR.out hm ?_
    intro v' V2 ho2 k2 hb2
    have hB := hb2 _ _ _ H2.out.blk
    have hC8 := mc_at hB
    have hS3 : S3v b tn tt ts V2 := ⟨hC8.1, hC8.2.1, hC8.2.2.1⟩
    refine ⟨hS3, ?_⟩
    simp only [Act.put, List.setIfInBounds_toArray]
    refine takeZ (i := 11) (d := 13) (v := .pointer (some ⟨b, 0, none⟩)) rfl rfl (by kernel_rfl) (by kernel_rfl) (by kernel_rfl) (fun _ _ _ h => h) (Or.inl ⟨by rfl, fun W hW => ?_⟩) hS3 ?_
    · (go_simp)
    simp only [Act.put]
    refine takeZ (i := 12) (d := 14) (v := .pointer (some ⟨b, 7, none⟩)) rfl rfl (by kernel_rfl) (by kernel_rfl) (by kernel_rfl) (fun _ _ _ h => h) (Or.inl ⟨by rfl, fun W hW => ?_⟩) hS3 ?_
    · (go_simp)
    simp only [Act.put]
    refine wpAnyH_all (rs := [13]) (by kernel_rfl) (by simp) ?_
    intro i' hi'
    obtain rfl : i' = 13 := by simpa using hi'
    have c7 := hC8.2.2.2
    have f7 : V2.frozen? ⟨b, 7, none⟩ = false := by simp [World.frozen?, hB]
    have hsh : ∃ a' c', v' = .slice a' (ou.length + 1) c' := by
      rcases ho2.2 with ⟨_, e2⟩ | ⟨g, cap, cur, rfl, _⟩
      · omega
      · exact ⟨_, _, rfl⟩
    have hne : v'.ownBlock ≠ some b := by
      intro x
      rcases ho2.2 with ⟨rfl, _⟩ | ⟨g, cap, cur, rfl, _, hg, _⟩
      · simp [Value.ownBlock] at x
      · simp [Value.ownBlock] at x
        subst x
        rw [hB] at hg
        simp at hg
    have HF : Hid (Mc w0 (V2.setCell ⟨b, 7, none⟩ v') b rc a0 R v' ⟨at0, mi, ne, ⟨tn, tt, ts⟩, ⟨tn, tt, ts⟩ :: ou⟩) := hideL ⟨heap_setCell_same V2 b 7 _ _ v' hB, by rw [List.reverse_cons]; exact ownsRow_setCell_other ho2 hne _, k2.trans (Kept.setCell _ _ _) (fun i hi => .inr (by have := H2.out.hb; simp only at hi; omega)), H2.out.hb, H2.out.row, H2.out.ha, H2.out.hr, H2.out.hm⟩
    obtain ⟨a', c', rfl⟩ := hsh
    have hSF : S3v b tn tt ts _ := s3v HF.out
    clear H2 hR ho2 k2 hb2 hS2 hne hC8 hB
    unfold wpOp
    go_simp
    first | refine Or.inl ⟨hSF, ?_⟩ | refine ⟨hSF, ?_⟩ | (change wpAnyH _ _ _ _ _ _ _ _ _) | refine Or.inl ?_
    refine wpAnyH_done (by kernel_rfl) ?_ _
    clear hS3 hSF c7 f7
    generalize V2.setCell ⟨b, 7, none⟩ (.slice a' (ou.length + 1) c') = V3 at *
    obtain ⟨-, -, -, -, x4, x5, x6, -⟩ := HF.out.cells
    have f4 := HF.out.free 4
    have f5 := HF.out.free 5
    have f6 := HF.out.free 6
    have HE := hideL ((((HF.out.setTn 0 0 rfl).setTt 0 0 rfl).setTs false))
    dsimp only at x4 x5 x6
    clear HF
    go_wp2_with fail
    first | go_ret | go_ret2 | go_end0
    exact ⟨rfl, _, HE.out⟩
end Go.Proofs.YtiemiphlfbaojaaDoor
namespace Go.Proofs.YtiemiphlfbaojaaDoor
open Go.ChangeShapes Go.WideShapes Go.ChangeAt Go.RowKit

/-! The recogniser's run, as a function: labels clause 0, unary 1, body 2, star 3, word 4, piece 5. -/
/-- A taking: it goes on by a token at least where it answers true, and leaves all but the place and what was missed. -/
structure Adv (R : List Tn) (F : MS → Bool × MS) : Prop where
  le : ∀ s, s.at' ≤ (F s).2.at'
  lt : ∀ s, (F s).1 = true → s.at' < (F s).2.at'
  hi : ∀ s, s.at' ≤ R.length → (F s).2.at' ≤ R.length
  ne : ∀ s, (F s).2.ne = s.ne
  top : ∀ s, (F s).2.top = s.top
  ou : ∀ s, (F s).2.ou = s.ou
theorem adv_tk {R : List Tn} (k : Nat) (f : Tn → Bool) (hf : f noT = false) : Adv R (fun s => (tkB R f s, tkS R k f s)) := by
  have key : ∀ s : MS, (tkS R k f s) = if f (tkA R s.at') then { s with at' := s.at' + 1, mi := 0 } else { s with mi := s.mi ||| (1 <<< k) } := fun s => rfl
  refine ⟨fun s => ?_, fun s h => ?_, fun s h => ?_, fun s => ?_, fun s => ?_, fun s => ?_⟩
  · show s.at' ≤ (tkS R k f s).at'
    rw [key]; split
    · exact Nat.le_succ _
    · exact Nat.le_refl _
  · show s.at' < (tkS R k f s).at'
    have h : f (tkA R s.at') = true := h
    rw [key, if_pos h]; exact Nat.lt_succ_self _
  · show (tkS R k f s).at' ≤ R.length
    rw [key]; split
    · rename_i q; exact tk_in hf q
    · exact h
  · show (tkS R k f s).ne = s.ne
    rw [key]; split <;> rfl
  · show (tkS R k f s).top = s.top
    rw [key]; split <;> rfl
  · show (tkS R k f s).ou = s.ou
    rw [key]; split <;> rfl
theorem adv_K (R : List Tn) (k : Nat) : Adv R (tK R k) := adv_tk k (isK k) (by unfold isK noT; simp)
theorem adv_St (R : List Tn) : Adv R (tSt R) := adv_tk 2 isSt rfl
theorem adv_Ed (R : List Tn) : Adv R (tEd R) := adv_tk 20 isEd rfl
theorem adv_Sl (R : List Tn) : Adv R (tSl R) := adv_tk 20 isSl rfl
theorem Adv.or {R : List Tn} {p q : MS → Bool × MS} (hp : Adv R p) (hq : Adv R q) : Adv R (orT p q) := by
  have key : ∀ s : MS, ((p s).1 = true ∧ orT p q s = p s) ∨ ((p s).1 = false ∧ orT p q s = q (p s).2) := fun s => by
    unfold orT
    cases h : (p s).1
    · exact .inr ⟨rfl, rfl⟩
    · exact .inl ⟨rfl, rfl⟩
  refine ⟨fun s => ?_, fun s h => ?_, fun s h => ?_, fun s => ?_, fun s => ?_, fun s => ?_⟩ <;> rcases key s with ⟨h1, h2⟩ | ⟨h1, h2⟩ <;> rw [h2]
  · exact hp.le s
  · exact Nat.le_trans (hp.le s) (hq.le _)
  · exact hp.lt s (by rw [← h2]; exact h)
  · exact Nat.lt_of_le_of_lt (hp.le s) (hq.lt _ (by rw [← h2]; exact h))
  · exact hp.hi s h
  · exact hq.hi _ (hp.hi s h)
  · exact hp.ne s
  · rw [hq.ne, hp.ne]
  · exact hp.top s
  · rw [hq.top, hp.top]
  · exact hp.ou s
  · rw [hq.ou, hp.ou]
theorem Adv.and {R : List Tn} {p q : MS → Bool × MS} (hp : Adv R p) (hq : Adv R q) : Adv R (andT p q) := by
  have key : ∀ s : MS, ((p s).1 = true ∧ andT p q s = q (p s).2) ∨ ((p s).1 = false ∧ andT p q s = p s) := fun s => by
    unfold andT
    cases h : (p s).1
    · exact .inr ⟨rfl, rfl⟩
    · exact .inl ⟨rfl, rfl⟩
  refine ⟨fun s => ?_, fun s h => ?_, fun s h => ?_, fun s => ?_, fun s => ?_, fun s => ?_⟩ <;> rcases key s with ⟨h1, h2⟩ | ⟨h1, h2⟩ <;> rw [h2]
  · exact Nat.le_trans (hp.le s) (hq.le _)
  · exact hp.le s
  · exact Nat.lt_of_le_of_lt (hp.le s) (hq.lt _ (by rw [← h2]; exact h))
  · exact hp.lt s (by rw [← h2]; exact h)
  · exact hq.hi _ (hp.hi s h)
  · exact hp.hi s h
  · rw [hq.ne, hp.ne]
  · exact hp.ne s
  · rw [hq.top, hp.top]
  · exact hp.top s
  · rw [hq.ou, hp.ou]
  · exact hp.ou s
theorem adv_Side (R : List Tn) : Adv R (tSide R) := ((adv_K R 1).or (adv_K R 3)).or (adv_St R)
theorem adv_Sides (R : List Tn) : Adv R (tSides R) := (((adv_Side R).and (adv_K R 7)).and (adv_Side R)).and ((adv_K R 11).or (adv_K R 13))
theorem adv_Join (R : List Tn) : Adv R (tJoin R) := ((adv_K R 5).or (adv_K R 4)).or (adv_K R 17)
/-- One pass from a label: where it jumps, or what it answers; and what it leaves. -/
def stp0 (R : List Tn) (s : MS) : (Nat ⊕ Bool) × MS := (.inl 1, { (orT (tK R 15) (tK R 16) s).2 with top := { (orT (tK R 15) (tK R 16) s).2.top with s := (orT (tK R 15) (tK R 16) s).1 } })
def stp1 (R : List Tn) (s : MS) : (Nat ⊕ Bool) × MS :=
  if (tK R 6 s).1 then (.inl 1, { (tK R 6 s).2 with top := { (tK R 6 s).2.top with t := (tK R 6 s).2.top.t + 1 } })
  else if (tSt R (tK R 6 s).2).1 then (.inl 3, (tSt R (tK R 6 s).2).2)
  else if (tK R 1 (tSt R (tK R 6 s).2).2).1 then (.inl 4, (tK R 1 (tSt R (tK R 6 s).2).2).2)
  else (.inl 2, (tK R 1 (tSt R (tK R 6 s).2).2).2)
def stp2e (R : List Tn) (s : MS) : (Nat ⊕ Bool) × MS :=
  if (tK R 3 s).1 then (.inl 5, (tSl R (tK R 3 s).2).2)
  else if (tK R 1 (tK R 3 s).2).1 then (.inl 5, (tEd R (tK R 1 (tK R 3 s).2).2).2)
  else if (tK R 2 (tK R 1 (tK R 3 s).2).2).1 then (.inl 5, (tK R 2 (tK R 1 (tK R 3 s).2).2).2)
  else (.inr false, (tK R 2 (tK R 1 (tK R 3 s).2).2).2)
def stpS (R : List Tn) (s : MS) : (Nat ⊕ Bool) × MS := if (tSides R s).1 then (.inl 5, (tSides R s).2) else (.inr false, (tSides R s).2)
def stp2 (R : List Tn) (s : MS) : (Nat ⊕ Bool) × MS :=
  if (tK R 8 s).1 then (.inl 0, (tK R 8 s).2.open')
  else if (tK R 10 (tK R 8 s).2).1 then stpS R (tK R 10 (tK R 8 s).2).2
  else if (tK R 12 (tK R 10 (tK R 8 s).2).2).1 then stpS R (tK R 12 (tK R 10 (tK R 8 s).2).2).2
  else stp2e R (tK R 12 (tK R 10 (tK R 8 s).2).2).2
def stp3 (R : List Tn) (s : MS) : (Nat ⊕ Bool) × MS :=
  if (tK R 14 s).1 then (if (tSt R (tK R 14 s).2).1 then (.inl 5, (tSt R (tK R 14 s).2).2) else (.inr false, (tSt R (tK R 14 s).2).2)) else (.inl 5, (tK R 14 s).2)
def stp4 (R : List Tn) (s : MS) : (Nat ⊕ Bool) × MS := if (tK R 14 s).1 then (.inl 2, (tK R 14 s).2) else (.inl 5, (tEd R (tK R 14 s).2).2)
/-- Behind a piece where no part is joined. -/
def stp5e (R : List Tn) (s : MS) : (Nat ⊕ Bool) × MS :=
  match s.ou with
  | [] => if (tK R 0 s).1 then (.inr true, (tK R 0 s).2) else (.inl 0, (tK R 0 s).2)
  | l :: r => if (tK R 9 s).1 then (.inl 5, (tK R 21 ((tK R 9 s).2.close' l r)).2) else (.inl 0, (tK R 9 s).2)
def stp5u (R : List Tn) (s : MS) : (Nat ⊕ Bool) × MS := if s.top.s then stp5e R s else if (tJoin R s).1 then (.inl 1, (tJoin R s).2) else stp5e R (tJoin R s).2
def stp5 (R : List Tn) (s : MS) : (Nat ⊕ Bool) × MS :=
  if (orT (tK R 18) (tK R 19) s).1 then (.inl 5, { (orT (tK R 18) (tK R 19) s).2 with ne := (orT (tK R 18) (tK R 19) s).2.ne + 1 }) else stp5u R (orT (tK R 18) (tK R 19) s).2.endU
def stpM (R : List Tn) (lab : Nat) (s : MS) : (Nat ⊕ Bool) × MS :=
  if lab = 0 then stp0 R s else if lab = 1 then stp1 R s else if lab = 2 then stp2 R s else if lab = 3 then stp3 R s else if lab = 4 then stp4 R s else stp5 R s
/-- The rank of a place in the run. -/
def lrk (lab : Nat) : Nat := if lab = 0 then 4 else if lab = 1 then 3 else if lab = 2 then 2 else if lab = 5 then 5 else 6
def rkM (R : List Tn) (lab : Nat) (s : MS) : Nat := (R.length - s.at') * 10 + lrk lab
def runF (R : List Tn) : Nat → Nat → MS → Bool × MS
  | 0, _, s => (false, s)
  | f + 1, lab, s => match stpM R lab s with
    | (.inr b, s') => (b, s')
    | (.inl l, s') => runF R f l s'
theorem runF_ret {R : List Tn} {f lab : Nat} {s s' : MS} {b : Bool} (h : stpM R lab s = (.inr b, s')) : runF R (f + 1) lab s = (b, s') := by rw [runF, h]
theorem runF_go {R : List Tn} {f lab l : Nat} {s s' : MS} (h : stpM R lab s = (.inl l, s')) : runF R (f + 1) lab s = runF R f l s' := by rw [runF, h]
/-- Bounds that keep every number small. -/
def sO : List Lv → Nat
  | [] => 0
  | l :: r => l.t + 1 + sO r
def okO (a : Nat) : List Lv → Prop
  | [] => True
  | l :: r => l.n + sO r ≤ a ∧ okO a r
structure okS (s : MS) : Prop where
  a : s.ne + s.top.t + sO s.ou ≤ s.at'
  b : s.top.n + sO s.ou ≤ s.at'
  c : okO s.at' s.ou
theorem okO.mono {a a' : Nat} : ∀ {L : List Lv}, okO a L → a ≤ a' → okO a' L
  | [], _, _ => trivial
  | _ :: _, h, ha => ⟨Nat.le_trans h.1 ha, okO.mono h.2 ha⟩
theorem sO_len : ∀ L : List Lv, L.length ≤ sO L
  | [] => Nat.le_refl _
  | l :: r => by have := sO_len r; simp only [List.length_cons, sO]; omega
theorem Adv.ok {R : List Tn} {F : MS → Bool × MS} (h : Adv R F) {s : MS} (hs : okS s) : okS (F s).2 := by
  have := h.le s
  refine ⟨?_, ?_, ?_⟩
  · rw [h.ne, h.top, h.ou]; have := hs.a; omega
  · rw [h.top, h.ou]; have := hs.b; omega
  · rw [h.ou]; exact hs.c.mono this
theorem okS.sign {s : MS} (h : okS s) (q : Bool) : okS { s with top := { s.top with s := q } } := ⟨h.a, h.b, h.c⟩
theorem okS.not {s : MS} (h : okS s) {s' : MS} (h1 : s.at' < s'.at') (h2 : s'.ne = s.ne) (h3 : s'.top = s.top) (h4 : s'.ou = s.ou) : okS { s' with top := { s'.top with t := s'.top.t + 1 } } := by
  refine ⟨?_, ?_, ?_⟩
  · show s'.ne + (s'.top.t + 1) + sO s'.ou ≤ s'.at'
    rw [h2, h3, h4]; have := h.a; omega
  · show s'.top.n + sO s'.ou ≤ s'.at'
    rw [h3, h4]; have := h.b; omega
  · show okO s'.at' s'.ou
    rw [h4]; exact h.c.mono (Nat.le_of_lt h1)
theorem okS.boost {s : MS} (h : okS s) {s' : MS} (h1 : s.at' < s'.at') (h2 : s'.ne = s.ne) (h3 : s'.top = s.top) (h4 : s'.ou = s.ou) : okS { s' with ne := s'.ne + 1 } := by
  refine ⟨?_, ?_, ?_⟩
  · show s'.ne + 1 + s'.top.t + sO s'.ou ≤ s'.at'
    rw [h2, h3, h4]; have := h.a; omega
  · show s'.top.n + sO s'.ou ≤ s'.at'
    rw [h3, h4]; have := h.b; omega
  · show okO s'.at' s'.ou
    rw [h4]; exact h.c.mono (Nat.le_of_lt h1)
theorem okS.endU {s : MS} (h : okS s) : okS s.endU := by
  have h1 := h.a
  have h2 := h.b
  refine ⟨?_, ?_, h.c⟩
  · show 0 + 0 + sO s.ou ≤ s.at'
    omega
  · show max s.top.n (s.ne + s.top.t) + sO s.ou ≤ s.at'
    omega
theorem okS.open' {s : MS} (h : okS s) {s' : MS} (h1 : s.at' < s'.at') (h3 : s'.top = s.top) (h4 : s'.ou = s.ou) (h5 : s'.ne = 0) : okS s'.open' := by
  have q1 := h.a
  have q2 := h.b
  refine ⟨?_, ?_, ?_, ?_⟩
  · show s'.ne + 0 + (s'.top.t + 1 + sO s'.ou) ≤ s'.at'
    rw [h5, h3, h4]; omega
  · show 0 + (s'.top.t + 1 + sO s'.ou) ≤ s'.at'
    rw [h3, h4]; omega
  · show s'.top.n + sO s'.ou ≤ s'.at'
    rw [h3, h4]; omega
  · show okO s'.at' s'.ou
    rw [h4]; exact h.c.mono (Nat.le_of_lt h1)
theorem okS.close' {s : MS} (h : okS s) {l : Lv} {r : List Lv} (e : s.ou = l :: r) : okS (s.close' l r) := by
  have q2 := h.b
  have q3 := h.c
  rw [e] at q2 q3
  simp only [sO] at q2
  obtain ⟨q4, q5⟩ := q3
  refine ⟨?_, ?_, ?_⟩
  · show s.top.n + 1 + l.t + sO r ≤ s.at'
    omega
  · exact q4
  · exact q5
end Go.Proofs.YtiemiphlfbaojaaDoor
namespace Go.Proofs.YtiemiphlfbaojaaDoor
open Go.ChangeShapes Go.WideShapes Go.ChangeAt Go.RowKit

/-! The edges of the run. -/
/-- A state at a label, on the way to the answer Z. -/
structure Goo (R : List Tn) (Z : Bool × MS) (ml : Nat) (s : MS) : Prop where
  ok : okS s
  ne : ml ≠ 5 → s.ne = 0
  at' : s.at' ≤ R.length
  go : ∃ f, Z = runF R f ml s ∧ rkM R ml s < f
variable {R : List Tn} {Z : Bool × MS} {s s1 s2 s3 s4 s5 s6 : MS} {B : Bool}
theorem lrk_le (l : Nat) : 2 ≤ lrk l ∧ lrk l ≤ 6 := by unfold lrk; (repeat' split) <;> omega
theorem rk_tok {s s' : MS} (ml l : Nat) (h : s.at' < s'.at') (h2 : s'.at' ≤ R.length) : rkM R l s' < rkM R ml s := by
  have h3 := lrk_le ml
  have h4 := lrk_le l
  unfold rkM
  omega
theorem rk_lab {s s' : MS} {ml l : Nat} (h : s.at' ≤ s'.at') (h2 : lrk l < lrk ml) : rkM R l s' < rkM R ml s := by unfold rkM; omega
theorem Goo.edge {ml l : Nat} {s' : MS} (h : Goo R Z ml s) (e : stpM R ml s = (.inl l, s')) (hr : rkM R l s' < rkM R ml s) (ho : okS s') (hn : l ≠ 5 → s'.ne = 0) (ha : s'.at' ≤ R.length) : Goo R Z l s' ∧ rkM R l s' < rkM R ml s := by
  obtain ⟨f, hZ, hf⟩ := h.go
  obtain ⟨g, rfl⟩ : ∃ g, f = g + 1 := ⟨f - 1, by omega⟩
  exact ⟨⟨ho, hn, ha, g, by rw [hZ, runF_go e], by omega⟩, hr⟩
theorem Goo.ret {ml : Nat} {s' : MS} (h : Goo R Z ml s) (e : stpM R ml s = (.inr B, s')) : Z = (B, s') := by
  obtain ⟨f, hZ, hf⟩ := h.go
  obtain ⟨g, rfl⟩ : ∃ g, f = g + 1 := ⟨f - 1, by omega⟩
  rw [hZ, runF_ret e]
/-- What a taking leaves, by its equation. -/
theorem Adv.at' {F : MS → Bool × MS} (h : Adv R F) {s s1 : MS} {B : Bool} (e : F s = (B, s1)) : s.at' ≤ s1.at' ∧ (B = true → s.at' < s1.at') ∧ (s.at' ≤ R.length → s1.at' ≤ R.length) ∧ s1.ne = s.ne ∧ s1.top = s.top ∧ s1.ou = s.ou ∧ (okS s → okS s1) := by
  have h1 := h.le s
  have h2 := h.lt s
  have h3 := h.hi s
  have h4 := h.ne s
  have h5 := h.top s
  have h6 := h.ou s
  have h7 := @Adv.ok R F h s
  rw [e] at h1 h2 h3 h4 h5 h6 h7
  exact ⟨h1, h2, h3, h4, h5, h6, h7⟩
theorem e01 (h : Goo R Z 0 s) (q0 : orT (tK R 15) (tK R 16) s = (B, s1)) : Goo R Z 1 { s1 with top := { s1.top with s := B } } ∧ rkM R 1 { s1 with top := { s1.top with s := B } } < rkM R 0 s := by
  obtain ⟨a0, b0, c0, d0, e0, f0, g0⟩ := Adv.at' ((adv_K R 15).or (adv_K R 16)) q0
  have hn := h.ne (by decide)
  have ha := h.at'
  have k0 := c0 ha
  have o0 := g0 h.ok
  refine h.edge ?_ ?_ ?_ ?_ ?_
  · show stp0 R s = _
    simp only [stp0, q0]
    try rfl
  · exact rk_lab (by show s.at' ≤ s1.at'; omega) (by decide)
  · exact o0.sign _
  · intro _; show s1.ne = 0; rw [d0]; exact hn
  · exact k0
theorem e11 (h : Goo R Z 1 s) (q0 : tK R 6 s = (true, s1)) : Goo R Z 1 { s1 with top := { s1.top with t := s1.top.t + 1 } } ∧ rkM R 1 { s1 with top := { s1.top with t := s1.top.t + 1 } } < rkM R 1 s := by
  obtain ⟨a0, b0, c0, d0, e0, f0, g0⟩ := Adv.at' (adv_K R 6) q0
  have hn := h.ne (by decide)
  have ha := h.at'
  have k0 := c0 ha
  have o0 := g0 h.ok
  refine h.edge ?_ ?_ ?_ ?_ ?_
  · show stp1 R s = _
    simp only [stp1, q0, ↓reduceIte]
    try rfl
  · exact rk_tok _ _ (by show s.at' < s1.at'; have w := b0 rfl; omega) k0
  · exact h.ok.not (b0 rfl) d0 e0 f0
  · intro _; show s1.ne = 0; rw [d0]; exact hn
  · exact k0
theorem e13 (h : Goo R Z 1 s) (q0 : tK R 6 s = (false, s1)) (q1 : tSt R s1 = (true, s2)) : Goo R Z 3 s2 ∧ rkM R 3 s2 < rkM R 1 s := by
  obtain ⟨a0, b0, c0, d0, e0, f0, g0⟩ := Adv.at' (adv_K R 6) q0
  obtain ⟨a1, b1, c1, d1, e1, f1, g1⟩ := Adv.at' (adv_St R) q1
  have hn := h.ne (by decide)
  have ha := h.at'
  have k0 := c0 ha
  have k1 := c1 k0
  have o0 := g0 h.ok
  have o1 := g1 o0
  refine h.edge ?_ ?_ ?_ ?_ ?_
  · show stp1 R s = _
    simp only [stp1, q0, q1, Bool.false_eq_true, ↓reduceIte]
    try rfl
  · exact rk_tok _ _ (by show s.at' < s2.at'; have w := b1 rfl; omega) k1
  · exact o1
  · intro _; show s2.ne = 0; rw [d1, d0]; exact hn
  · exact k1
theorem e14 (h : Goo R Z 1 s) (q0 : tK R 6 s = (false, s1)) (q1 : tSt R s1 = (false, s2)) (q2 : tK R 1 s2 = (true, s3)) : Goo R Z 4 s3 ∧ rkM R 4 s3 < rkM R 1 s := by
  obtain ⟨a0, b0, c0, d0, e0, f0, g0⟩ := Adv.at' (adv_K R 6) q0
  obtain ⟨a1, b1, c1, d1, e1, f1, g1⟩ := Adv.at' (adv_St R) q1
  obtain ⟨a2, b2, c2, d2, e2, f2, g2⟩ := Adv.at' (adv_K R 1) q2
  have hn := h.ne (by decide)
  have ha := h.at'
  have k0 := c0 ha
  have k1 := c1 k0
  have k2 := c2 k1
  have o0 := g0 h.ok
  have o1 := g1 o0
  have o2 := g2 o1
  refine h.edge ?_ ?_ ?_ ?_ ?_
  · show stp1 R s = _
    simp only [stp1, q0, q1, q2, Bool.false_eq_true, ↓reduceIte]
    try rfl
  · exact rk_tok _ _ (by show s.at' < s3.at'; have w := b2 rfl; omega) k2
  · exact o2
  · intro _; show s3.ne = 0; rw [d2, d1, d0]; exact hn
  · exact k2
theorem e12 (h : Goo R Z 1 s) (q0 : tK R 6 s = (false, s1)) (q1 : tSt R s1 = (false, s2)) (q2 : tK R 1 s2 = (false, s3)) : Goo R Z 2 s3 ∧ rkM R 2 s3 < rkM R 1 s := by
  obtain ⟨a0, b0, c0, d0, e0, f0, g0⟩ := Adv.at' (adv_K R 6) q0
  obtain ⟨a1, b1, c1, d1, e1, f1, g1⟩ := Adv.at' (adv_St R) q1
  obtain ⟨a2, b2, c2, d2, e2, f2, g2⟩ := Adv.at' (adv_K R 1) q2
  have hn := h.ne (by decide)
  have ha := h.at'
  have k0 := c0 ha
  have k1 := c1 k0
  have k2 := c2 k1
  have o0 := g0 h.ok
  have o1 := g1 o0
  have o2 := g2 o1
  refine h.edge ?_ ?_ ?_ ?_ ?_
  · show stp1 R s = _
    simp only [stp1, q0, q1, q2, Bool.false_eq_true, ↓reduceIte]
    try rfl
  · exact rk_lab (by show s.at' ≤ s3.at'; omega) (by decide)
  · exact o2
  · intro _; show s3.ne = 0; rw [d2, d1, d0]; exact hn
  · exact k2
theorem e20 (h : Goo R Z 2 s) (q0 : tK R 8 s = (true, s1)) : Goo R Z 0 s1.open' ∧ rkM R 0 s1.open' < rkM R 2 s := by
  obtain ⟨a0, b0, c0, d0, e0, f0, g0⟩ := Adv.at' (adv_K R 8) q0
  have hn := h.ne (by decide)
  have ha := h.at'
  have k0 := c0 ha
  have o0 := g0 h.ok
  refine h.edge ?_ ?_ ?_ ?_ ?_
  · show stp2 R s = _
    simp only [stp2, q0, ↓reduceIte]
    try rfl
  · exact rk_tok _ _ (by show s.at' < s1.at'; have w := b0 rfl; omega) k0
  · exact h.ok.open' (b0 rfl) e0 f0 (by rw [d0]; exact hn)
  · intro _; show s1.ne = 0; rw [d0]; exact hn
  · exact k0
theorem e25a (h : Goo R Z 2 s) (q0 : tK R 8 s = (false, s1)) (q1 : tK R 10 s1 = (true, s2)) (q2 : tSides R s2 = (true, s3)) : Goo R Z 5 s3 ∧ rkM R 5 s3 < rkM R 2 s := by
  obtain ⟨a0, b0, c0, d0, e0, f0, g0⟩ := Adv.at' (adv_K R 8) q0
  obtain ⟨a1, b1, c1, d1, e1, f1, g1⟩ := Adv.at' (adv_K R 10) q1
  obtain ⟨a2, b2, c2, d2, e2, f2, g2⟩ := Adv.at' (adv_Sides R) q2
  have hn := h.ne (by decide)
  have ha := h.at'
  have k0 := c0 ha
  have k1 := c1 k0
  have k2 := c2 k1
  have o0 := g0 h.ok
  have o1 := g1 o0
  have o2 := g2 o1
  refine h.edge ?_ ?_ ?_ ?_ ?_
  · show stp2 R s = _
    simp only [stp2, stpS, q0, q1, q2, Bool.false_eq_true, ↓reduceIte]
    try rfl
  · exact rk_tok _ _ (by show s.at' < s3.at'; have w := b1 rfl; omega) k2
  · exact o2
  · intro w; exact absurd rfl w
  · exact k2
theorem r2a (h : Goo R Z 2 s) (q0 : tK R 8 s = (false, s1)) (q1 : tK R 10 s1 = (true, s2)) (q2 : tSides R s2 = (false, s3)) : Z = (false, s3) := by
  refine h.ret ?_
  show stp2 R s = _
  simp only [stp2, stpS, q0, q1, q2, Bool.false_eq_true, ↓reduceIte]
  try rfl
theorem e25b (h : Goo R Z 2 s) (q0 : tK R 8 s = (false, s1)) (q1 : tK R 10 s1 = (false, s2)) (q2 : tK R 12 s2 = (true, s3)) (q3 : tSides R s3 = (true, s4)) : Goo R Z 5 s4 ∧ rkM R 5 s4 < rkM R 2 s := by
  obtain ⟨a0, b0, c0, d0, e0, f0, g0⟩ := Adv.at' (adv_K R 8) q0
  obtain ⟨a1, b1, c1, d1, e1, f1, g1⟩ := Adv.at' (adv_K R 10) q1
  obtain ⟨a2, b2, c2, d2, e2, f2, g2⟩ := Adv.at' (adv_K R 12) q2
  obtain ⟨a3, b3, c3, d3, e3, f3, g3⟩ := Adv.at' (adv_Sides R) q3
  have hn := h.ne (by decide)
  have ha := h.at'
  have k0 := c0 ha
  have k1 := c1 k0
  have k2 := c2 k1
  have k3 := c3 k2
  have o0 := g0 h.ok
  have o1 := g1 o0
  have o2 := g2 o1
  have o3 := g3 o2
  refine h.edge ?_ ?_ ?_ ?_ ?_
  · show stp2 R s = _
    simp only [stp2, stpS, q0, q1, q2, q3, Bool.false_eq_true, ↓reduceIte]
    try rfl
  · exact rk_tok _ _ (by show s.at' < s4.at'; have w := b2 rfl; omega) k3
  · exact o3
  · intro w; exact absurd rfl w
  · exact k3
theorem r2b (h : Goo R Z 2 s) (q0 : tK R 8 s = (false, s1)) (q1 : tK R 10 s1 = (false, s2)) (q2 : tK R 12 s2 = (true, s3)) (q3 : tSides R s3 = (false, s4)) : Z = (false, s4) := by
  refine h.ret ?_
  show stp2 R s = _
  simp only [stp2, stpS, q0, q1, q2, q3, Bool.false_eq_true, ↓reduceIte]
  try rfl
theorem e25c (h : Goo R Z 2 s) (q0 : tK R 8 s = (false, s1)) (q1 : tK R 10 s1 = (false, s2)) (q2 : tK R 12 s2 = (false, s3)) (q3 : tK R 3 s3 = (true, s4)) (q4 : tSl R s4 = (B, s5)) : Goo R Z 5 s5 ∧ rkM R 5 s5 < rkM R 2 s := by
  obtain ⟨a0, b0, c0, d0, e0, f0, g0⟩ := Adv.at' (adv_K R 8) q0
  obtain ⟨a1, b1, c1, d1, e1, f1, g1⟩ := Adv.at' (adv_K R 10) q1
  obtain ⟨a2, b2, c2, d2, e2, f2, g2⟩ := Adv.at' (adv_K R 12) q2
  obtain ⟨a3, b3, c3, d3, e3, f3, g3⟩ := Adv.at' (adv_K R 3) q3
  obtain ⟨a4, b4, c4, d4, e4, f4, g4⟩ := Adv.at' (adv_Sl R) q4
  have hn := h.ne (by decide)
  have ha := h.at'
  have k0 := c0 ha
  have k1 := c1 k0
  have k2 := c2 k1
  have k3 := c3 k2
  have k4 := c4 k3
  have o0 := g0 h.ok
  have o1 := g1 o0
  have o2 := g2 o1
  have o3 := g3 o2
  have o4 := g4 o3
  refine h.edge ?_ ?_ ?_ ?_ ?_
  · show stp2 R s = _
    simp only [stp2, stp2e, q0, q1, q2, q3, q4, Bool.false_eq_true, ↓reduceIte]
    try rfl
  · exact rk_tok _ _ (by show s.at' < s5.at'; have w := b3 rfl; omega) k4
  · exact o4
  · intro w; exact absurd rfl w
  · exact k4
theorem e25d (h : Goo R Z 2 s) (q0 : tK R 8 s = (false, s1)) (q1 : tK R 10 s1 = (false, s2)) (q2 : tK R 12 s2 = (false, s3)) (q3 : tK R 3 s3 = (false, s4)) (q4 : tK R 1 s4 = (true, s5)) (q5 : tEd R s5 = (B, s6)) : Goo R Z 5 s6 ∧ rkM R 5 s6 < rkM R 2 s := by
  obtain ⟨a0, b0, c0, d0, e0, f0, g0⟩ := Adv.at' (adv_K R 8) q0
  obtain ⟨a1, b1, c1, d1, e1, f1, g1⟩ := Adv.at' (adv_K R 10) q1
  obtain ⟨a2, b2, c2, d2, e2, f2, g2⟩ := Adv.at' (adv_K R 12) q2
  obtain ⟨a3, b3, c3, d3, e3, f3, g3⟩ := Adv.at' (adv_K R 3) q3
  obtain ⟨a4, b4, c4, d4, e4, f4, g4⟩ := Adv.at' (adv_K R 1) q4
  obtain ⟨a5, b5, c5, d5, e5, f5, g5⟩ := Adv.at' (adv_Ed R) q5
  have hn := h.ne (by decide)
  have ha := h.at'
  have k0 := c0 ha
  have k1 := c1 k0
  have k2 := c2 k1
  have k3 := c3 k2
  have k4 := c4 k3
  have k5 := c5 k4
  have o0 := g0 h.ok
  have o1 := g1 o0
  have o2 := g2 o1
  have o3 := g3 o2
  have o4 := g4 o3
  have o5 := g5 o4
  refine h.edge ?_ ?_ ?_ ?_ ?_
  · show stp2 R s = _
    simp only [stp2, stp2e, q0, q1, q2, q3, q4, q5, Bool.false_eq_true, ↓reduceIte]
    try rfl
  · exact rk_tok _ _ (by show s.at' < s6.at'; have w := b4 rfl; omega) k5
  · exact o5
  · intro w; exact absurd rfl w
  · exact k5
theorem e25e (h : Goo R Z 2 s) (q0 : tK R 8 s = (false, s1)) (q1 : tK R 10 s1 = (false, s2)) (q2 : tK R 12 s2 = (false, s3)) (q3 : tK R 3 s3 = (false, s4)) (q4 : tK R 1 s4 = (false, s5)) (q5 : tK R 2 s5 = (true, s6)) : Goo R Z 5 s6 ∧ rkM R 5 s6 < rkM R 2 s := by
  obtain ⟨a0, b0, c0, d0, e0, f0, g0⟩ := Adv.at' (adv_K R 8) q0
  obtain ⟨a1, b1, c1, d1, e1, f1, g1⟩ := Adv.at' (adv_K R 10) q1
  obtain ⟨a2, b2, c2, d2, e2, f2, g2⟩ := Adv.at' (adv_K R 12) q2
  obtain ⟨a3, b3, c3, d3, e3, f3, g3⟩ := Adv.at' (adv_K R 3) q3
  obtain ⟨a4, b4, c4, d4, e4, f4, g4⟩ := Adv.at' (adv_K R 1) q4
  obtain ⟨a5, b5, c5, d5, e5, f5, g5⟩ := Adv.at' (adv_K R 2) q5
  have hn := h.ne (by decide)
  have ha := h.at'
  have k0 := c0 ha
  have k1 := c1 k0
  have k2 := c2 k1
  have k3 := c3 k2
  have k4 := c4 k3
  have k5 := c5 k4
  have o0 := g0 h.ok
  have o1 := g1 o0
  have o2 := g2 o1
  have o3 := g3 o2
  have o4 := g4 o3
  have o5 := g5 o4
  refine h.edge ?_ ?_ ?_ ?_ ?_
  · show stp2 R s = _
    simp only [stp2, stp2e, q0, q1, q2, q3, q4, q5, Bool.false_eq_true, ↓reduceIte]
    try rfl
  · exact rk_tok _ _ (by show s.at' < s6.at'; have w := b5 rfl; omega) k5
  · exact o5
  · intro w; exact absurd rfl w
  · exact k5
theorem r2c (h : Goo R Z 2 s) (q0 : tK R 8 s = (false, s1)) (q1 : tK R 10 s1 = (false, s2)) (q2 : tK R 12 s2 = (false, s3)) (q3 : tK R 3 s3 = (false, s4)) (q4 : tK R 1 s4 = (false, s5)) (q5 : tK R 2 s5 = (false, s6)) : Z = (false, s6) := by
  refine h.ret ?_
  show stp2 R s = _
  simp only [stp2, stp2e, q0, q1, q2, q3, q4, q5, Bool.false_eq_true, ↓reduceIte]
  try rfl
theorem e35a (h : Goo R Z 3 s) (q0 : tK R 14 s = (true, s1)) (q1 : tSt R s1 = (true, s2)) : Goo R Z 5 s2 ∧ rkM R 5 s2 < rkM R 3 s := by
  obtain ⟨a0, b0, c0, d0, e0, f0, g0⟩ := Adv.at' (adv_K R 14) q0
  obtain ⟨a1, b1, c1, d1, e1, f1, g1⟩ := Adv.at' (adv_St R) q1
  have hn := h.ne (by decide)
  have ha := h.at'
  have k0 := c0 ha
  have k1 := c1 k0
  have o0 := g0 h.ok
  have o1 := g1 o0
  refine h.edge ?_ ?_ ?_ ?_ ?_
  · show stp3 R s = _
    simp only [stp3, q0, q1, ↓reduceIte]
    try rfl
  · exact rk_tok _ _ (by show s.at' < s2.at'; have w := b0 rfl; omega) k1
  · exact o1
  · intro w; exact absurd rfl w
  · exact k1
theorem r3 (h : Goo R Z 3 s) (q0 : tK R 14 s = (true, s1)) (q1 : tSt R s1 = (false, s2)) : Z = (false, s2) := by
  refine h.ret ?_
  show stp3 R s = _
  simp only [stp3, q0, q1, Bool.false_eq_true, ↓reduceIte]
  try rfl
theorem e35b (h : Goo R Z 3 s) (q0 : tK R 14 s = (false, s1)) : Goo R Z 5 s1 ∧ rkM R 5 s1 < rkM R 3 s := by
  obtain ⟨a0, b0, c0, d0, e0, f0, g0⟩ := Adv.at' (adv_K R 14) q0
  have hn := h.ne (by decide)
  have ha := h.at'
  have k0 := c0 ha
  have o0 := g0 h.ok
  refine h.edge ?_ ?_ ?_ ?_ ?_
  · show stp3 R s = _
    simp only [stp3, q0, Bool.false_eq_true, ↓reduceIte]
    try rfl
  · exact rk_lab (by show s.at' ≤ s1.at'; omega) (by decide)
  · exact o0
  · intro w; exact absurd rfl w
  · exact k0
theorem e42 (h : Goo R Z 4 s) (q0 : tK R 14 s = (true, s1)) : Goo R Z 2 s1 ∧ rkM R 2 s1 < rkM R 4 s := by
  obtain ⟨a0, b0, c0, d0, e0, f0, g0⟩ := Adv.at' (adv_K R 14) q0
  have hn := h.ne (by decide)
  have ha := h.at'
  have k0 := c0 ha
  have o0 := g0 h.ok
  refine h.edge ?_ ?_ ?_ ?_ ?_
  · show stp4 R s = _
    simp only [stp4, q0, ↓reduceIte]
    try rfl
  · exact rk_tok _ _ (by show s.at' < s1.at'; have w := b0 rfl; omega) k0
  · exact o0
  · intro _; show s1.ne = 0; rw [d0]; exact hn
  · exact k0
theorem e45 (h : Goo R Z 4 s) (q0 : tK R 14 s = (false, s1)) (q1 : tEd R s1 = (B, s2)) : Goo R Z 5 s2 ∧ rkM R 5 s2 < rkM R 4 s := by
  obtain ⟨a0, b0, c0, d0, e0, f0, g0⟩ := Adv.at' (adv_K R 14) q0
  obtain ⟨a1, b1, c1, d1, e1, f1, g1⟩ := Adv.at' (adv_Ed R) q1
  have hn := h.ne (by decide)
  have ha := h.at'
  have k0 := c0 ha
  have k1 := c1 k0
  have o0 := g0 h.ok
  have o1 := g1 o0
  refine h.edge ?_ ?_ ?_ ?_ ?_
  · show stp4 R s = _
    simp only [stp4, q0, q1, Bool.false_eq_true, ↓reduceIte]
    try rfl
  · exact rk_lab (by show s.at' ≤ s2.at'; omega) (by decide)
  · exact o1
  · intro w; exact absurd rfl w
  · exact k1
theorem e55 (h : Goo R Z 5 s) (q0 : orT (tK R 18) (tK R 19) s = (true, s1)) : Goo R Z 5 { s1 with ne := s1.ne + 1 } ∧ rkM R 5 { s1 with ne := s1.ne + 1 } < rkM R 5 s := by
  obtain ⟨a0, b0, c0, d0, e0, f0, g0⟩ := Adv.at' ((adv_K R 18).or (adv_K R 19)) q0
  have ha := h.at'
  have k0 := c0 ha
  have o0 := g0 h.ok
  refine h.edge ?_ ?_ ?_ ?_ ?_
  · show stp5 R s = _
    simp only [stp5, q0, ↓reduceIte]
    try rfl
  · exact rk_tok _ _ (by show s.at' < s1.at'; have w := b0 rfl; omega) k0
  · exact h.ok.boost (b0 rfl) d0 e0 f0
  · intro w; exact absurd rfl w
  · exact k0
end Go.Proofs.YtiemiphlfbaojaaDoor
namespace Go.Proofs.YtiemiphlfbaojaaDoor
open Go.ChangeShapes Go.WideShapes Go.ChangeAt Go.RowKit

/-! Behind a piece. -/
structure PB (R : List Tn) (s t : MS) : Prop where
  e : stp5 R s = stp5e R t
  le : s.at' ≤ t.at'
  hi : t.at' ≤ R.length
  ok : okS t
  ne : t.ne = 0
  ou : t.ou = s.ou
variable {R : List Tn} {Z : Bool × MS} {s s1 s2 s3 s4 t : MS} {B : Bool}
theorem pb_signed (h : Goo R Z 5 s) (q : orT (tK R 18) (tK R 19) s = (false, s1)) (hs : s.top.s = true) : PB R s s1.endU := by
  obtain ⟨a0, _, c0, d0, e0, f0, g0⟩ := Adv.at' ((adv_K R 18).or (adv_K R 19)) q
  have ht : s1.endU.top.s = true := by show s1.top.s = true; rw [e0]; exact hs
  refine ⟨?_, a0, c0 h.at', (g0 h.ok).endU, rfl, f0⟩
  simp only [stp5, q, Bool.false_eq_true, ↓reduceIte, stp5u, ht]
theorem pb_plain (h : Goo R Z 5 s) (q : orT (tK R 18) (tK R 19) s = (false, s1)) (hs : s.top.s = false) (q2 : tJoin R s1.endU = (false, s2)) : PB R s s2 := by
  obtain ⟨a0, _, c0, d0, e0, f0, g0⟩ := Adv.at' ((adv_K R 18).or (adv_K R 19)) q
  obtain ⟨a1, _, c1, d1, e1, f1, g1⟩ := Adv.at' (adv_Join R) q2
  have ht : s1.endU.top.s = false := by show s1.top.s = false; rw [e0]; exact hs
  refine ⟨?_, Nat.le_trans a0 a1, c1 (c0 h.at'), g1 (g0 h.ok).endU, by rw [d1]; rfl, by rw [f1]; exact f0⟩
  simp only [stp5, q, Bool.false_eq_true, ↓reduceIte, stp5u, ht, q2]
theorem e51 (h : Goo R Z 5 s) (q : orT (tK R 18) (tK R 19) s = (false, s1)) (hs : s.top.s = false) (q2 : tJoin R s1.endU = (true, s2)) : Goo R Z 1 s2 ∧ rkM R 1 s2 < rkM R 5 s := by
  obtain ⟨a0, _, c0, d0, e0, f0, g0⟩ := Adv.at' ((adv_K R 18).or (adv_K R 19)) q
  obtain ⟨a1, b1, c1, d1, e1, f1, g1⟩ := Adv.at' (adv_Join R) q2
  have ht : s1.endU.top.s = false := by show s1.top.s = false; rw [e0]; exact hs
  have k1 : s1.endU.at' = s1.at' := rfl
  refine h.edge ?_ ?_ ?_ ?_ ?_
  · show stp5 R s = _
    simp only [stp5, q, Bool.false_eq_true, ↓reduceIte, stp5u, ht, q2]
  · exact rk_tok _ _ (by have w := b1 rfl; omega) (c1 (c0 h.at'))
  · exact g1 (g0 h.ok).endU
  · intro _; rw [d1]; rfl
  · exact c1 (c0 h.at')
theorem p_end (h : Goo R Z 5 s) (p : PB R s t) (hou : s.ou = []) (q : tK R 0 t = (true, s3)) : Z = (true, s3) := by
  refine h.ret ?_
  show stp5 R s = _
  have ho : t.ou = [] := p.ou.trans hou
  rw [p.e]
  unfold stp5e
  rw [ho]
  simp only [q, ↓reduceIte]
theorem p_no (h : Goo R Z 5 s) (p : PB R s t) (hou : s.ou = []) (q : tK R 0 t = (false, s3)) : Goo R Z 0 s3 ∧ rkM R 0 s3 < rkM R 5 s := by
  obtain ⟨a1, b1, c1, d1, e1, f1, g1⟩ := Adv.at' (adv_K R 0) q
  have ho : t.ou = [] := p.ou.trans hou
  have w := p.le
  refine h.edge ?_ (rk_lab (by omega) (by decide)) (g1 p.ok) (fun _ => by rw [d1]; exact p.ne) (c1 p.hi)
  show stp5 R s = _
  rw [p.e]
  unfold stp5e
  rw [ho]
  simp only [q, Bool.false_eq_true, ↓reduceIte]
theorem p_clause (h : Goo R Z 5 s) (p : PB R s t) {l : Lv} {r : List Lv} (hou : s.ou = l :: r) (q : tK R 9 t = (false, s3)) : Goo R Z 0 s3 ∧ rkM R 0 s3 < rkM R 5 s := by
  obtain ⟨a1, b1, c1, d1, e1, f1, g1⟩ := Adv.at' (adv_K R 9) q
  have ho : t.ou = l :: r := p.ou.trans hou
  have w := p.le
  refine h.edge ?_ (rk_lab (by omega) (by decide)) (g1 p.ok) (fun _ => by rw [d1]; exact p.ne) (c1 p.hi)
  show stp5 R s = _
  rw [p.e]
  unfold stp5e
  rw [ho]
  simp only [q, Bool.false_eq_true, ↓reduceIte]
theorem p_close (h : Goo R Z 5 s) (p : PB R s t) {l : Lv} {r : List Lv} (hou : s.ou = l :: r) (q : tK R 9 t = (true, s3)) (q2 : tK R 21 (s3.close' l r) = (B, s4)) : (Goo R Z 5 s4 ∧ rkM R 5 s4 < rkM R 5 s) ∧ s3.ou = l :: r ∧ okS s3 := by
  obtain ⟨a1, b1, c1, d1, e1, f1, g1⟩ := Adv.at' (adv_K R 9) q
  obtain ⟨a2, b2, c2, d2, e2, f2, g2⟩ := Adv.at' (adv_K R 21) q2
  have ho : t.ou = l :: r := p.ou.trans hou
  have w := p.le
  have k1 : (s3.close' l r).at' = s3.at' := rfl
  have k2 := c1 p.hi
  have w1 := b1 rfl
  refine ⟨h.edge ?_ (rk_tok _ _ (by omega) (c2 k2)) (g2 ((g1 p.ok).close' (f1.trans ho))) (fun x => absurd rfl x) (c2 k2), f1.trans ho, g1 p.ok⟩
  show stp5 R s = _
  rw [p.e]
  unfold stp5e
  rw [ho]
  simp only [q, ↓reduceIte, q2]
/-! What holds at the labels. -/
def StS (w0 : World) (b rc : Nat) (a0 : Option Addr) (R : List Tn) (Z : Bool × MS) (r ml : Nat) (w : World) : Prop := ∃ v s, Goo R Z ml s ∧ Mc w0 w b rc a0 R v s ∧ r = rkM R ml s
def StM (w0 : World) (b rc : Nat) (a0 : Option Addr) (R : List Tn) (Z : Bool × MS) (r lab : Nat) (w : World) : Prop := (lab = 0 ∧ StS w0 b rc a0 R Z r 0 w) ∨ (lab = 1 ∧ StS w0 b rc a0 R Z r 1 w) ∨ (lab = 2 ∧ StS w0 b rc a0 R Z r 3 w) ∨ (lab = 3 ∧ StS w0 b rc a0 R Z r 4 w) ∨ (lab = 4 ∧ StS w0 b rc a0 R Z r 2 w) ∨ (lab = 5 ∧ StS w0 b rc a0 R Z r 5 w)
def rnPost (w0 : World) (b rc : Nat) (a0 : Option Addr) (R : List Tn) (Z : Bool × MS) (x : Ending) (w' : World) : Prop := x = .returned (.bool Z.1) ∧ ∃ v, Mc w0 w' b rc a0 R v Z.2
variable {w0 w w' : World} {b rc : Nat} {a0 : Option Addr} {v : Value} {r : Nat}
theorem arr120 (A : Array Value) (h : A.size = 120) : A = #[(A.getD 0 undef), (A.getD 1 undef), (A.getD 2 undef), (A.getD 3 undef), (A.getD 4 undef), (A.getD 5 undef), (A.getD 6 undef), (A.getD 7 undef), (A.getD 8 undef), (A.getD 9 undef), (A.getD 10 undef), (A.getD 11 undef), (A.getD 12 undef), (A.getD 13 undef), (A.getD 14 undef), (A.getD 15 undef), (A.getD 16 undef), (A.getD 17 undef), (A.getD 18 undef), (A.getD 19 undef), (A.getD 20 undef), (A.getD 21 undef), (A.getD 22 undef), (A.getD 23 undef), (A.getD 24 undef), (A.getD 25 undef), (A.getD 26 undef), (A.getD 27 undef), (A.getD 28 undef), (A.getD 29 undef), (A.getD 30 undef), (A.getD 31 undef), (A.getD 32 undef), (A.getD 33 undef), (A.getD 34 undef), (A.getD 35 undef), (A.getD 36 undef), (A.getD 37 undef), (A.getD 38 undef), (A.getD 39 undef), (A.getD 40 undef), (A.getD 41 undef), (A.getD 42 undef), (A.getD 43 undef), (A.getD 44 undef), (A.getD 45 undef), (A.getD 46 undef), (A.getD 47 undef), (A.getD 48 undef), (A.getD 49 undef), (A.getD 50 undef), (A.getD 51 undef), (A.getD 52 undef), (A.getD 53 undef), (A.getD 54 undef), (A.getD 55 undef), (A.getD 56 undef), (A.getD 57 undef), (A.getD 58 undef), (A.getD 59 undef), (A.getD 60 undef), (A.getD 61 undef), (A.getD 62 undef), (A.getD 63 undef), (A.getD 64 undef), (A.getD 65 undef), (A.getD 66 undef), (A.getD 67 undef), (A.getD 68 undef), (A.getD 69 undef), (A.getD 70 undef), (A.getD 71 undef), (A.getD 72 undef), (A.getD 73 undef), (A.getD 74 undef), (A.getD 75 undef), (A.getD 76 undef), (A.getD 77 undef), (A.getD 78 undef), (A.getD 79 undef), (A.getD 80 undef), (A.getD 81 undef), (A.getD 82 undef), (A.getD 83 undef), (A.getD 84 undef), (A.getD 85 undef), (A.getD 86 undef), (A.getD 87 undef), (A.getD 88 undef), (A.getD 89 undef), (A.getD 90 undef), (A.getD 91 undef), (A.getD 92 undef), (A.getD 93 undef), (A.getD 94 undef), (A.getD 95 undef), (A.getD 96 undef), (A.getD 97 undef), (A.getD 98 undef), (A.getD 99 undef), (A.getD 100 undef), (A.getD 101 undef), (A.getD 102 undef), (A.getD 103 undef), (A.getD 104 undef), (A.getD 105 undef), (A.getD 106 undef), (A.getD 107 undef), (A.getD 108 undef), (A.getD 109 undef), (A.getD 110 undef), (A.getD 111 undef), (A.getD 112 undef), (A.getD 113 undef), (A.getD 114 undef), (A.getD 115 undef), (A.getD 116 undef), (A.getD 117 undef), (A.getD 118 undef), (A.getD 119 undef)] := (arrN A 120 h).trans rfl
structure JM (w0 : World) (b rc : Nat) (a0 : Option Addr) (R : List Tn) (Z : Bool × MS) (r lab : Nat) (act : Act) (w : World) : Prop where
  sz : act.tmps.size = 120
  s0 : act.tmps.getD 0 undef = .pointer (some ⟨b, 0, none⟩)
  s2 : act.tmps.getD 2 undef = .bool false
  df : act.defers = []
  st : StM w0 b rc a0 R Z r lab w
theorem jm_mk {u1 u3 u4 u5 u6 u7 u8 u9 u10 u11 u12 u13 u14 u15 u16 u17 u18 u19 u20 u21 u22 u23 u24 u25 u26 u27 u28 u29 u30 u31 u32 u33 u34 u35 u36 u37 u38 u39 u40 u41 u42 u43 u44 u45 u46 u47 u48 u49 u50 u51 u52 u53 u54 u55 u56 u57 u58 u59 u60 u61 u62 u63 u64 u65 u66 u67 u68 u69 u70 u71 u72 u73 u74 u75 u76 u77 u78 u79 u80 u81 u82 u83 u84 u85 u86 u87 u88 u89 u90 u91 u92 u93 u94 u95 u96 u97 u98 u99 u100 u101 u102 u103 u104 u105 u106 u107 u108 u109 u110 u111 u112 u113 u114 u115 u116 u117 u118 u119 : Value} {r' lab : Nat} (hr : r' < r) (h : StM w0 b rc a0 R Z r' lab w) : ∃ r', r' < r ∧ JM w0 b rc a0 R Z r' lab { tmps := #[.pointer (some ⟨b, 0, none⟩), u1, .bool false, u3, u4, u5, u6, u7, u8, u9, u10, u11, u12, u13, u14, u15, u16, u17, u18, u19, u20, u21, u22, u23, u24, u25, u26, u27, u28, u29, u30, u31, u32, u33, u34, u35, u36, u37, u38, u39, u40, u41, u42, u43, u44, u45, u46, u47, u48, u49, u50, u51, u52, u53, u54, u55, u56, u57, u58, u59, u60, u61, u62, u63, u64, u65, u66, u67, u68, u69, u70, u71, u72, u73, u74, u75, u76, u77, u78, u79, u80, u81, u82, u83, u84, u85, u86, u87, u88, u89, u90, u91, u92, u93, u94, u95, u96, u97, u98, u99, u100, u101, u102, u103, u104, u105, u106, u107, u108, u109, u110, u111, u112, u113, u114, u115, u116, u117, u118, u119], defers := [] } w := ⟨r', hr, rfl, rfl, rfl, rfl, h⟩
theorem jm_elim {Pp : Act → World → Prop} {act : Act} {lab : Nat} (hJ : JM w0 b rc a0 R Z r lab act w) (h : ∀ (u1 u3 u4 u5 u6 u7 u8 u9 u10 u11 u12 u13 u14 u15 u16 u17 u18 u19 u20 u21 u22 u23 u24 u25 u26 u27 u28 u29 u30 u31 u32 u33 u34 u35 u36 u37 u38 u39 u40 u41 u42 u43 u44 u45 u46 u47 u48 u49 u50 u51 u52 u53 u54 u55 u56 u57 u58 u59 u60 u61 u62 u63 u64 u65 u66 u67 u68 u69 u70 u71 u72 u73 u74 u75 u76 u77 u78 u79 u80 u81 u82 u83 u84 u85 u86 u87 u88 u89 u90 u91 u92 u93 u94 u95 u96 u97 u98 u99 u100 u101 u102 u103 u104 u105 u106 u107 u108 u109 u110 u111 u112 u113 u114 u115 u116 u117 u118 u119 : Value), StM w0 b rc a0 R Z r lab w → Pp { tmps := #[.pointer (some ⟨b, 0, none⟩), u1, .bool false, u3, u4, u5, u6, u7, u8, u9, u10, u11, u12, u13, u14, u15, u16, u17, u18, u19, u20, u21, u22, u23, u24, u25, u26, u27, u28, u29, u30, u31, u32, u33, u34, u35, u36, u37, u38, u39, u40, u41, u42, u43, u44, u45, u46, u47, u48, u49, u50, u51, u52, u53, u54, u55, u56, u57, u58, u59, u60, u61, u62, u63, u64, u65, u66, u67, u68, u69, u70, u71, u72, u73, u74, u75, u76, u77, u78, u79, u80, u81, u82, u83, u84, u85, u86, u87, u88, u89, u90, u91, u92, u93, u94, u95, u96, u97, u98, u99, u100, u101, u102, u103, u104, u105, u106, u107, u108, u109, u110, u111, u112, u113, u114, u115, u116, u117, u118, u119], defers := [] } w) : Pp act w := by
  obtain ⟨A, D⟩ := act
  have e := arr120 A hJ.sz
  have s0 : A.getD 0 undef = .pointer (some ⟨b, 0, none⟩) := hJ.s0
  have s2 : A.getD 2 undef = .bool false := hJ.s2
  have df : D = [] := hJ.df
  rw [s0, s2] at e
  rw [e, df]
  exact h _ _ _ _ _ _ _ _ _ _ _ _ _ _ _ _ _ _ _ _ _ _ _ _ _ _ _ _ _ _ _ _ _ _ _ _ _ _ _ _ _ _ _ _ _ _ _ _ _ _ _ _ _ _ _ _ _ _ _ _ _ _ _ _ _ _ _ _ _ _ _ _ _ _ _ _ _ _ _ _ _ _ _ _ _ _ _ _ _ _ _ _ _ _ _ _ _ _ _ _ _ _ _ _ _ _ _ _ _ _ _ _ _ _ _ _ _ _ hJ.st
set_option maxRecDepth 40000 in
theorem wp_scope_run {c : Code} {act : Act} {Q : Exit → Act → World → Prop} (r0 : Nat) (h0 : StM w0 b rc a0 R Z r0 0 w) (hc : ∀ (X : Code) (Q : Exit → Act → World → Prop), findLabel c 0 = some (Code.skip.seq X) → X.wp Tryd.prog Q { tmps := #[.pointer (some ⟨b, 0, none⟩), undef, .bool false, undef, undef, undef, undef, undef, undef, undef, undef, undef, undef, undef, undef, undef, undef, undef, undef, undef, undef, undef, undef, undef, undef, undef, undef, undef, undef, undef, undef, undef, undef, undef, undef, undef, undef, undef, undef, undef, undef, undef, undef, undef, undef, undef, undef, undef, undef, undef, undef, undef, undef, undef, undef, undef, undef, undef, undef, undef, undef, undef, undef, undef, undef, undef, undef, undef, undef, undef, undef, undef, undef, undef, undef, undef, undef, undef, undef, undef, undef, undef, undef, undef, undef, undef, undef, undef, undef, undef, undef, undef, undef, undef, undef, undef, undef, undef, undef, undef, undef, undef, undef, undef, undef, undef, undef, undef, undef, undef, undef, undef, undef, undef, undef, undef, undef, undef, undef, undef], defers := [] } w → c.wp Tryd.prog Q act w)
    (pass : ∀ (r lab : Nat) (W : World) (u1 u3 u4 u5 u6 u7 u8 u9 u10 u11 u12 u13 u14 u15 u16 u17 u18 u19 u20 u21 u22 u23 u24 u25 u26 u27 u28 u29 u30 u31 u32 u33 u34 u35 u36 u37 u38 u39 u40 u41 u42 u43 u44 u45 u46 u47 u48 u49 u50 u51 u52 u53 u54 u55 u56 u57 u58 u59 u60 u61 u62 u63 u64 u65 u66 u67 u68 u69 u70 u71 u72 u73 u74 u75 u76 u77 u78 u79 u80 u81 u82 u83 u84 u85 u86 u87 u88 u89 u90 u91 u92 u93 u94 u95 u96 u97 u98 u99 u100 u101 u102 u103 u104 u105 u106 u107 u108 u109 u110 u111 u112 u113 u114 u115 u116 u117 u118 u119 : Value), StM w0 b rc a0 R Z r lab W → ∃ X, findLabel c lab = some (Code.skip.seq X) ∧ X.wp Tryd.prog (jumpsL (fun l' a' w' => ∃ r', r' < r ∧ JM w0 b rc a0 R Z r' l' a' w') Q) { tmps := #[.pointer (some ⟨b, 0, none⟩), u1, .bool false, u3, u4, u5, u6, u7, u8, u9, u10, u11, u12, u13, u14, u15, u16, u17, u18, u19, u20, u21, u22, u23, u24, u25, u26, u27, u28, u29, u30, u31, u32, u33, u34, u35, u36, u37, u38, u39, u40, u41, u42, u43, u44, u45, u46, u47, u48, u49, u50, u51, u52, u53, u54, u55, u56, u57, u58, u59, u60, u61, u62, u63, u64, u65, u66, u67, u68, u69, u70, u71, u72, u73, u74, u75, u76, u77, u78, u79, u80, u81, u82, u83, u84, u85, u86, u87, u88, u89, u90, u91, u92, u93, u94, u95, u96, u97, u98, u99, u100, u101, u102, u103, u104, u105, u106, u107, u108, u109, u110, u111, u112, u113, u114, u115, u116, u117, u118, u119], defers := [] } W) : (Code.scope c).wp Tryd.prog Q act w :=
  wp_scope_labels (JM w0 b rc a0 R Z) r0 0 ⟨rfl, rfl, rfl, rfl, h0⟩ hc (fun r lab _ W hJ => jm_elim (Pp := fun a W => ∃ X, findLabel c lab = some (Code.skip.seq X) ∧ X.wp Tryd.prog (jumpsL (fun l' a' w' => ∃ r', r' < r ∧ JM w0 b rc a0 R Z r' l' a' w') Q) a W) hJ (pass r lab W))
end Go.Proofs.YtiemiphlfbaojaaDoor
