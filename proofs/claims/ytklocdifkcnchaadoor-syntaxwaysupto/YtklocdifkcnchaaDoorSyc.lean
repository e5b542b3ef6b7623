import Derived.Test.YtklocdifkcnchaaDoorSyb
namespace Go.Proofs.YtklocdifkcnchaaDoor
open Go.ChangeShapes Go.WideShapes Go.ChangeAt Go.RowKit
variable {w0 w w' : World} {b rc : Nat} {a0 : Option Addr} {R : List Tn} {v : Value} {s : MS}

def isSt (y : Tn) : Bool := y.k == 2 && y.t.toList == [42]
def isEd (y : Tn) : Bool := y.k == 20 && (y.n == -1 || y.n == 1 || y.n == 2)
def isSl (y : Tn) : Bool := y.k == 20 && decide (0 ≤ y.n)
def isK (k : Nat) (y : Tn) : Bool := y.k == (k : Int)
theorem tk_in {f : Tn → Bool} (hf : f noT = false) (h : f (tkA R s.at') = true) : s.at' < R.length := by
  rcases Nat.lt_or_ge s.at' R.length with q | q
  · exact q
  · unfold tkA at h
    rw [List.getElem?_eq_none q] at h
    have h : f noT = true := h
    rw [hf] at h
    cases h
/-- What a taking of a kind leaves. -/
def tkS (R : List Tn) (k : Nat) (f : Tn → Bool) (s : MS) : MS := s.pass k (f (tkA R s.at'))
def tkB (R : List Tn) (f : Tn → Bool) (s : MS) : Bool := f (tkA R s.at')
/-- pass, at a token that fits or not. -/
theorem pass_any (h : Mc w0 w b rc a0 R v s) (k : Nat) (hk : k ≤ 21) (f : Tn → Bool) (hf : f noT = false) :
    Calls Tryd.prog 38 #[.pointer (some ⟨b, 0, none⟩), .int .i64 (k : Int), .bool (tkB R f s)] w fun e w' => e = .returned (.bool (tkB R f s)) ∧ Mc w0 w' b rc a0 R v (tkS R k f s) := by
  unfold tkS tkB MS.pass
  cases hq : f (tkA R s.at') with
  | true => exact pass_yes h _ (tk_in hf hq)
  | false => exact pass_no h k hk
set_option maxRecDepth 20000 in
set_option maxHeartbeats 4000000 in
theorem isStar_any (y : Tn) (w : World) : Calls Tryd.prog 40 #[y.v] w fun e w' => e = .returned (.bool (isSt y)) ∧ Kept (fun _ => False) w w' := by
  obtain ⟨k, t, n, a, e⟩ := y
  unfold Tn.v isSt
  dsimp only
  have KA := hideL (Kept.alloc w (.cells #[.int .i64 k, .string t, .int .i64 n, .int .i64 a, .int .i64 e] 31))
  cases hk : (k == 2) with
  | false =>
    go_enter Tryd.func40, Tryd.ntmps40
    go_wp2_with fail
    go_ret
    exact ⟨rfl, KA.out⟩
  | true =>
    cases ht : (t.toList == [42])
    all_goals
      go_enter Tryd.func40, Tryd.ntmps40
      go_wp2_with fail
      go_ret
      exact ⟨rfl, KA.out⟩
set_option maxRecDepth 20000 in
set_option maxHeartbeats 4000000 in
theorem isEdits_any (y : Tn) (w : World) : Calls Tryd.prog 43 #[y.v] w fun e w' => e = .returned (.bool (isEd y)) ∧ Kept (fun _ => False) w w' := by
  obtain ⟨k, t, n, a, e⟩ := y
  unfold Tn.v isEd
  dsimp only
  have KA := hideL (Kept.alloc w (.cells #[.int .i64 k, .string t, .int .i64 n, .int .i64 a, .int .i64 e] 31))
  cases hk : (k == 20) with
  | false =>
    have hk2 : (k != 20) = true := by simp [bne, hk]
    go_enter Tryd.func43, Tryd.ntmps43
    go_wp2_with fail
    go_ret
    exact ⟨rfl, KA.out⟩
  | true =>
    have hk2 : (k != 20) = false := by simp [bne, hk]
    cases h1 : (n == -1) <;> cases h2 : (n == 1) <;> cases h3 : (n == 2)
    all_goals
      go_enter Tryd.func43, Tryd.ntmps43
      go_wp2_with fail
      go_ret
      exact ⟨rfl, KA.out⟩
set_option maxRecDepth 20000 in
set_option maxHeartbeats 4000000 in
theorem isSlop_any (y : Tn) (w : World) : Calls Tryd.prog 42 #[y.v] w fun e w' => e = .returned (.bool (isSl y)) ∧ Kept (fun _ => False) w w' := by
  obtain ⟨k, t, n, a, e⟩ := y
  unfold Tn.v isSl
  dsimp only
  have KA := hideL (Kept.alloc w (.cells #[.int .i64 k, .string t, .int .i64 n, .int .i64 a, .int .i64 e] 31))
  cases hk : (k == 20) with
  | false =>
    go_enter Tryd.func42, Tryd.ntmps42
    go_wp2_with fail
    go_ret
    exact ⟨rfl, KA.out⟩
  | true =>
    by_cases h1 : 0 ≤ n
    · rw [decide_eq_true h1]
      go_enter Tryd.func42, Tryd.ntmps42
      go_wp2_with fail
      go_ret
      exact ⟨rfl, KA.out⟩
    · rw [decide_eq_false h1]
      go_enter Tryd.func42, Tryd.ntmps42
      go_wp2_with fail
      go_ret
      exact ⟨rfl, KA.out⟩
theorem field_lx0 (W : World) (k n a e : Int) (t : ByteArray) : (Instr.field 31 (.agg #[.int .i64 k, .string t, .int .i64 n, .int .i64 a, .int .i64 e]) 0).run Tryd.prog W = .ok (.int .i64 k) W := by kernel_rfl
set_option maxRecDepth 20000 in
set_option maxHeartbeats 4000000 in
theorem take_anyS (h : Mc w0 w b rc a0 R v s) (k : Nat) (hk : k ≤ 21) :
    Calls Tryd.prog 22 #[.pointer (some ⟨b, 0, none⟩), .int .i64 (k : Int)] w fun e w' => e = .returned (.bool (tkB R (isK k) s)) ∧ Mc w0 w' b rc a0 R v (tkS R k (isK k) s) := by
  have C1 := hideL (token_any h)
  have hf : isK k noT = false := by unfold isK noT; simp
  have C2 := hideL (fun W (kk : Kept (fun _ => False) w W) => pass_any (h.later kk) k hk (isK k) hf)
  have hb : ((tkA R s.at').k == (k : Int)) = tkB R (isK k) s := rfl
  generalize tkB R (isK k) s = B at *
  generalize tkS R k (isK k) s = s' at *
  generalize tkA R s.at' = Y at *
  obtain ⟨yk, yt, yn, ya, ye⟩ := Y
  unfold Tn.v at C1
  dsimp only at C1 hb
  have F0 := fun W => field_lx0 W yk yn ya ye yt
  clear h hf
  cases B
  all_goals
    go_enter Tryd.func22, Tryd.ntmps22
    go_wp2_with (first
      | (go_at_call 39; refine C1.out.mono ?_; clear C1; rintro e W1 ⟨rfl, k1⟩; have K1 := hideL k1; clear k1)
      | (go_at_call 38; refine (C2.out _ K1.out).mono ?_; clear C2; rintro e W2 ⟨rfl, h2⟩; have H2 := hideL h2; clear h2))
    go_ret
    exact ⟨rfl, H2.out⟩
set_option maxRecDepth 20000 in
set_option maxHeartbeats 4000000 in
theorem takeStar_anyS (h : Mc w0 w b rc a0 R v s) :
    Calls Tryd.prog 23 #[.pointer (some ⟨b, 0, none⟩)] w fun e w' => e = .returned (.bool (tkB R isSt s)) ∧ Mc w0 w' b rc a0 R v (tkS R 2 isSt s) := by
  have C1 := hideL (token_any h)
  have C2 := hideL (fun W (kk : Kept (fun _ => False) w W) => pass_any (h.later kk) 2 (by decide) isSt rfl)
  have C3 := hideL (fun W => isStar_any (tkA R s.at') W)
  have hb : isSt (tkA R s.at') = tkB R isSt s := rfl
  rw [hb] at C3
  generalize tkB R isSt s = B at *
  generalize tkS R 2 isSt s = s' at *
  generalize tkA R s.at' = Y at *
  obtain ⟨yk, yt, yn, ya, ye⟩ := Y
  unfold Tn.v at C1 C3
  dsimp only at C1 C3
  clear h hb
  go_enter Tryd.func23, Tryd.ntmps23
  go_wp2_with (first
    | (go_at_call 39; refine C1.out.mono ?_; clear C1; rintro e W1 ⟨rfl, k1⟩; have K1 := hideL k1; clear k1)
    | (go_at_call 40; refine (C3.out _).mono ?_; clear C3; rintro e W3 ⟨rfl, k3⟩; have K3 := hideL (K1.out.trans k3 (fun _ f => f.elim)); clear k3 K1)
    | (go_at_call 38; refine (C2.out _ K3.out).mono ?_; clear C2; rintro e W2 ⟨rfl, h2⟩; have H2 := hideL h2; clear h2))
  go_ret
  exact ⟨rfl, H2.out⟩
set_option maxRecDepth 20000 in
set_option maxHeartbeats 4000000 in
theorem takeEdits_anyS (h : Mc w0 w b rc a0 R v s) :
    Calls Tryd.prog 27 #[.pointer (some ⟨b, 0, none⟩)] w fun e w' => e = .returned (.bool (tkB R isEd s)) ∧ Mc w0 w' b rc a0 R v (tkS R 20 isEd s) := by
  have C1 := hideL (token_any h)
  have C2 := hideL (fun W (kk : Kept (fun _ => False) w W) => pass_any (h.later kk) 20 (by decide) isEd rfl)
  have C3 := hideL (fun W => isEdits_any (tkA R s.at') W)
  have hb : isEd (tkA R s.at') = tkB R isEd s := rfl
  rw [hb] at C3
  generalize tkB R isEd s = B at *
  generalize tkS R 20 isEd s = s' at *
  generalize tkA R s.at' = Y at *
  obtain ⟨yk, yt, yn, ya, ye⟩ := Y
  unfold Tn.v at C1 C3
  dsimp only at C1 C3
  clear h hb
  go_enter Tryd.func27, Tryd.ntmps27
  go_wp2_with (first
    | (go_at_call 39; refine C1.out.mono ?_; clear C1; rintro e W1 ⟨rfl, k1⟩; have K1 := hideL k1; clear k1)
    | (go_at_call 43; refine (C3.out _).mono ?_; clear C3; rintro e W3 ⟨rfl, k3⟩; have K3 := hideL (K1.out.trans k3 (fun _ f => f.elim)); clear k3 K1)
    | (go_at_call 38; refine (C2.out _ K3.out).mono ?_; clear C2; rintro e W2 ⟨rfl, h2⟩; have H2 := hideL h2; clear h2))
  go_ret
  exact ⟨rfl, H2.out⟩
set_option maxRecDepth 20000 in
set_option maxHeartbeats 4000000 in
theorem takeSlop_anyS (h : Mc w0 w b rc a0 R v s) :
    Calls Tryd.prog 26 #[.pointer (some ⟨b, 0, none⟩)] w fun e w' => e = .returned (.bool (tkB R isSl s)) ∧ Mc w0 w' b rc a0 R v (tkS R 20 isSl s) := by
  have C1 := hideL (token_any h)
  have C2 := hideL (fun W (kk : Kept (fun _ => False) w W) => pass_any (h.later kk) 20 (by decide) isSl rfl)
  have C3 := hideL (fun W => isSlop_any (tkA R s.at') W)
  have hb : isSl (tkA R s.at') = tkB R isSl s := rfl
  rw [hb] at C3
  generalize tkB R isSl s = B at *
  generalize tkS R 20 isSl s = s' at *
  generalize tkA R s.at' = Y at *
  obtain ⟨yk, yt, yn, ya, ye⟩ := Y
  unfold Tn.v at C1 C3
  dsimp only at C1 C3
  clear h hb
  go_enter Tryd.func26, Tryd.ntmps26
  go_wp2_with (first
    | (go_at_call 39; refine C1.out.mono ?_; clear C1; rintro e W1 ⟨rfl, k1⟩; have K1 := hideL k1; clear k1)
    | (go_at_call 42; refine (C3.out _).mono ?_; clear C3; rintro e W3 ⟨rfl, k3⟩; have K3 := hideL (K1.out.trans k3 (fun _ f => f.elim)); clear k3 K1)
    | (go_at_call 38; refine (C2.out _ K3.out).mono ?_; clear C2; rintro e W2 ⟨rfl, h2⟩; have H2 := hideL h2; clear h2))
  go_ret
  exact ⟨rfl, H2.out⟩
end Go.Proofs.YtklocdifkcnchaaDoor
