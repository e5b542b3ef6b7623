import Derived.Test.YtidgofpmnlddaaaGreatDoorMrg5
import Derived.Test.YtidgofpmnlddaaaGreatDoorPda
namespace Go.Proofs.YtidgofpmnlddaaaGreatDoor
open Go.ChangeShapes Go.WideShapes Go.ChangeAt Go.RowKit

theorem gro_intsU {w0 w : World} {v : Value} {n : Nat} {l : List Int} (h : Gro w0 w 3 1 v n (is l)) (hn : n = l.length) : ∃ (a : Option Addr) (c : Nat), v = .slice a n c ∧ IntsAt w a l := by
  obtain ⟨a, c, rfl⟩ := h.shape
  refine ⟨a, c, rfl, fun hne => ?_⟩
  obtain ⟨g', e, _, hc⟩ := h.cell (by rw [hn]; exact List.length_pos_iff.2 hne)
  subst e
  refine ⟨g', 0, rfl, fun k hk => ?_⟩
  rw [Nat.zero_add]
  exact hc k _ (by simp [is, List.getElem?_eq_getElem hk])
/-- An address in new memory. -/
def Newa (W : World) (a : Option Addr) : Prop := ∀ b off, a = some ⟨b, off, none⟩ → W.heap.size ≤ b
theorem Gro.newa {w0 w : World} {e : TypeId} {sz c n : Nat} {a : Option Addr} {xs : List Value} (h : Gro w0 w e sz (.slice a n c) n xs) : Newa w0 a := by
  intro b off ea
  rcases h.own.2 with ⟨e1, e2⟩ | ⟨g, cap, cur, e1, hg, _⟩
  · injection e1 with e3
    rw [ea] at e3
    cases e3
  · injection e1 with e3
    rw [ea] at e3
    simp only [Option.some.injEq, Addr.mk.injEq, and_true] at e3
    rw [e3.1]
    exact hg
theorem Newa.older {W V : World} {a : Option Addr} (h : Newa V a) (k : W.heap.size ≤ V.heap.size) : Newa W a := fun b off e => Nat.le_trans k (h b off e)
/-- What union leaves. -/
def unPost (W : World) (A B : List Int) (e : Ending) (w' : World) : Prop := ∃ (a : Option Addr) (c : Nat) (O : List Int), e = .returned (.slice a O.length c) ∧ IntsAt w' a O ∧ Rsg O ∧ (∀ x, x ∈ O ↔ x ∈ A ∨ x ∈ B) ∧ O.length ≤ A.length + B.length ∧ Kept (fun _ => False) W w' ∧ Newa W a
set_option maxRecDepth 20000 in
set_option maxHeartbeats 8000000 in
theorem union_any (A B : List Int) (aA aB : Option Addr) (cA cB : Nat) (W : World) (hA : IntsAt W aA A) (hB : IntsAt W aB B) (rA : Rsg A) (rB : Rsg B) (hl : A.length + B.length ≤ 549755813888) :
    Calls Tryz.prog 53 #[.slice aA A.length cA, .slice aB B.length cB] W (unPost W A B) := by
  have HA := hideP hA
  have HB := hideP hB
  have RA := hideP rA
  have RB := hideP rB
  unfold unPost
  obtain ⟨nA, hnA⟩ : ∃ nA, nA = A.length := ⟨_, rfl⟩
  obtain ⟨nB, hnB⟩ : ∃ nB, nB = B.length := ⟨_, rfl⟩
  rw [← hnA, ← hnB] at hl ⊢
  have HNA := hideP hnA
  have HNB := hideP hnB
  clear hA hB rA rB hnA hnB
  go_enter Tryz.func53, Tryz.ntmps53
  go_wp2
  go_loopw [5, 6, 7] (fun s5 s6 s7 wr => ∃ (i j no : Nat) (O : List Int) (vb : Value), i ≤ nA ∧ j ≤ nB ∧ no ≤ i + j ∧ s5 = vb ∧ s6 = .int .i64 i ∧ s7 = .int .i64 j ∧ Hid (no = O.length) ∧ Hid (Un A B O i j) ∧ Hid (Gro W wr 3 1 vb no (is O))) (fun _ s6 s7 _ => nA - (intOf s6).toNat + (nB - (intOf s7).toNat))
  case atStart => exact ⟨0, 0, 0, [], _, Nat.zero_le _, Nat.zero_le _, Nat.le_refl _, rfl, rfl, rfl, hideP rfl, hideP (un_zero A B), hideP (gro_nil W _ _)⟩
  case round =>
    obtain ⟨i, j, no, O, vb, hi, hj, hno, rfl, rfl, rfl, HO, HU, HG⟩ := hrel
    obtain ⟨sa, sc, rfl⟩ := HG.out.shape
    by_cases hi' : i < nA
    · by_cases hj' : j < nB
      · have hiA : i < A.length := by rw [← HNA.out]; exact hi'
        obtain ⟨ba, oa, rfl, ca⟩ := ints_cell (HA.out.kept HG.out.kept) hiA
        obtain ⟨x, hx⟩ : ∃ x, x = A[i] := ⟨_, rfl⟩
        rw [← hx] at ca
        have hii : (i : Int) < (nA : Int) := by omega
        have hjB : j < B.length := by rw [← HNB.out]; exact hj'
        obtain ⟨bb, ob, rfl, cb⟩ := ints_cell (HB.out.kept HG.out.kept) hjB
        obtain ⟨y, hy⟩ : ∃ y, y = B[j] := ⟨_, rfl⟩
        rw [← hy] at cb
        have hjj : (j : Int) < (nB : Int) := by omega
        have hjb : decide ((nB : Int) ≤ (j : Int)) = false := decide_eq_false (by omega)
        have hjc : decide (nB ≤ j) = false := decide_eq_false (by omega)
        by_cases hle : x ≤ y
        · by_cases hxe : x = y
          · have HU2 := hideP (HU.out.step RA.out RB.out (x := x) (ka := true) (kb := true) (fun _ => by omega) (fun _ => by omega) ⟨fun _ => ⟨hiA, hx.symm⟩, fun _ => rfl⟩ ⟨fun _ => ⟨hjB, by omega⟩, fun _ => rfl⟩ (.inl rfl))
            simp only [if_true] at HU2
            obtain rfl : x = y := hxe
            have s1 : (x == x) = true := by simp
            have s2 : x ≤ x := Int.le_refl x
            clear hx hy
            go_wp2_with fail
            go_quiet (fail)
            have ca' := (Kept.drewN wr nq).cell ca (fun f => f)
            have cb' := (Kept.drewN wr nq).cell cb (fun f => f)
            have HG2 := hideP (HG.out.later (Kept.drewN wr nq))
            generalize wr.drewN nq = W2 at *
            clear HG
            go_wp2_with (at_builtin; refine StpQ.go ?_)
            refine ⟨?_⟩
            refine wpList_pushN rfl (.tmp 76) (.tmp 78) rfl (.slice sa no sc) no O x (by rfl) HG2 W2.heap.size rfl (by rfl) (by omega) ?_
            intro g5 c5 W5 HG5 HS5
            go_wp2
            go_roundw
            case rel => exact ⟨i + 1, j + 1, no + 1, O ++ [x], _, by omega, by omega, by omega, rfl, by first | rfl | go_num, by first | rfl | go_num, hideP (by rw [List.length_append, List.length_singleton, HO.out]), HU2, HG5⟩
            case measure => simp [intOf]; omega
          · have HU2 := hideP (HU.out.step RA.out RB.out (x := x) (ka := true) (kb := false) (fun _ => by omega) (fun _ => by omega) ⟨fun _ => ⟨hiA, hx.symm⟩, fun _ => rfl⟩ ⟨fun h => (by cases h), fun ⟨_, h⟩ => by omega⟩ (.inl rfl))
            simp only [if_true, Bool.false_eq_true, if_false] at HU2
            have s1 : (x == x) = true := by simp
            have s2 : (y == x) = false := by rw [beq_eq_false_iff_ne]; omega
            clear hx hy
            go_wp2_with fail
            go_quiet (fail)
            have ca' := (Kept.drewN wr nq).cell ca (fun f => f)
            have cb' := (Kept.drewN wr nq).cell cb (fun f => f)
            have HG2 := hideP (HG.out.later (Kept.drewN wr nq))
            generalize wr.drewN nq = W2 at *
            clear HG
            go_wp2_with (at_builtin; refine StpQ.go ?_)
            refine ⟨?_⟩
            refine wpList_pushN rfl (.tmp 76) (.tmp 78) rfl (.slice sa no sc) no O x (by rfl) HG2 W2.heap.size rfl (by rfl) (by omega) ?_
            intro g5 c5 W5 HG5 HS5
            go_wp2
            go_roundw
            case rel => exact ⟨i + 1, j, no + 1, O ++ [x], _, by omega, by omega, by omega, rfl, by first | rfl | go_num, by first | rfl | go_num, hideP (by rw [List.length_append, List.length_singleton, HO.out]), HU2, HG5⟩
            case measure => simp [intOf]; omega
        · have HU2 := hideP (HU.out.step RA.out RB.out (x := y) (ka := false) (kb := true) (fun _ => by omega) (fun _ => by omega) ⟨fun h => (by cases h), fun ⟨_, h⟩ => by omega⟩ ⟨fun _ => ⟨hjB, hy.symm⟩, fun _ => rfl⟩ (.inr rfl))
          simp only [if_true, Bool.false_eq_true, if_false] at HU2
          have s1 : (y == y) = true := by simp
          have s2 : (x == y) = false := by rw [beq_eq_false_iff_ne]; omega
          have s3 : decide (x ≤ y) = false := decide_eq_false hle
          clear hx hy
          go_wp2_with fail
          go_quiet (fail)
          have ca' := (Kept.drewN wr nq).cell ca (fun f => f)
          have cb' := (Kept.drewN wr nq).cell cb (fun f => f)
          have HG2 := hideP (HG.out.later (Kept.drewN wr nq))
          generalize wr.drewN nq = W2 at *
          clear HG
          go_wp2_with (at_builtin; refine StpQ.go ?_)
          refine ⟨?_⟩
          refine wpList_pushN rfl (.tmp 76) (.tmp 78) rfl (.slice sa no sc) no O y (by rfl) HG2 W2.heap.size rfl (by rfl) (by omega) ?_
          intro g5 c5 W5 HG5 HS5
          go_wp2
          go_roundw
          case rel => exact ⟨i, j + 1, no + 1, O ++ [y], _, by omega, by omega, by omega, rfl, by first | rfl | go_num, by first | rfl | go_num, hideP (by rw [List.length_append, List.length_singleton, HO.out]), HU2, HG5⟩
          case measure => simp [intOf]; omega
      · have hiA : i < A.length := by rw [← HNA.out]; exact hi'
        obtain ⟨ba, oa, rfl, ca⟩ := ints_cell (HA.out.kept HG.out.kept) hiA
        obtain ⟨x, hx⟩ : ∃ x, x = A[i] := ⟨_, rfl⟩
        rw [← hx] at ca
        have hii : (i : Int) < (nA : Int) := by omega
        have hjj : ¬ (j : Int) < (nB : Int) := by omega
        have hjb : decide ((j : Int) < (nB : Int)) = false := decide_eq_false hjj
        have hjc : decide (j < nB) = false := decide_eq_false (by omega)
        have hjg : (nB : Int) ≤ (j : Int) := by omega
        have HU2 := hideP (HU.out.step RA.out RB.out (x := x) (ka := true) (kb := false) (fun _ => by omega) (fun h => absurd h (by rw [← HNB.out]; exact hj')) ⟨fun _ => ⟨hiA, hx.symm⟩, fun _ => rfl⟩ ⟨fun h => (by cases h), fun ⟨h, _⟩ => absurd h (by rw [← HNB.out]; exact hj')⟩ (.inl rfl))
        simp only [if_true, Bool.false_eq_true, if_false] at HU2
        have s1 : (x == x) = true := by simp
        clear hx
        go_wp2_with fail
        go_quiet (fail)
        have ca' := (Kept.drewN wr nq).cell ca (fun f => f)
        have HG2 := hideP (HG.out.later (Kept.drewN wr nq))
        generalize wr.drewN nq = W2 at *
        clear HG
        go_wp2_with (at_builtin; refine StpQ.go ?_)
        refine ⟨?_⟩
        refine wpList_pushN rfl (.tmp 76) (.tmp 78) rfl (.slice sa no sc) no O x (by rfl) HG2 W2.heap.size rfl (by rfl) (by omega) ?_
        intro g5 c5 W5 HG5 HS5
        go_wp2
        go_roundw
        case rel => exact ⟨i + 1, j, no + 1, O ++ [x], _, by omega, by omega, by omega, rfl, by first | rfl | go_num, by first | rfl | go_num, hideP (by rw [List.length_append, List.length_singleton, HO.out]), HU2, HG5⟩
        case measure => simp [intOf]; omega
    · by_cases hj' : j < nB
      · have hjB : j < B.length := by rw [← HNB.out]; exact hj'
        obtain ⟨bb, ob, rfl, cb⟩ := ints_cell (HB.out.kept HG.out.kept) hjB
        obtain ⟨y, hy⟩ : ∃ y, y = B[j] := ⟨_, rfl⟩
        rw [← hy] at cb
        have hjj : (j : Int) < (nB : Int) := by omega
        have hjb : decide ((nB : Int) ≤ (j : Int)) = false := decide_eq_false (by omega)
        have hjc : decide (nB ≤ j) = false := decide_eq_false (by omega)
        have hii : ¬ (i : Int) < (nA : Int) := by omega
        have hib : decide ((i : Int) < (nA : Int)) = false := decide_eq_false hii
        have hic : decide (i < nA) = false := decide_eq_false (by omega)
        have HU2 := hideP (HU.out.step RA.out RB.out (x := y) (ka := false) (kb := true) (fun h => absurd h (by rw [← HNA.out]; exact hi')) (fun _ => by omega) ⟨fun h => (by cases h), fun ⟨h, _⟩ => absurd h (by rw [← HNA.out]; exact hi')⟩ ⟨fun _ => ⟨hjB, hy.symm⟩, fun _ => rfl⟩ (.inr rfl))
        simp only [if_true, Bool.false_eq_true, if_false] at HU2
        have s1 : (y == y) = true := by simp
        clear hy
        go_wp2_with fail
        go_quiet (fail)
        have cb' := (Kept.drewN wr nq).cell cb (fun f => f)
        have HG2 := hideP (HG.out.later (Kept.drewN wr nq))
        generalize wr.drewN nq = W2 at *
        clear HG
        go_wp2_with (at_builtin; refine StpQ.go ?_)
        refine ⟨?_⟩
        refine wpList_pushN rfl (.tmp 76) (.tmp 78) rfl (.slice sa no sc) no O y (by rfl) HG2 W2.heap.size rfl (by rfl) (by omega) ?_
        intro g5 c5 W5 HG5 HS5
        go_wp2
        go_roundw
        case rel => exact ⟨i, j + 1, no + 1, O ++ [y], _, by omega, by omega, by omega, rfl, by first | rfl | go_num, by first | rfl | go_num, hideP (by rw [List.length_append, List.length_singleton, HO.out]), HU2, HG5⟩
        case measure => simp [intOf]; omega
      · have hii : ¬ (i : Int) < (nA : Int) := by omega
        have hib : decide ((i : Int) < (nA : Int)) = false := decide_eq_false hii
        have hic : decide (i < nA) = false := decide_eq_false (by omega)
        have hjj : ¬ (j : Int) < (nB : Int) := by omega
        have hjb : decide ((j : Int) < (nB : Int)) = false := decide_eq_false hjj
        have hjc : decide (j < nB) = false := decide_eq_false (by omega)
        have hjg : (nB : Int) ≤ (j : Int) := by omega
        have HM := hideP (un_end HU.out (by rw [← HNA.out]; exact hi') (by rw [← HNB.out]; exact hj'))
        obtain ⟨a7, c7, e7, hI7⟩ := gro_intsU HG.out HO.out
        injection e7 with e7 e8 e9
        subst e7 e9
        have HI7 := hideP hI7
        clear hI7
        go_wp2
        go_ret
        exact ⟨sa, sc, O, by rw [← HO.out]; rfl, HI7.out, HU.out.rs, HM.out, by rw [← HO.out]; omega, HG.out.kept, HG.out.newa⟩
end Go.Proofs.YtidgofpmnlddaaaGreatDoor
