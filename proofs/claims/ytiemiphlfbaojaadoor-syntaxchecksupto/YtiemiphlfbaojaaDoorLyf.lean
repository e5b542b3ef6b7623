import Derived.Test.YtiemiphlfbaojaaDoorLye
namespace Go.Proofs.YtiemiphlfbaojaaDoor
open Go.ChangeShapes Go.WideShapes Go.ChangeAt Go.RowKit

variable {w0 w w' : World} {b : Nat} {l : List UInt8} {p k : Nat} {t : List UInt8} {n : Int} {a e : Nat} {v : Value} {m : Nat} {L : List Lx}
/-- What begin makes of what stands here: the kind, and how many bytes it passes over. -/
def bgK : List UInt8 → Nat
  | [] => 0
  | c :: r => if isB c then 1 else if cl c = 18 ∧ r.head? = some 61 then 19 else cl c
def bgM : List UInt8 → Nat
  | [] => 0
  | c :: r => if isB c then 0 else if cl c = 18 ∧ r.head? = some 61 then 2 else 1
theorem Sc.token (h : Sc w0 w b l p k t n a e v m L) : Sc w0 (((((w.setCell ⟨b, 2, none⟩ (.int .i64 0)).setCell ⟨b, 3, none⟩ (.string ⟨#[]⟩)).setCell ⟨b, 4, none⟩ (.int .i64 0)).setCell ⟨b, 5, none⟩ (.int .i64 (p : Int))).setCell ⟨b, 6, none⟩ (.int .i64 0)) b l p 0 [] 0 p 0 v m L :=
  ((((h.setK 0 0 rfl).setT []).setN 0).setA p (p : Int) rfl).setE 0 0 rfl
def bgPost (w0 : World) (b : Nat) (l : List UInt8) (p : Nat) (v : Value) (m : Nat) (L : List Lx) (q k : Nat) (x : Ending) (w' : World) : Prop := x = .returned (.tuple #[]) ∧ Sc w0 w' b l q k [] 0 p 0 v m L
theorem isB_iff (c : UInt8) : isB c = true ↔ (cl c = 0 ∨ cl c = 102 ∨ cl c = 103 ∨ cl c = 104) := by
  unfold isB
  simp
  omega
set_option maxRecDepth 20000 in
set_option maxHeartbeats 4000000 in
theorem begin_any (h : Sc w0 w b l p k t n a e v m L) (hC : ClsAt w0) (hp : p ≤ l.length) (hl : l.length ≤ 400000000000) :
    Calls Tryd.prog 48 #[.pointer (some ⟨b, 0, none⟩)] w (bgPost w0 b l p v m L (p + bgM (l.drop p)) (bgK (l.drop p))) := by
  have HT := hideL h.token
  have C1 := hideL (class_any HT.out (hC.later HT.out.kept) hp hl)
  obtain ⟨x0, x1, x2, x3, x4, x5, x6, x7⟩ := h.cells
  have f2 := h.free 2
  have f3 := h.free 3
  have f4 := h.free 4
  have f5 := h.free 5
  have f6 := h.free 6
  have hle := clA_le (l.drop p)
  have hz : (bq l).size = l.length := bq_size l
  have HZ := hideL hz
  clear hC h x0 x7 hz
  unfold bgPost
  cases hd : l.drop p with
  | nil =>
    rw [hd] at C1
    have C2 : Hid (Calls Tryd.prog 47 #[.pointer (some ⟨b, 0, none⟩)] _ fun e w' => e = .returned (.int .i64 (105 : Nat)) ∧ Kept (fun _ => False) _ w') := C1
    clear C1 hd hle
    show Calls _ _ _ _ fun x w' => x = .returned (.tuple #[]) ∧ Sc w0 w' b l (p + 0) 0 [] 0 p 0 v m L
    go_enter Tryd.func48, Tryd.ntmps48
    go_wp2_with (go_at_call 47; refine C2.out.mono ?_; clear C2; rintro x W1 ⟨rfl, k1⟩; have H1 := hideL (HT.out.later k1); have y2 := H1.out.cells.2.2.1; have g2 := H1.out.free 2; clear HT k1)
    have H2 := hideL (H1.out.setK 0 0 rfl)
    generalize W1.setCell ⟨b, 2, none⟩ (.int .i64 0) = V at *
    have z2 := H2.out.cells.2.2.1
    clear H1 y2 g2
    go_quiet (fail)
    go_wp2
    first | go_ret | go_ret2 | go_end0
    exact ⟨rfl, H2.out.later (Kept.drewL _ _)⟩
  | cons c r =>
    rw [hd] at C1
    have C2 : Hid (Calls Tryd.prog 47 #[.pointer (some ⟨b, 0, none⟩)] _ fun e w' => e = .returned (.int .i64 (cl c : Nat)) ∧ Kept (fun _ => False) _ w') := C1
    have hc4 := cl_lt c
    have hlt : p < l.length := by
      rcases Nat.lt_or_ge p l.length with q | q
      · exact q
      · rw [List.drop_of_length_le q] at hd; cases hd
    clear C1 hle
    by_cases hB : isB c = true
    · have e1 : bgK (c :: r) = 1 := by rw [bgK, if_pos hB]
      have e2 : bgM (c :: r) = 0 := by rw [bgM, if_pos hB]
      rw [e1, e2]
      have hcc := (isB_iff c).1 hB
      clear e1 e2 hd hB
      rcases hcc with e | e | e | e
      all_goals
        rw [e] at C2
        clear e
        go_enter Tryd.func48, Tryd.ntmps48
        go_wp2_with (go_at_call 47; refine C2.out.mono ?_; clear C2; rintro x W1 ⟨rfl, k1⟩; have H1 := hideL (HT.out.later k1); have y2 := H1.out.cells.2.2.1; have g2 := H1.out.free 2; clear HT k1)
        have H2 := hideL (H1.out.setK 1 1 rfl)
        generalize W1.setCell ⟨b, 2, none⟩ (.int .i64 1) = V at *
        have z2 := H2.out.cells.2.2.1
        clear H1 y2 g2
        go_quiet (fail)
        go_wp2
        first | go_ret | go_ret2 | go_end0
        exact ⟨rfl, H2.out.later (Kept.drewL _ _)⟩
    · have hn : ¬ (cl c = 0 ∨ cl c = 102 ∨ cl c = 103 ∨ cl c = 104) := fun x => hB ((isB_iff c).2 x)
      have hB2 : isB c = false := by simpa using hB
      by_cases h18 : cl c = 18
      · rw [h18] at C2
        by_cases hE : r.head? = some 61
        · have e1 : bgK (c :: r) = 19 := by rw [bgK, if_neg hB, if_pos ⟨h18, hE⟩]
          have e2 : bgM (c :: r) = 2 := by rw [bgM, if_neg hB, if_pos ⟨h18, hE⟩]
          rw [e1, e2]
          obtain ⟨r', rfl⟩ : ∃ r', r = 61 :: r' := by
            cases r with
            | nil => cases hE
            | cons d r' => simp at hE; subst hE; exact ⟨r', rfl⟩
          have hd2 : l.drop (p + 1) = 61 :: r' := by
            have := congrArg (List.drop 1) hd
            rw [List.drop_drop] at this
            exact this
          have hlt2 : p + 1 < l.length := by
            rcases Nat.lt_or_ge (p + 1) l.length with q | q
            · exact q
            · rw [List.drop_of_length_le q] at hd2; cases hd2
          rw [List.drop_eq_getElem_cons hlt2] at hd2
          obtain ⟨hc1, -⟩ := List.cons.inj hd2
          obtain ⟨s, hs⟩ : ∃ s, s = bq l := ⟨_, rfl⟩
          have hps : p + 1 < s.size := by rw [hs, HZ.out]; exact hlt2
          have y9 : s[p + 1].toNat = 61 := by subst hs; exact congrArg UInt8.toNat hc1
          have q1 : (p : Int) + 1 < (s.size : Int) := by omega
          have hsb : s.size ≤ 400000000000 := by rw [hs, HZ.out]; exact hl
          have HHS := hideL hs
          clear e1 e2 hd hd2 hc1 hB hB2 hn hE h18 hs hc4
          go_enter Tryd.func48, Tryd.ntmps48
          go_wp2_with (go_at_call 47; refine C2.out.mono ?_; clear C2; rintro x W1 ⟨rfl, k1⟩; have H1 := hideL (HT.out.later k1); have y2 := H1.out.cells.2.2.1; have y1 := H1.out.cells.2.1; have g2 := H1.out.free 2; have g1 := H1.out.free 1; clear HT k1)
          have H2 := hideL ((H1.out.setK 18 18 rfl).setP (p + 1) ((p : Int) + 1) (by omega))
          generalize (W1.setCell ⟨b, 2, none⟩ (.int .i64 18)).setCell ⟨b, 1, none⟩ (.int .i64 ((p : Int) + 1)) = V at *
          have z2 := H2.out.cells.2.2.1
          have z1 : V.cell? ⟨b, 1, none⟩ = some (.int .i64 ((p : Int) + 1)) := by have := H2.out.cells.2.1; rwa [Int.natCast_add] at this
          have z0 : V.cell? ⟨b, 0, none⟩ = some (.string s) := by rw [HHS.out]; exact H2.out.cells.1
          have d1 : decide ((p : Int) + 1 < (s.size : Int)) = true := decide_eq_true q1
          clear H1 y2 g2 y1 g1
          go_quiet (fail)
          have H3 := hideL (H2.out.later (Kept.drewL V nq))
          generalize V.drewN nq = V2 at *
          have u1 : V2.cell? ⟨b, 1, none⟩ = some (.int .i64 ((p : Int) + 1)) := by have := H3.out.cells.2.1; rwa [Int.natCast_add] at this
          have u2 := H3.out.cells.2.2.1
          have v1 := H3.out.free 1
          have v2 := H3.out.free 2
          have H4 := hideL ((H3.out.setK 19 19 rfl).setP (p + 2) ((p : Int) + 1 + 1) (by omega))
          clear H2 z1 z2 z0 d1 H3
          go_wp2
          first | go_ret | go_ret2 | go_end0
          exact ⟨rfl, by first | exact H4.out | (have q := H4.out; rw [show (p : Int) + 1 + 1 = (p : Int) + 2 by omega] at q; exact q)⟩
        · have e1 : bgK (c :: r) = 18 := by rw [bgK, if_neg hB, if_neg (fun x => hE x.2), h18]
          have e2 : bgM (c :: r) = 1 := by rw [bgM, if_neg hB, if_neg (fun x => hE x.2)]
          rw [e1, e2]
          obtain ⟨s, hs⟩ : ∃ s, s = bq l := ⟨_, rfl⟩
          have hss : s.size = l.length := by rw [hs]; exact HZ.out
          have hsb : s.size ≤ 400000000000 := by rw [hs, HZ.out]; exact hl
          have HHS := hideL hs
          have HX : Hid (∀ hps : p + 1 < s.size, (((s[p + 1]'hps).toNat : Int) == 61) = false) := hideL (fun hps => by
            have hlt2 : p + 1 < l.length := by rw [← hss]; exact hps
            have hd2 : l.drop (p + 1) = r := by
              have := congrArg (List.drop 1) hd
              rw [List.drop_drop] at this
              exact this
            rw [List.drop_eq_getElem_cons hlt2] at hd2
            subst hs
            refine u8_intL (bq l)[p + 1] 61 (fun x => hE ?_)
            rw [← hd2]
            have x2 : l[p + 1] = 61 := x
            show some l[p + 1] = some 61
            exact congrArg some x2)
          clear e1 e2 hd hB hB2 hn hE h18 hs hc4 hss
          by_cases hps : p + 1 < s.size
          · have y9 := HX.out hps
            have q1 : (p : Int) + 1 < (s.size : Int) := by omega
            have d1 : decide ((p : Int) + 1 < (s.size : Int)) = true := decide_eq_true q1
            obtain ⟨z, hz⟩ : ∃ z, z = s[p + 1].toNat := ⟨_, rfl⟩
            have hz2 : s[p + 1].toNat = z := hz.symm
            rw [hz2] at y9
            clear hz HX
            go_enter Tryd.func48, Tryd.ntmps48
            go_wp2_with (go_at_call 47; refine C2.out.mono ?_; clear C2; rintro x W1 ⟨rfl, k1⟩; have H1 := hideL (HT.out.later k1); have y2 := H1.out.cells.2.2.1; have y1 := H1.out.cells.2.1; have g2 := H1.out.free 2; have g1 := H1.out.free 1; clear HT k1)
            have H2 := hideL ((H1.out.setK 18 18 rfl).setP (p + 1) ((p : Int) + 1) (by omega))
            generalize (W1.setCell ⟨b, 2, none⟩ (.int .i64 18)).setCell ⟨b, 1, none⟩ (.int .i64 ((p : Int) + 1)) = V at *
            have z2 := H2.out.cells.2.2.1
            have z1 : V.cell? ⟨b, 1, none⟩ = some (.int .i64 ((p : Int) + 1)) := by have := H2.out.cells.2.1; rwa [Int.natCast_add] at this
            have z0 : V.cell? ⟨b, 0, none⟩ = some (.string s) := by rw [HHS.out]; exact H2.out.cells.1
            clear H1 y2 g2 y1 g1
            go_quiet (fail)
            go_wp2
            first | go_ret | go_ret2 | go_end0
            exact ⟨rfl, H2.out.later (Kept.drewL _ _)⟩
          · have q1 : ¬ (p : Int) + 1 < (s.size : Int) := by omega
            have d1 : decide ((p : Int) + 1 < (s.size : Int)) = false := decide_eq_false q1
            clear HX
            go_enter Tryd.func48, Tryd.ntmps48
            go_wp2_with (go_at_call 47; refine C2.out.mono ?_; clear C2; rintro x W1 ⟨rfl, k1⟩; have H1 := hideL (HT.out.later k1); have y2 := H1.out.cells.2.2.1; have y1 := H1.out.cells.2.1; have g2 := H1.out.free 2; have g1 := H1.out.free 1; clear HT k1)
            have H2 := hideL ((H1.out.setK 18 18 rfl).setP (p + 1) ((p : Int) + 1) (by omega))
            generalize (W1.setCell ⟨b, 2, none⟩ (.int .i64 18)).setCell ⟨b, 1, none⟩ (.int .i64 ((p : Int) + 1)) = V at *
            have z2 := H2.out.cells.2.2.1
            have z1 : V.cell? ⟨b, 1, none⟩ = some (.int .i64 ((p : Int) + 1)) := by have := H2.out.cells.2.1; rwa [Int.natCast_add] at this
            have z0 : V.cell? ⟨b, 0, none⟩ = some (.string s) := by rw [HHS.out]; exact H2.out.cells.1
            clear H1 y2 g2 y1 g1
            go_quiet (fail)
            go_wp2
            first | go_ret | go_ret2 | go_end0
            exact ⟨rfl, H2.out.later (Kept.drewL _ _)⟩
      · have e1 : bgK (c :: r) = cl c := by rw [bgK, if_neg hB, if_neg (fun x => h18 x.1)]
        have e2 : bgM (c :: r) = 1 := by rw [bgM, if_neg hB, if_neg (fun x => h18 x.1)]
        rw [e1, e2]
        generalize cl c = cc at *
        have q0 : ((cc : Int) == 0) = false := by rw [beq_eq_false_iff_ne]; omega
        have q1 : ((cc : Int) == 102) = false := by rw [beq_eq_false_iff_ne]; omega
        have q2 : ((cc : Int) == 103) = false := by rw [beq_eq_false_iff_ne]; omega
        have q3 : ((cc : Int) == 104) = false := by rw [beq_eq_false_iff_ne]; omega
        have q4 : ((cc : Int) == 105) = false := by rw [beq_eq_false_iff_ne]; omega
        have q5 : ((cc : Int) == 18) = false := by rw [beq_eq_false_iff_ne]; omega
        clear e1 e2 hd hB hB2 hn h18 hc4
        go_enter Tryd.func48, Tryd.ntmps48
        go_wp2_with (go_at_call 47; refine C2.out.mono ?_; clear C2; rintro x W1 ⟨rfl, k1⟩; have H1 := hideL (HT.out.later k1); have y2 := H1.out.cells.2.2.1; have y1 := H1.out.cells.2.1; have g2 := H1.out.free 2; have g1 := H1.out.free 1; clear HT k1)
        have H2 := hideL ((H1.out.setK cc (cc : Int) rfl).setP (p + 1) ((p : Int) + 1) (by omega))
        generalize (W1.setCell ⟨b, 2, none⟩ (.int .i64 (cc : Int))).setCell ⟨b, 1, none⟩ (.int .i64 ((p : Int) + 1)) = V at *
        have z2 := H2.out.cells.2.2.1
        clear H1 y2 g2 y1 g1
        go_quiet (fail)
        go_wp2
        first | go_ret | go_ret2 | go_end0
        exact ⟨rfl, H2.out.later (Kept.drewL _ _)⟩
end Go.Proofs.YtiemiphlfbaojaaDoor
