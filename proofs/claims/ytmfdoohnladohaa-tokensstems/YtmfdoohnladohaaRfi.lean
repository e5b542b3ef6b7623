import Derived.Test.YtmfdoohnladohaaRmd
namespace Go.Proofs.Ytmfdoohnladohaa
open Go.ChangeShapes Go.WideShapes Go.ChangeAt Go.RowKit

/-- Rules laid just now. -/
def rulC (T : Tbl) : List Value := T.flatMap (fun p => [Value.string (bq p.1), Value.string (bq p.2)])
theorem rulC_at (T : Tbl) (k : Nat) (h : k < T.length) : (rulC T)[k * 2]? = some (.string (bq T[k].1)) ∧ (rulC T)[k * 2 + 1]? = some (.string (bq T[k].2)) := by
  induction T generalizing k with
  | nil => simp at h
  | cons p T ih =>
    have e : rulC (p :: T) = .string (bq p.1) :: .string (bq p.2) :: rulC T := rfl
    rw [e]
    cases k with
    | zero => exact ⟨rfl, rfl⟩
    | succ k =>
      have := ih k (by simpa using h)
      rw [show (k + 1) * 2 = k * 2 + 1 + 1 by omega]
      exact this
theorem rules_new (w : World) (T : Tbl) (C : Array Value) (hC : C = (rulC T).toArray) : RulesAt (w.alloc (.cells C 37)) w.heap.size T := by
  subst hC
  intro k h
  have := rulC_at T k h
  exact ⟨by rw [World.cell?_alloc_new, List.getElem?_toArray]; exact this.1, by rw [World.cell?_alloc_new, List.getElem?_toArray]; exact this.2⟩
theorem longest_new (l : List UInt8) (T : Tbl) (n : Nat) (w : World) (b : Nat) (hb : b = w.heap.size) (C : Array Value) (hC : C = (rulC T).toArray) (hl : l.length ≤ 140737488355328) (hT : ∀ p ∈ T, p.1.length ≤ 7) (hn : n = T.length) (hn9 : n ≤ 1000) :
    Calls Try.prog 32 #[.string (bq l), .slice (some ⟨b, 0, none⟩) n n] (w.alloc (.cells C 37)) fun e w' => e = .returned (.tuple #[.string (bq (cutE l (bo (lg T l)).1)), .agg #[.string (bq (bo (lg T l)).1), .string (bq (bo (lg T l)).2)], .bool (lg T l).isSome]) ∧ Kept (fun _ => False) w w' := by
  subst hb
  refine (longest_any l T w.heap.size n n _ hl hT hn hn9 (rules_new w T C hC)).mono ?_
  rintro e W ⟨rfl, K⟩
  exact ⟨rfl, (Kept.alloc _ _).trans K (fun _ f => f.elim)⟩
theorem measured_new (l : List UInt8) (T : Tbl) (n most : Nat) (w : World) (b : Nat) (hb : b = w.heap.size) (C : Array Value) (hC : C = (rulC T).toArray) (hl : l.length ≤ 140737488355000) (h1 : ∀ p ∈ T, 1 ≤ p.1.length ∧ p.1.length ≤ 7) (h2 : ∀ p ∈ T, lk T p.1 = some p.2) (h3 : ∀ p ∈ T, p.2.length ≤ 7) (hn : n = T.length) (hn9 : n ≤ 1000) :
    Calls Try.prog 36 #[.string (bq l), .slice (some ⟨b, 0, none⟩) n n, .int .i64 most] (w.alloc (.cells C 37)) fun e w' => e = .returned (.string (bq (rep T (most + 1) l))) ∧ Kept (fun _ => False) w w' := by
  subst hb
  refine (measured_any l T w.heap.size n n most _ hl h1 h2 h3 hn hn9 (rules_new w T C hC)).mono ?_
  rintro e W ⟨rfl, K⟩
  exact ⟨rfl, (Kept.alloc _ _).trans K (fun _ f => f.elim)⟩
set_option maxRecDepth 20000 in
set_option maxHeartbeats 1600000 in
theorem rlast_any (l : List UInt8) (w : World) (hl : l.length ≤ 140737488355000) :
    Calls Try.prog 17 #[.string (bq l)] w fun e w' => e = .returned (.string (bq (st5b (st5a l)))) ∧ Kept (fun _ => False) w w' := by
  have E1 := fun w => hideV (rends_any l [101] w (by omega) (by decide))
  have hz : (bq l).size = l.length := bq_size l
  have hz' : ((bq l).size : Int) = (l.length : Int) := by rw [hz]
  have x1 := ext_take l (l.length - 1)
  have hle := cutE_le l [101]
  have CM := fun w => hideV (rmeasure_any (cutE l [101]) w (by omega))
  have CS := fun w => hideV (rshort_any (cutE l [101]) w (by omega))
  have MI : meas (cutE l [101]) ≤ 140737488355000 := Nat.le_trans (meas_le _) (Nat.le_trans hle hl)
  -- what follows
  have L1 := st5a_le l
  obtain ⟨v, hv⟩ : ∃ v, v = st5a l := ⟨_, rfl⟩
  have hvl : v.length ≤ 140737488355000 := by rw [hv]; omega
  have F1 := fun w => hideV (rends_any v [108, 108] w (by omega) (by decide))
  have FM := fun w => hideV (rmeasure_any v w (by omega))
  have MV : meas v ≤ 140737488355000 := Nat.le_trans (meas_le _) hvl
  have vz : (bq v).size = v.length := bq_size v
  have vz' : ((bq v).size : Int) = (v.length : Int) := by rw [vz]
  have y1 := ext_take v (v.length - 1)
  have HF5 : Hid (bq (st5b v) = if sfx v [108, 108] && decide (1 < meas v) then bq (v.take (v.length - 1)) else bq v) := hideV (by unfold st5b; split <;> rfl)
  have HFa : Hid (bq v = if sfx l [101] then (if decide (1 < meas (cutE l [101])) || (decide (meas (cutE l [101]) = 1) && !sht (cutE l [101])) then bq (cutE l [101]) else bq l) else bq l) := hideV (by
    rw [hv]; unfold st5a; split
    · split <;> rfl
    · rfl)
  have hpos : sfx l [101] = true → 1 ≤ l.length := fun h => by have := sfx_le h; simpa using this
  have vpos : sfx v [108, 108] = true → 2 ≤ v.length := fun h => by have := sfx_le h; simpa using this
  rw [← hv]
  clear hv L1 hle
  have hcut : bq (cutE l [101]) = bq (l.take (l.length - 1)) := rfl
  rw [hcut] at CM CS HFa
  clear hcut
  obtain ⟨r, hr⟩ : ∃ r, r = l.length - 1 := ⟨_, rfl⟩
  rw [← hr] at x1 CM CS HFa
  obtain ⟨q, hq⟩ : ∃ q, q = v.length - 1 := ⟨_, rfl⟩
  rw [← hq] at y1 HF5
  generalize meas (cutE l [101]) = m1 at *
  generalize sht (cutE l [101]) = sh at *
  generalize bq (l.take r) = R at *
  generalize bq (v.take q) = Q at *
  generalize meas v = m2 at *
  generalize bq (st5b v) = Z at *
  generalize sfx l [101] = a at *
  generalize sfx v [108, 108] = b at *
  have HQ0 := hideV hq
  clear hq
  have HR0 := hideV hr
  cases a with
  | false =>
    have hV : bq v = bq l := by rw [HFa.out]; rfl
    obtain rfl : v = l := congrArg (fun b => b.data.toList) hV
    clear CM CS x1 hr hpos
    generalize bq v = s at *
    clear vz vz'
    clear hV HFa
    cases b with
    | false =>
      have HG : Hid (s = Z) := hideV (by rw [HF5.out]; rfl)
      clear HF5 y1
      go_enter Try.func17, Try.ntmps17
      go_wp2_with (first | (go_at_call 14; first | (refine (E1 _).out.mono ?_; clear E1; rintro e W ⟨rfl, e1⟩; subst e1) | (refine (F1 _).out.mono ?_; clear F1; rintro e W ⟨rfl, e1⟩; subst e1)) | (go_at_call 33; first | (refine (CM _).out.mono ?_; clear CM; rintro e W2 ⟨rfl, K2⟩) | (refine (FM _).out.mono ?_; clear FM; rintro e W4 ⟨rfl, K4⟩)) | (go_at_call 37; refine (CS _).out.mono ?_; clear CS; rintro e W3 ⟨rfl, K3⟩))
      go_ret
      exact ⟨rets HG.out, Kept.refl _ _⟩
    | true =>
      have hv2 := vpos rfl
      have q1 : (v.length : Int) - 1 = (q : Int) := by have := HQ0.out; omega
      have q2 : q ≤ v.length := by have := HQ0.out; omega
      have q3 : IntKind.i64.wrap (q : Int) = (q : Int) := by have := HQ0.out; rw [IntKind.wrap_i64]; omega
      by_cases g2 : 1 < m2
      · have HG : Hid (Q = Z) := hideV (by rw [HF5.out, decide_eq_true g2]; rfl)
        have g3 : (1 : Int) < (m2 : Int) := by omega
        clear HF5
        go_enter Try.func17, Try.ntmps17
        go_wp2_with (first | (go_at_call 14; first | (refine (E1 _).out.mono ?_; clear E1; rintro e W ⟨rfl, e1⟩; subst e1) | (refine (F1 _).out.mono ?_; clear F1; rintro e W ⟨rfl, e1⟩; subst e1)) | (go_at_call 33; first | (refine (CM _).out.mono ?_; clear CM; rintro e W2 ⟨rfl, K2⟩) | (refine (FM _).out.mono ?_; clear FM; rintro e W4 ⟨rfl, K4⟩)) | (go_at_call 37; refine (CS _).out.mono ?_; clear CS; rintro e W3 ⟨rfl, K3⟩))
        go_ret
        exact ⟨rets HG.out, K4⟩
      · have HG : Hid (s = Z) := hideV (by rw [HF5.out, decide_eq_false g2]; rfl)
        have g3 : ¬ (1 : Int) < (m2 : Int) := by omega
        clear HF5 y1
        go_enter Try.func17, Try.ntmps17
        go_wp2_with (first | (go_at_call 14; first | (refine (E1 _).out.mono ?_; clear E1; rintro e W ⟨rfl, e1⟩; subst e1) | (refine (F1 _).out.mono ?_; clear F1; rintro e W ⟨rfl, e1⟩; subst e1)) | (go_at_call 33; first | (refine (CM _).out.mono ?_; clear CM; rintro e W2 ⟨rfl, K2⟩) | (refine (FM _).out.mono ?_; clear FM; rintro e W4 ⟨rfl, K4⟩)) | (go_at_call 37; refine (CS _).out.mono ?_; clear CS; rintro e W3 ⟨rfl, K3⟩))
        go_ret
        exact ⟨rets HG.out, K4⟩
  | true =>
    have hl1 := hpos rfl
    have r1 : (l.length : Int) - 1 = (r : Int) := by omega
    have r2 : r ≤ l.length := by omega
    have r3 : IntKind.i64.wrap (r : Int) = (r : Int) := by rw [IntKind.wrap_i64]; omega
    clear hpos
    by_cases g1 : 1 < m1
    · have hV : bq v = R := by rw [HFa.out, decide_eq_true g1]; rfl
      have gi : (1 : Int) < (m1 : Int) := by omega
      clear CS hr
      generalize bq v = V at *
      generalize bq l = s at *
      rw [hV] at F1 FM y1 vz vz' HF5
      clear hV HFa
      cases b with
      | false =>
        have HG : Hid (R = Z) := hideV (by rw [HF5.out]; rfl)
        clear HF5 y1
        go_enter Try.func17, Try.ntmps17
        go_wp2_with (first | (go_at_call 14; first | (refine (E1 _).out.mono ?_; clear E1; rintro e W ⟨rfl, e1⟩; subst e1) | (refine (F1 _).out.mono ?_; clear F1; rintro e W ⟨rfl, e1⟩; subst e1)) | (go_at_call 33; first | (refine (CM _).out.mono ?_; clear CM; rintro e W2 ⟨rfl, K2⟩) | (refine (FM _).out.mono ?_; clear FM; rintro e W4 ⟨rfl, K4⟩)) | (go_at_call 37; refine (CS _).out.mono ?_; clear CS; rintro e W3 ⟨rfl, K3⟩))
        go_ret
        exact ⟨rets HG.out, K2⟩
      | true =>
        have hv2 := vpos rfl
        have q1 : (v.length : Int) - 1 = (q : Int) := by have := HQ0.out; omega
        have q2 : q ≤ v.length := by have := HQ0.out; omega
        have q3 : IntKind.i64.wrap (q : Int) = (q : Int) := by have := HQ0.out; rw [IntKind.wrap_i64]; omega
        by_cases g2 : 1 < m2
        · have HG : Hid (Q = Z) := hideV (by rw [HF5.out, decide_eq_true g2]; rfl)
          have g3 : (1 : Int) < (m2 : Int) := by omega
          clear HF5
          go_enter Try.func17, Try.ntmps17
          go_wp2_with (first | (go_at_call 14; first | (refine (E1 _).out.mono ?_; clear E1; rintro e W ⟨rfl, e1⟩; subst e1) | (refine (F1 _).out.mono ?_; clear F1; rintro e W ⟨rfl, e1⟩; subst e1)) | (go_at_call 33; first | (refine (CM _).out.mono ?_; clear CM; rintro e W2 ⟨rfl, K2⟩) | (refine (FM _).out.mono ?_; clear FM; rintro e W4 ⟨rfl, K4⟩)) | (go_at_call 37; refine (CS _).out.mono ?_; clear CS; rintro e W3 ⟨rfl, K3⟩))
          go_ret
          exact ⟨rets HG.out, (K2).trans K4 (fun _ f => f.elim)⟩
        · have HG : Hid (R = Z) := hideV (by rw [HF5.out, decide_eq_false g2]; rfl)
          have g3 : ¬ (1 : Int) < (m2 : Int) := by omega
          clear HF5 y1
          go_enter Try.func17, Try.ntmps17
          go_wp2_with (first | (go_at_call 14; first | (refine (E1 _).out.mono ?_; clear E1; rintro e W ⟨rfl, e1⟩; subst e1) | (refine (F1 _).out.mono ?_; clear F1; rintro e W ⟨rfl, e1⟩; subst e1)) | (go_at_call 33; first | (refine (CM _).out.mono ?_; clear CM; rintro e W2 ⟨rfl, K2⟩) | (refine (FM _).out.mono ?_; clear FM; rintro e W4 ⟨rfl, K4⟩)) | (go_at_call 37; refine (CS _).out.mono ?_; clear CS; rintro e W3 ⟨rfl, K3⟩))
          go_ret
          exact ⟨rets HG.out, (K2).trans K4 (fun _ f => f.elim)⟩
    · have gi : ¬ (1 : Int) < (m1 : Int) := by omega
      by_cases g4 : m1 = 1
      · subst g4
        cases sh with
        | false =>
          have hV : bq v = R := by rw [HFa.out]; rfl
          clear hr
          generalize bq v = V at *
          generalize bq l = s at *
          rw [hV] at F1 FM y1 vz vz' HF5
          clear hV HFa
          cases b with
          | false =>
            have HG : Hid (R = Z) := hideV (by rw [HF5.out]; rfl)
            clear HF5 y1
            go_enter Try.func17, Try.ntmps17
            go_wp2_with (first | (go_at_call 14; first | (refine (E1 _).out.mono ?_; clear E1; rintro e W ⟨rfl, e1⟩; subst e1) | (refine (F1 _).out.mono ?_; clear F1; rintro e W ⟨rfl, e1⟩; subst e1)) | (go_at_call 33; first | (refine (CM _).out.mono ?_; clear CM; rintro e W2 ⟨rfl, K2⟩) | (refine (FM _).out.mono ?_; clear FM; rintro e W4 ⟨rfl, K4⟩)) | (go_at_call 37; refine (CS _).out.mono ?_; clear CS; rintro e W3 ⟨rfl, K3⟩))
            go_ret
            exact ⟨rets HG.out, (K2).trans K3 (fun _ f => f.elim)⟩
          | true =>
            have hv2 := vpos rfl
            have q1 : (v.length : Int) - 1 = (q : Int) := by have := HQ0.out; omega
            have q2 : q ≤ v.length := by have := HQ0.out; omega
            have q3 : IntKind.i64.wrap (q : Int) = (q : Int) := by have := HQ0.out; rw [IntKind.wrap_i64]; omega
            by_cases g2 : 1 < m2
            · have HG : Hid (Q = Z) := hideV (by rw [HF5.out, decide_eq_true g2]; rfl)
              have g3 : (1 : Int) < (m2 : Int) := by omega
              clear HF5
              go_enter Try.func17, Try.ntmps17
              go_wp2_with (first | (go_at_call 14; first | (refine (E1 _).out.mono ?_; clear E1; rintro e W ⟨rfl, e1⟩; subst e1) | (refine (F1 _).out.mono ?_; clear F1; rintro e W ⟨rfl, e1⟩; subst e1)) | (go_at_call 33; first | (refine (CM _).out.mono ?_; clear CM; rintro e W2 ⟨rfl, K2⟩) | (refine (FM _).out.mono ?_; clear FM; rintro e W4 ⟨rfl, K4⟩)) | (go_at_call 37; refine (CS _).out.mono ?_; clear CS; rintro e W3 ⟨rfl, K3⟩))
              go_ret
              exact ⟨rets HG.out, ((K2).trans K3 (fun _ f => f.elim)).trans K4 (fun _ f => f.elim)⟩
            · have HG : Hid (R = Z) := hideV (by rw [HF5.out, decide_eq_false g2]; rfl)
              have g3 : ¬ (1 : Int) < (m2 : Int) := by omega
              clear HF5 y1
              go_enter Try.func17, Try.ntmps17
              go_wp2_with (first | (go_at_call 14; first | (refine (E1 _).out.mono ?_; clear E1; rintro e W ⟨rfl, e1⟩; subst e1) | (refine (F1 _).out.mono ?_; clear F1; rintro e W ⟨rfl, e1⟩; subst e1)) | (go_at_call 33; first | (refine (CM _).out.mono ?_; clear CM; rintro e W2 ⟨rfl, K2⟩) | (refine (FM _).out.mono ?_; clear FM; rintro e W4 ⟨rfl, K4⟩)) | (go_at_call 37; refine (CS _).out.mono ?_; clear CS; rintro e W3 ⟨rfl, K3⟩))
              go_ret
              exact ⟨rets HG.out, ((K2).trans K3 (fun _ f => f.elim)).trans K4 (fun _ f => f.elim)⟩
        | true =>
          have hV : bq v = bq l := by rw [HFa.out]; rfl
          obtain rfl : v = l := congrArg (fun b => b.data.toList) hV
          obtain rfl : q = r := by have := HQ0.out; have := HR0.out; omega
          obtain rfl : Q = R := y1.symm.trans x1
          clear hr
          generalize bq v = s at *
          clear vz vz'
          clear hV HFa
          cases b with
          | false =>
            have HG : Hid (s = Z) := hideV (by rw [HF5.out]; rfl)
            clear HF5 y1
            go_enter Try.func17, Try.ntmps17
            go_wp2_with (first | (go_at_call 14; first | (refine (E1 _).out.mono ?_; clear E1; rintro e W ⟨rfl, e1⟩; subst e1) | (refine (F1 _).out.mono ?_; clear F1; rintro e W ⟨rfl, e1⟩; subst e1)) | (go_at_call 33; first | (refine (CM _).out.mono ?_; clear CM; rintro e W2 ⟨rfl, K2⟩) | (refine (FM _).out.mono ?_; clear FM; rintro e W4 ⟨rfl, K4⟩)) | (go_at_call 37; refine (CS _).out.mono ?_; clear CS; rintro e W3 ⟨rfl, K3⟩))
            go_ret
            exact ⟨rets HG.out, (K2).trans K3 (fun _ f => f.elim)⟩
          | true =>
            have hv2 := vpos rfl
            have q1 : (v.length : Int) - 1 = (q : Int) := by have := HQ0.out; omega
            have q2 : q ≤ v.length := by have := HQ0.out; omega
            have q3 : IntKind.i64.wrap (q : Int) = (q : Int) := by have := HQ0.out; rw [IntKind.wrap_i64]; omega
            by_cases g2 : 1 < m2
            · have HG : Hid (Q = Z) := hideV (by rw [HF5.out, decide_eq_true g2]; rfl)
              have g3 : (1 : Int) < (m2 : Int) := by omega
              clear HF5
              go_enter Try.func17, Try.ntmps17
              go_wp2_with (first | (go_at_call 14; first | (refine (E1 _).out.mono ?_; clear E1; rintro e W ⟨rfl, e1⟩; subst e1) | (refine (F1 _).out.mono ?_; clear F1; rintro e W ⟨rfl, e1⟩; subst e1)) | (go_at_call 33; first | (refine (CM _).out.mono ?_; clear CM; rintro e W2 ⟨rfl, K2⟩) | (refine (FM _).out.mono ?_; clear FM; rintro e W4 ⟨rfl, K4⟩)) | (go_at_call 37; refine (CS _).out.mono ?_; clear CS; rintro e W3 ⟨rfl, K3⟩))
              go_ret
              exact ⟨rets HG.out, ((K2).trans K3 (fun _ f => f.elim)).trans K4 (fun _ f => f.elim)⟩
            · have HG : Hid (s = Z) := hideV (by rw [HF5.out, decide_eq_false g2]; rfl)
              have g3 : ¬ (1 : Int) < (m2 : Int) := by omega
              clear HF5 y1
              go_enter Try.func17, Try.ntmps17
              go_wp2_with (first | (go_at_call 14; first | (refine (E1 _).out.mono ?_; clear E1; rintro e W ⟨rfl, e1⟩; subst e1) | (refine (F1 _).out.mono ?_; clear F1; rintro e W ⟨rfl, e1⟩; subst e1)) | (go_at_call 33; first | (refine (CM _).out.mono ?_; clear CM; rintro e W2 ⟨rfl, K2⟩) | (refine (FM _).out.mono ?_; clear FM; rintro e W4 ⟨rfl, K4⟩)) | (go_at_call 37; refine (CS _).out.mono ?_; clear CS; rintro e W3 ⟨rfl, K3⟩))
              go_ret
              exact ⟨rets HG.out, ((K2).trans K3 (fun _ f => f.elim)).trans K4 (fun _ f => f.elim)⟩
      · have hV : bq v = bq l := by rw [HFa.out, decide_eq_false g1, decide_eq_false g4]; rfl
        obtain rfl : v = l := congrArg (fun b => b.data.toList) hV
        obtain rfl : q = r := by have := HQ0.out; have := HR0.out; omega
        obtain rfl : Q = R := y1.symm.trans x1
        have g5 : ((m1 : Int) == 1) = false := by rw [beq_eq_false_iff_ne]; omega
        clear CS hr
        generalize bq v = s at *
        clear vz vz'
        clear hV HFa
        cases b with
        | false =>
          have HG : Hid (s = Z) := hideV (by rw [HF5.out]; rfl)
          clear HF5 y1
          go_enter Try.func17, Try.ntmps17
          go_wp2_with (first | (go_at_call 14; first | (refine (E1 _).out.mono ?_; clear E1; rintro e W ⟨rfl, e1⟩; subst e1) | (refine (F1 _).out.mono ?_; clear F1; rintro e W ⟨rfl, e1⟩; subst e1)) | (go_at_call 33; first | (refine (CM _).out.mono ?_; clear CM; rintro e W2 ⟨rfl, K2⟩) | (refine (FM _).out.mono ?_; clear FM; rintro e W4 ⟨rfl, K4⟩)) | (go_at_call 37; refine (CS _).out.mono ?_; clear CS; rintro e W3 ⟨rfl, K3⟩))
          go_ret
          exact ⟨rets HG.out, K2⟩
        | true =>
          have hv2 := vpos rfl
          have q1 : (v.length : Int) - 1 = (q : Int) := by have := HQ0.out; omega
          have q2 : q ≤ v.length := by have := HQ0.out; omega
          have q3 : IntKind.i64.wrap (q : Int) = (q : Int) := by have := HQ0.out; rw [IntKind.wrap_i64]; omega
          by_cases g2 : 1 < m2
          · have HG : Hid (Q = Z) := hideV (by rw [HF5.out, decide_eq_true g2]; rfl)
            have g3 : (1 : Int) < (m2 : Int) := by omega
            clear HF5
            go_enter Try.func17, Try.ntmps17
            go_wp2_with (first | (go_at_call 14; first | (refine (E1 _).out.mono ?_; clear E1; rintro e W ⟨rfl, e1⟩; subst e1) | (refine (F1 _).out.mono ?_; clear F1; rintro e W ⟨rfl, e1⟩; subst e1)) | (go_at_call 33; first | (refine (CM _).out.mono ?_; clear CM; rintro e W2 ⟨rfl, K2⟩) | (refine (FM _).out.mono ?_; clear FM; rintro e W4 ⟨rfl, K4⟩)) | (go_at_call 37; refine (CS _).out.mono ?_; clear CS; rintro e W3 ⟨rfl, K3⟩))
            go_ret
            exact ⟨rets HG.out, (K2).trans K4 (fun _ f => f.elim)⟩
          · have HG : Hid (s = Z) := hideV (by rw [HF5.out, decide_eq_false g2]; rfl)
            have g3 : ¬ (1 : Int) < (m2 : Int) := by omega
            clear HF5 y1
            go_enter Try.func17, Try.ntmps17
            go_wp2_with (first | (go_at_call 14; first | (refine (E1 _).out.mono ?_; clear E1; rintro e W ⟨rfl, e1⟩; subst e1) | (refine (F1 _).out.mono ?_; clear F1; rintro e W ⟨rfl, e1⟩; subst e1)) | (go_at_call 33; first | (refine (CM _).out.mono ?_; clear CM; rintro e W2 ⟨rfl, K2⟩) | (refine (FM _).out.mono ?_; clear FM; rintro e W4 ⟨rfl, K4⟩)) | (go_at_call 37; refine (CS _).out.mono ?_; clear CS; rintro e W3 ⟨rfl, K3⟩))
            go_ret
            exact ⟨rets HG.out, (K2).trans K4 (fun _ f => f.elim)⟩
end Go.Proofs.Ytmfdoohnladohaa
