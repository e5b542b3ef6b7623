import Derived.Test.YtiemiphlfbaojaaDoorMrg5
namespace Go.Proofs.YtiemiphlfbaojaaDoor
open Go.ChangeShapes Go.WideShapes Go.ChangeAt Go.RowKit
variable {w0 w w' : World} {b rc : Nat} {a0 : Option Addr} {R : List Tn} {v : Value} {s : MS} {Z : Bool × MS}

theorem endU_go (h : Mc w0 w b rc a0 R v s) (ho : okS s) : Calls Tryd.prog 35 #[.pointer (some ⟨b, 0, none⟩)] w fun e w' => e = .returned (.tuple #[]) ∧ Mc w0 w' b rc a0 R v s.endU := by
  have h1 := h.ha
  have h2 := h.hr
  have h3 := ho.a
  have h4 := ho.b
  exact endU_any h (by omega) (by omega)
theorem open_go (h : Mc w0 w b rc a0 R v s) (ho : okS s) : Calls Tryd.prog 31 #[.pointer (some ⟨b, 0, none⟩)] w fun x w' => x = .returned (.tuple #[]) ∧ ∃ v', Mc w0 w' b rc a0 R v' s.open' := by
  have h1 := h.ha
  have h2 := h.hr
  have h3 := ho.a
  have h4 := sO_len s.ou
  exact open_anyS h (by omega)
theorem close_go (h : Mc w0 w b rc a0 R v s) (ho : okS s) {l : Lv} {r : List Lv} (hou : s.ou = l :: r) : Calls Tryd.prog 37 #[.pointer (some ⟨b, 0, none⟩)] w fun e w' => e = .returned (.tuple #[]) ∧ ∃ v', Mc w0 w' b rc a0 R v' (s.close' l r) := by
  have h1 := h.ha
  have h2 := h.hr
  have h3 := ho.a
  have h4 := ho.b
  have h5 := sO_len s.ou
  rw [hou] at h3 h4 h5
  simp only [List.length_cons] at h5
  exact close_anyS h l r hou (by omega) (by omega)
theorem mc_shape (h : Mc w0 w b rc a0 R v s) : ∃ n1 a1 c1, n1 = s.ou.length ∧ v = Value.slice a1 n1 c1 := by
  rcases h.own.2 with ⟨rfl, e⟩ | ⟨g, cap, cur, rfl, _⟩
  · exact ⟨0, none, 0, e.symm, rfl⟩
  · exact ⟨_, _, _, rfl, rfl⟩
theorem Goo_ok8 {B : Bool} {s1 : MS} (h : Goo R Z 2 s) (q : tK R 8 s = (B, s1)) : okS s1 := (Adv.at' (adv_K R 8) q).2.2.2.2.2.2 h.ok
theorem not_bound {B : Bool} {s1 : MS} (h : Goo R Z 1 s) (q : tK R 6 s = (B, s1)) (hR : R.length ≤ 500000000000) : s1.top.t ≤ 500000000000 := by
  have h1 := Adv.at' (adv_K R 6) q
  have h2 := h.ok.a
  have h3 := h.at'
  rw [h1.2.2.2.2.1]
  omega
theorem boost_bound {B : Bool} {s1 : MS} (h : Goo R Z 5 s) (q : orT (tK R 18) (tK R 19) s = (B, s1)) (hR : R.length ≤ 500000000000) : s1.ne ≤ 500000000000 := by
  have h1 := Adv.at' ((adv_K R 18).or (adv_K R 19)) q
  have h2 := h.ok.a
  have h3 := h.at'
  rw [h1.2.2.2.1]
  omega
set_option maxRecDepth 40000 in
set_option maxHeartbeats 8000000 in
theorem run_any (h : Mc w0 w b rc a0 R v s) (hG : Goo R Z 0 s) : Calls Tryd.prog 17 #[.pointer (some ⟨b, 0, none⟩)] w (rnPost w0 b rc a0 R Z) := by
  have H0 : Hid (StM w0 b rc a0 R Z (rkM R 0 s) 0 w) := hideL (.inl ⟨rfl, v, s, hG, h, rfl⟩)
  have hR := h.hr
  clear h hG
  go_enter Tryd.func17, Tryd.ntmps17
  go_wp2_with fail
  refine wp_scope_run _ H0.out ?_ ?_
  · intro X Q' hX hx
    cases hX
    go_wp2_with fail
    refine wp_label ?_
    rename_i K hK
    exact hK _ _ hx
  · clear H0
    intro r lab w' u1 u3 u4 u5 u6 u7 u8 u9 u10 u11 u12 u13 u14 u15 u16 u17 u18 u19 u20 u21 u22 u23 u24 u25 u26 u27 u28 u29 u30 u31 u32 u33 u34 u35 u36 u37 u38 u39 u40 u41 u42 u43 u44 u45 u46 u47 u48 u49 u50 u51 u52 u53 u54 u55 u56 u57 u58 u59 u60 u61 u62 u63 u64 u65 u66 u67 u68 u69 u70 u71 u72 u73 u74 u75 u76 u77 u78 u79 u80 u81 u82 u83 u84 u85 u86 u87 u88 u89 u90 u91 u92 u93 u94 u95 u96 u97 u98 u99 u100 u101 u102 u103 u104 u105 u106 u107 u108 u109 u110 u111 u112 u113 u114 u115 u116 u117 u118 u119 hS
    rcases hS with ⟨rfl, hS⟩ | ⟨rfl, hS⟩ | ⟨rfl, hS⟩ | ⟨rfl, hS⟩ | ⟨rfl, hS⟩ | ⟨rfl, hS⟩
    · refine ⟨_, rfl, ?_⟩
      obtain ⟨v, s, hG0, hM, rfl⟩ := hS
      have H0 := hideL hM
      clear hM
      obtain ⟨⟨B1, t1⟩, q1⟩ : ∃ x, tK R 15 s = x := ⟨_, rfl⟩
      have D1 := hideL ((tks_take (w0 := w0) (b := b) (rc := rc) (a0 := a0) (R := R) 15 (by decide)).at' q1 v)
      cases B1 with
      | true =>
        obtain ⟨hG2, hr2⟩ := e01 hG0 (or_yes q1)
        obtain ⟨y2, hy2⟩ : ∃ y, y = { t1 with top := { t1.top with s := true } } := ⟨_, rfl⟩
        rw [← hy2] at hG2 hr2
        have HY2 := hideL hy2
        clear hy2
        obtain ⟨⟨B3, t3⟩, q3⟩ : ∃ x, tK R 6 y2 = x := ⟨_, rfl⟩
        have D3 := hideL ((tks_take (w0 := w0) (b := b) (rc := rc) (a0 := a0) (R := R) 6 (by decide)).at' q3 v)
        cases B3 with
        | true =>
          have bt := not_bound hG2 q3 hR
          obtain ⟨hG4, hr4⟩ := e11 hG2 q3
          have hr4 := Nat.lt_trans hr4 hr2
          obtain ⟨y4, hy4⟩ : ∃ y, y = { t3 with top := { t3.top with t := t3.top.t + 1 } } := ⟨_, rfl⟩
          rw [← hy4] at hG4 hr4
          have HY4 := hideL hy4
          clear hy4
          have HGz := hideL hG4
          have HRz := hideL hr4
          clear hG0 q1 hG2 q3 hG4 hr4
          skip
          go_wp2_with (first
            | (go_at_call 29; refine (D1.out _ H0.out).mono ?_; clear D1; rintro e W1 ⟨rfl, h1⟩; have H1 := hideL h1; clear h1 H0; have x6 := H1.out.cells.2.2.2.2.2.2.1; have f6 := H1.out.free 6; have HS2 : Hid (Mc w0 (W1.setCell ⟨b, 6, none⟩ (.bool true)) b rc a0 R v y2) := hideL (by rw [HY2.out]; exact H1.out.setTs true)))
          refine wp_label ?_
          go_wp2_with (first
            | (go_at_call 29; refine (D3.out _ HS2.out).mono ?_; clear D3; rintro e W3 ⟨rfl, h1⟩; have H3 := hideL h1; clear h1 HS2; have x5 := H3.out.cells.2.2.2.2.2.1; have f5 := H3.out.free 5))
          have HF : Hid (Mc w0 (W3.setCell ⟨b, 5, none⟩ (.int .i64 ((t3.top.t : Int) + 1))) b rc a0 R v y4) := hideL (by rw [HY4.out]; exact H3.out.setTt (t3.top.t + 1) _ (by omega))
          go_step3
          exact jm_mk HRz.out (.inr (.inl ⟨rfl, _, _, HGz.out, HF.out, rfl⟩))
        | false =>
          obtain ⟨⟨B4, t4⟩, q4⟩ : ∃ x, tSt R t3 = x := ⟨_, rfl⟩
          have D4 := hideL ((tks_star (w0 := w0) (b := b) (rc := rc) (a0 := a0) (R := R)).at' q4 v)
          cases B4 with
          | true =>
            obtain ⟨hG5, hr5⟩ := e13 hG2 q3 q4
            have hr5 := Nat.lt_trans hr5 hr2
            have HGz := hideL hG5
            have HRz := hideL hr5
            clear hG0 q1 hG2 q3 q4 hG5 hr5
            skip
            go_wp2_with (first
              | (go_at_call 29; refine (D1.out _ H0.out).mono ?_; clear D1; rintro e W1 ⟨rfl, h1⟩; have H1 := hideL h1; clear h1 H0; have x6 := H1.out.cells.2.2.2.2.2.2.1; have f6 := H1.out.free 6; have HS2 : Hid (Mc w0 (W1.setCell ⟨b, 6, none⟩ (.bool true)) b rc a0 R v y2) := hideL (by rw [HY2.out]; exact H1.out.setTs true)))
            refine wp_label ?_
            go_wp2_with (first
              | (go_at_call 29; refine (D3.out _ HS2.out).mono ?_; clear D3; rintro e W3 ⟨rfl, h1⟩; have H3 := hideL h1; clear h1 HS2)
              | (go_at_call 30; refine (D4.out _ H3.out).mono ?_; clear D4; rintro e W4 ⟨rfl, h1⟩; have H4 := hideL h1; clear h1 H3))
            go_step3
            exact jm_mk HRz.out (.inr (.inr (.inl ⟨rfl, _, _, HGz.out, H4.out, rfl⟩)))
          | false =>
            obtain ⟨⟨B5, t5⟩, q5⟩ : ∃ x, tK R 1 t4 = x := ⟨_, rfl⟩
            have D5 := hideL ((tks_take (w0 := w0) (b := b) (rc := rc) (a0 := a0) (R := R) 1 (by decide)).at' q5 v)
            cases B5 with
            | true =>
              obtain ⟨hG6, hr6⟩ := e14 hG2 q3 q4 q5
              have hr6 := Nat.lt_trans hr6 hr2
              have HGz := hideL hG6
              have HRz := hideL hr6
              clear hG0 q1 hG2 q3 q4 q5 hG6 hr6
              skip
              go_wp2_with (first
                | (go_at_call 29; refine (D1.out _ H0.out).mono ?_; clear D1; rintro e W1 ⟨rfl, h1⟩; have H1 := hideL h1; clear h1 H0; have x6 := H1.out.cells.2.2.2.2.2.2.1; have f6 := H1.out.free 6; have HS2 : Hid (Mc w0 (W1.setCell ⟨b, 6, none⟩ (.bool true)) b rc a0 R v y2) := hideL (by rw [HY2.out]; exact H1.out.setTs true)))
              refine wp_label ?_
              go_wp2_with (first
                | (go_at_call 29; refine (D3.out _ HS2.out).mono ?_; clear D3; rintro e W3 ⟨rfl, h1⟩; have H3 := hideL h1; clear h1 HS2)
                | (go_at_call 30; refine (D4.out _ H3.out).mono ?_; clear D4; rintro e W4 ⟨rfl, h1⟩; have H4 := hideL h1; clear h1 H3)
                | (go_at_call 29; refine (D5.out _ H4.out).mono ?_; clear D5; rintro e W5 ⟨rfl, h1⟩; have H5 := hideL h1; clear h1 H4))
              go_step3
              exact jm_mk HRz.out (.inr (.inr (.inr (.inl ⟨rfl, _, _, HGz.out, H5.out, rfl⟩))))
            | false =>
              obtain ⟨hG6, hr6⟩ := e12 hG2 q3 q4 q5
              have hr6 := Nat.lt_trans hr6 hr2
              obtain ⟨⟨B7, t7⟩, q7⟩ : ∃ x, tK R 8 t5 = x := ⟨_, rfl⟩
              have D7 := hideL ((tks_take (w0 := w0) (b := b) (rc := rc) (a0 := a0) (R := R) 8 (by decide)).at' q7 v)
              cases B7 with
              | true =>
                obtain ⟨hG8, hr8⟩ := e20 hG6 q7
                have hr8 := Nat.lt_trans hr8 hr6
                obtain ⟨y8, hy8⟩ : ∃ y, y = t7.open' := ⟨_, rfl⟩
                rw [← hy8] at hG8 hr8
                have HY8 := hideL hy8
                clear hy8
                have CO := hideL (fun W (hW : Mc w0 W b rc a0 R v t7) => open_go hW (Goo_ok8 hG6 q7))
                have HGz := hideL hG8
                have HRz := hideL hr8
                clear hG0 q1 hG2 q3 q4 q5 hG6 q7 hG8 hr8
                skip
                go_wp2_with (first
                  | (go_at_call 29; refine (D1.out _ H0.out).mono ?_; clear D1; rintro e W1 ⟨rfl, h1⟩; have H1 := hideL h1; clear h1 H0; have x6 := H1.out.cells.2.2.2.2.2.2.1; have f6 := H1.out.free 6; have HS2 : Hid (Mc w0 (W1.setCell ⟨b, 6, none⟩ (.bool true)) b rc a0 R v y2) := hideL (by rw [HY2.out]; exact H1.out.setTs true)))
                refine wp_label ?_
                go_wp2_with (first
                  | (go_at_call 29; refine (D3.out _ HS2.out).mono ?_; clear D3; rintro e W3 ⟨rfl, h1⟩; have H3 := hideL h1; clear h1 HS2)
                  | (go_at_call 30; refine (D4.out _ H3.out).mono ?_; clear D4; rintro e W4 ⟨rfl, h1⟩; have H4 := hideL h1; clear h1 H3)
                  | (go_at_call 29; refine (D5.out _ H4.out).mono ?_; clear D5; rintro e W5 ⟨rfl, h1⟩; have H5 := hideL h1; clear h1 H4))
                refine wp_label ?_
                go_wp2_with (first
                  | (go_at_call 29; refine (D7.out _ H5.out).mono ?_; clear D7; rintro e W7 ⟨rfl, h1⟩; have H7 := hideL h1; clear h1 H5)
                  | (go_at_call 31; refine (CO.out _ H7.out).mono ?_; clear CO; rintro e WO ⟨rfl, v2, h1⟩; have HF : Hid (Mc w0 WO b rc a0 R v2 y8) := hideL (by rw [HY8.out]; exact h1); clear h1 H7))
                go_step3
                exact jm_mk HRz.out (.inl ⟨rfl, _, _, HGz.out, HF.out, rfl⟩)
              | false =>
                obtain ⟨⟨B8, t8⟩, q8⟩ : ∃ x, tK R 10 t7 = x := ⟨_, rfl⟩
                have D8 := hideL ((tks_take (w0 := w0) (b := b) (rc := rc) (a0 := a0) (R := R) 10 (by decide)).at' q8 v)
                cases B8 with
                | true =>
                  obtain ⟨⟨B9, t9⟩, q9⟩ : ∃ x, tSides R t8 = x := ⟨_, rfl⟩
                  have D9 := hideL ((tks_takeSides (w0 := w0) (b := b) (rc := rc) (a0 := a0) (R := R)).at' q9 v)
                  cases B9 with
                  | true =>
                    obtain ⟨hG10, hr10⟩ := e25a hG6 q7 q8 q9
                    have hr10 := Nat.lt_trans hr10 hr6
                    have HGz := hideL hG10
                    have HRz := hideL hr10
                    clear hG0 q1 hG2 q3 q4 q5 hG6 q7 q8 q9 hG10 hr10
                    skip
                    go_wp2_with (first
                      | (go_at_call 29; refine (D1.out _ H0.out).mono ?_; clear D1; rintro e W1 ⟨rfl, h1⟩; have H1 := hideL h1; clear h1 H0; have x6 := H1.out.cells.2.2.2.2.2.2.1; have f6 := H1.out.free 6; have HS2 : Hid (Mc w0 (W1.setCell ⟨b, 6, none⟩ (.bool true)) b rc a0 R v y2) := hideL (by rw [HY2.out]; exact H1.out.setTs true)))
                    refine wp_label ?_
                    go_wp2_with (first
                      | (go_at_call 29; refine (D3.out _ HS2.out).mono ?_; clear D3; rintro e W3 ⟨rfl, h1⟩; have H3 := hideL h1; clear h1 HS2)
                      | (go_at_call 30; refine (D4.out _ H3.out).mono ?_; clear D4; rintro e W4 ⟨rfl, h1⟩; have H4 := hideL h1; clear h1 H3)
                      | (go_at_call 29; refine (D5.out _ H4.out).mono ?_; clear D5; rintro e W5 ⟨rfl, h1⟩; have H5 := hideL h1; clear h1 H4))
                    refine wp_label ?_
                    go_wp2_with (first
                      | (go_at_call 29; refine (D7.out _ H5.out).mono ?_; clear D7; rintro e W7 ⟨rfl, h1⟩; have H7 := hideL h1; clear h1 H5)
                      | (go_at_call 29; refine (D8.out _ H7.out).mono ?_; clear D8; rintro e W8 ⟨rfl, h1⟩; have H8 := hideL h1; clear h1 H7)
                      | (go_at_call 32; refine (D9.out _ H8.out).mono ?_; clear D9; rintro e W9 ⟨rfl, h1⟩; have H9 := hideL h1; clear h1 H8))
                    go_step3
                    exact jm_mk HRz.out (.inr (.inr (.inr (.inr (.inr ⟨rfl, _, _, HGz.out, H9.out, rfl⟩)))))
                  | false =>
                    have HZz := hideL (r2a hG6 q7 q8 q9)
                    clear hG0 q1 hG2 q3 q4 q5 hG6 q7 q8 q9 hr6
                    skip
                    go_wp2_with (first
                      | (go_at_call 29; refine (D1.out _ H0.out).mono ?_; clear D1; rintro e W1 ⟨rfl, h1⟩; have H1 := hideL h1; clear h1 H0; have x6 := H1.out.cells.2.2.2.2.2.2.1; have f6 := H1.out.free 6; have HS2 : Hid (Mc w0 (W1.setCell ⟨b, 6, none⟩ (.bool true)) b rc a0 R v y2) := hideL (by rw [HY2.out]; exact H1.out.setTs true)))
                    refine wp_label ?_
                    go_wp2_with (first
                      | (go_at_call 29; refine (D3.out _ HS2.out).mono ?_; clear D3; rintro e W3 ⟨rfl, h1⟩; have H3 := hideL h1; clear h1 HS2)
                      | (go_at_call 30; refine (D4.out _ H3.out).mono ?_; clear D4; rintro e W4 ⟨rfl, h1⟩; have H4 := hideL h1; clear h1 H3)
                      | (go_at_call 29; refine (D5.out _ H4.out).mono ?_; clear D5; rintro e W5 ⟨rfl, h1⟩; have H5 := hideL h1; clear h1 H4))
                    refine wp_label ?_
                    go_wp2_with (first
                      | (go_at_call 29; refine (D7.out _ H5.out).mono ?_; clear D7; rintro e W7 ⟨rfl, h1⟩; have H7 := hideL h1; clear h1 H5)
                      | (go_at_call 29; refine (D8.out _ H7.out).mono ?_; clear D8; rintro e W8 ⟨rfl, h1⟩; have H8 := hideL h1; clear h1 H7)
                      | (go_at_call 32; refine (D9.out _ H8.out).mono ?_; clear D9; rintro e W9 ⟨rfl, h1⟩; have H9 := hideL h1; clear h1 H8))
                    rw [jumpsL_ret]
                    go_ret
                    exact ⟨by rw [HZz.out]; rfl, _, by rw [HZz.out]; exact H9.out⟩
                | false =>
                  obtain ⟨⟨B9, t9⟩, q9⟩ : ∃ x, tK R 12 t8 = x := ⟨_, rfl⟩
                  have D9 := hideL ((tks_take (w0 := w0) (b := b) (rc := rc) (a0 := a0) (R := R) 12 (by decide)).at' q9 v)
                  cases B9 with
                  | true =>
                    obtain ⟨⟨B10, t10⟩, q10⟩ : ∃ x, tSides R t9 = x := ⟨_, rfl⟩
                    have D10 := hideL ((tks_takeSides (w0 := w0) (b := b) (rc := rc) (a0 := a0) (R := R)).at' q10 v)
                    cases B10 with
                    | true =>
                      obtain ⟨hG11, hr11⟩ := e25b hG6 q7 q8 q9 q10
                      have hr11 := Nat.lt_trans hr11 hr6
                      have HGz := hideL hG11
                      have HRz := hideL hr11
                      clear hG0 q1 hG2 q3 q4 q5 hG6 q7 q8 q9 q10 hG11 hr11
                      skip
                      go_wp2_with (first
                        | (go_at_call 29; refine (D1.out _ H0.out).mono ?_; clear D1; rintro e W1 ⟨rfl, h1⟩; have H1 := hideL h1; clear h1 H0; have x6 := H1.out.cells.2.2.2.2.2.2.1; have f6 := H1.out.free 6; have HS2 : Hid (Mc w0 (W1.setCell ⟨b, 6, none⟩ (.bool true)) b rc a0 R v y2) := hideL (by rw [HY2.out]; exact H1.out.setTs true)))
                      refine wp_label ?_
                      go_wp2_with (first
                        | (go_at_call 29; refine (D3.out _ HS2.out).mono ?_; clear D3; rintro e W3 ⟨rfl, h1⟩; have H3 := hideL h1; clear h1 HS2)
                        | (go_at_call 30; refine (D4.out _ H3.out).mono ?_; clear D4; rintro e W4 ⟨rfl, h1⟩; have H4 := hideL h1; clear h1 H3)
                        | (go_at_call 29; refine (D5.out _ H4.out).mono ?_; clear D5; rintro e W5 ⟨rfl, h1⟩; have H5 := hideL h1; clear h1 H4))
                      refine wp_label ?_
                      go_wp2_with (first
                        | (go_at_call 29; refine (D7.out _ H5.out).mono ?_; clear D7; rintro e W7 ⟨rfl, h1⟩; have H7 := hideL h1; clear h1 H5)
                        | (go_at_call 29; refine (D8.out _ H7.out).mono ?_; clear D8; rintro e W8 ⟨rfl, h1⟩; have H8 := hideL h1; clear h1 H7)
                        | (go_at_call 29; refine (D9.out _ H8.out).mono ?_; clear D9; rintro e W9 ⟨rfl, h1⟩; have H9 := hideL h1; clear h1 H8)
                        | (go_at_call 32; refine (D10.out _ H9.out).mono ?_; clear D10; rintro e W10 ⟨rfl, h1⟩; have H10 := hideL h1; clear h1 H9))
                      go_step3
                      exact jm_mk HRz.out (.inr (.inr (.inr (.inr (.inr ⟨rfl, _, _, HGz.out, H10.out, rfl⟩)))))
                    | false =>
                      have HZz := hideL (r2b hG6 q7 q8 q9 q10)
                      clear hG0 q1 hG2 q3 q4 q5 hG6 q7 q8 q9 q10 hr6
                      skip
                      go_wp2_with (first
                        | (go_at_call 29; refine (D1.out _ H0.out).mono ?_; clear D1; rintro e W1 ⟨rfl, h1⟩; have H1 := hideL h1; clear h1 H0; have x6 := H1.out.cells.2.2.2.2.2.2.1; have f6 := H1.out.free 6; have HS2 : Hid (Mc w0 (W1.setCell ⟨b, 6, none⟩ (.bool true)) b rc a0 R v y2) := hideL (by rw [HY2.out]; exact H1.out.setTs true)))
                      refine wp_label ?_
                      go_wp2_with (first
                        | (go_at_call 29; refine (D3.out _ HS2.out).mono ?_; clear D3; rintro e W3 ⟨rfl, h1⟩; have H3 := hideL h1; clear h1 HS2)
                        | (go_at_call 30; refine (D4.out _ H3.out).mono ?_; clear D4; rintro e W4 ⟨rfl, h1⟩; have H4 := hideL h1; clear h1 H3)
                        | (go_at_call 29; refine (D5.out _ H4.out).mono ?_; clear D5; rintro e W5 ⟨rfl, h1⟩; have H5 := hideL h1; clear h1 H4))
                      refine wp_label ?_
                      go_wp2_with (first
                        | (go_at_call 29; refine (D7.out _ H5.out).mono ?_; clear D7; rintro e W7 ⟨rfl, h1⟩; have H7 := hideL h1; clear h1 H5)
                        | (go_at_call 29; refine (D8.out _ H7.out).mono ?_; clear D8; rintro e W8 ⟨rfl, h1⟩; have H8 := hideL h1; clear h1 H7)
                        | (go_at_call 29; refine (D9.out _ H8.out).mono ?_; clear D9; rintro e W9 ⟨rfl, h1⟩; have H9 := hideL h1; clear h1 H8)
                        | (go_at_call 32; refine (D10.out _ H9.out).mono ?_; clear D10; rintro e W10 ⟨rfl, h1⟩; have H10 := hideL h1; clear h1 H9))
                      rw [jumpsL_ret]
                      go_ret
                      exact ⟨by rw [HZz.out]; rfl, _, by rw [HZz.out]; exact H10.out⟩
                  | false =>
                    obtain ⟨⟨B10, t10⟩, q10⟩ : ∃ x, tK R 3 t9 = x := ⟨_, rfl⟩
                    have D10 := hideL ((tks_take (w0 := w0) (b := b) (rc := rc) (a0 := a0) (R := R) 3 (by decide)).at' q10 v)
                    cases B10 with
                    | true =>
                      obtain ⟨⟨B11, t11⟩, q11⟩ : ∃ x, tSl R t10 = x := ⟨_, rfl⟩
                      have D11 := hideL ((tks_slop (w0 := w0) (b := b) (rc := rc) (a0 := a0) (R := R)).at' q11 v)
                      obtain ⟨hG12, hr12⟩ := e25c hG6 q7 q8 q9 q10 q11
                      have hr12 := Nat.lt_trans hr12 hr6
                      have HGz := hideL hG12
                      have HRz := hideL hr12
                      clear hG0 q1 hG2 q3 q4 q5 hG6 q7 q8 q9 q10 q11 hG12 hr12
                      skip
                      go_wp2_with (first
                        | (go_at_call 29; refine (D1.out _ H0.out).mono ?_; clear D1; rintro e W1 ⟨rfl, h1⟩; have H1 := hideL h1; clear h1 H0; have x6 := H1.out.cells.2.2.2.2.2.2.1; have f6 := H1.out.free 6; have HS2 : Hid (Mc w0 (W1.setCell ⟨b, 6, none⟩ (.bool true)) b rc a0 R v y2) := hideL (by rw [HY2.out]; exact H1.out.setTs true)))
                      refine wp_label ?_
                      go_wp2_with (first
                        | (go_at_call 29; refine (D3.out _ HS2.out).mono ?_; clear D3; rintro e W3 ⟨rfl, h1⟩; have H3 := hideL h1; clear h1 HS2)
                        | (go_at_call 30; refine (D4.out _ H3.out).mono ?_; clear D4; rintro e W4 ⟨rfl, h1⟩; have H4 := hideL h1; clear h1 H3)
                        | (go_at_call 29; refine (D5.out _ H4.out).mono ?_; clear D5; rintro e W5 ⟨rfl, h1⟩; have H5 := hideL h1; clear h1 H4))
                      refine wp_label ?_
                      go_wp2_with (first
                        | (go_at_call 29; refine (D7.out _ H5.out).mono ?_; clear D7; rintro e W7 ⟨rfl, h1⟩; have H7 := hideL h1; clear h1 H5)
                        | (go_at_call 29; refine (D8.out _ H7.out).mono ?_; clear D8; rintro e W8 ⟨rfl, h1⟩; have H8 := hideL h1; clear h1 H7)
                        | (go_at_call 29; refine (D9.out _ H8.out).mono ?_; clear D9; rintro e W9 ⟨rfl, h1⟩; have H9 := hideL h1; clear h1 H8)
                        | (go_at_call 29; refine (D10.out _ H9.out).mono ?_; clear D10; rintro e W10 ⟨rfl, h1⟩; have H10 := hideL h1; clear h1 H9)
                        | (go_at_call 33; refine (D11.out _ H10.out).mono ?_; clear D11; rintro e W11 ⟨rfl, h1⟩; have H11 := hideL h1; clear h1 H10))
                      go_step3
                      exact jm_mk HRz.out (.inr (.inr (.inr (.inr (.inr ⟨rfl, _, _, HGz.out, H11.out, rfl⟩)))))
                    | false =>
                      obtain ⟨⟨B11, t11⟩, q11⟩ : ∃ x, tK R 1 t10 = x := ⟨_, rfl⟩
                      have D11 := hideL ((tks_take (w0 := w0) (b := b) (rc := rc) (a0 := a0) (R := R) 1 (by decide)).at' q11 v)
                      cases B11 with
                      | true =>
                        obtain ⟨⟨B12, t12⟩, q12⟩ : ∃ x, tEd R t11 = x := ⟨_, rfl⟩
                        have D12 := hideL ((tks_edits (w0 := w0) (b := b) (rc := rc) (a0 := a0) (R := R)).at' q12 v)
                        obtain ⟨hG13, hr13⟩ := e25d hG6 q7 q8 q9 q10 q11 q12
                        have hr13 := Nat.lt_trans hr13 hr6
                        have HGz := hideL hG13
                        have HRz := hideL hr13
                        clear hG0 q1 hG2 q3 q4 q5 hG6 q7 q8 q9 q10 q11 q12 hG13 hr13
                        skip
                        go_wp2_with (first
                          | (go_at_call 29; refine (D1.out _ H0.out).mono ?_; clear D1; rintro e W1 ⟨rfl, h1⟩; have H1 := hideL h1; clear h1 H0; have x6 := H1.out.cells.2.2.2.2.2.2.1; have f6 := H1.out.free 6; have HS2 : Hid (Mc w0 (W1.setCell ⟨b, 6, none⟩ (.bool true)) b rc a0 R v y2) := hideL (by rw [HY2.out]; exact H1.out.setTs true)))
                        refine wp_label ?_
                        go_wp2_with (first
                          | (go_at_call 29; refine (D3.out _ HS2.out).mono ?_; clear D3; rintro e W3 ⟨rfl, h1⟩; have H3 := hideL h1; clear h1 HS2)
                          | (go_at_call 30; refine (D4.out _ H3.out).mono ?_; clear D4; rintro e W4 ⟨rfl, h1⟩; have H4 := hideL h1; clear h1 H3)
                          | (go_at_call 29; refine (D5.out _ H4.out).mono ?_; clear D5; rintro e W5 ⟨rfl, h1⟩; have H5 := hideL h1; clear h1 H4))
                        refine wp_label ?_
                        go_wp2_with (first
                          | (go_at_call 29; refine (D7.out _ H5.out).mono ?_; clear D7; rintro e W7 ⟨rfl, h1⟩; have H7 := hideL h1; clear h1 H5)
                          | (go_at_call 29; refine (D8.out _ H7.out).mono ?_; clear D8; rintro e W8 ⟨rfl, h1⟩; have H8 := hideL h1; clear h1 H7)
                          | (go_at_call 29; refine (D9.out _ H8.out).mono ?_; clear D9; rintro e W9 ⟨rfl, h1⟩; have H9 := hideL h1; clear h1 H8)
                          | (go_at_call 29; refine (D10.out _ H9.out).mono ?_; clear D10; rintro e W10 ⟨rfl, h1⟩; have H10 := hideL h1; clear h1 H9)
                          | (go_at_call 29; refine (D11.out _ H10.out).mono ?_; clear D11; rintro e W11 ⟨rfl, h1⟩; have H11 := hideL h1; clear h1 H10)
                          | (go_at_call 34; refine (D12.out _ H11.out).mono ?_; clear D12; rintro e W12 ⟨rfl, h1⟩; have H12 := hideL h1; clear h1 H11))
                        go_step3
                        exact jm_mk HRz.out (.inr (.inr (.inr (.inr (.inr ⟨rfl, _, _, HGz.out, H12.out, rfl⟩)))))
                      | false =>
                        obtain ⟨⟨B12, t12⟩, q12⟩ : ∃ x, tK R 2 t11 = x := ⟨_, rfl⟩
                        have D12 := hideL ((tks_take (w0 := w0) (b := b) (rc := rc) (a0 := a0) (R := R) 2 (by decide)).at' q12 v)
                        cases B12 with
                        | true =>
                          obtain ⟨hG13, hr13⟩ := e25e hG6 q7 q8 q9 q10 q11 q12
                          have hr13 := Nat.lt_trans hr13 hr6
                          have HGz := hideL hG13
                          have HRz := hideL hr13
                          clear hG0 q1 hG2 q3 q4 q5 hG6 q7 q8 q9 q10 q11 q12 hG13 hr13
                          skip
                          go_wp2_with (first
                            | (go_at_call 29; refine (D1.out _ H0.out).mono ?_; clear D1; rintro e W1 ⟨rfl, h1⟩; have H1 := hideL h1; clear h1 H0; have x6 := H1.out.cells.2.2.2.2.2.2.1; have f6 := H1.out.free 6; have HS2 : Hid (Mc w0 (W1.setCell ⟨b, 6, none⟩ (.bool true)) b rc a0 R v y2) := hideL (by rw [HY2.out]; exact H1.out.setTs true)))
                          refine wp_label ?_
                          go_wp2_with (first
                            | (go_at_call 29; refine (D3.out _ HS2.out).mono ?_; clear D3; rintro e W3 ⟨rfl, h1⟩; have H3 := hideL h1; clear h1 HS2)
                            | (go_at_call 30; refine (D4.out _ H3.out).mono ?_; clear D4; rintro e W4 ⟨rfl, h1⟩; have H4 := hideL h1; clear h1 H3)
                            | (go_at_call 29; refine (D5.out _ H4.out).mono ?_; clear D5; rintro e W5 ⟨rfl, h1⟩; have H5 := hideL h1; clear h1 H4))
                          refine wp_label ?_
                          go_wp2_with (first
                            | (go_at_call 29; refine (D7.out _ H5.out).mono ?_; clear D7; rintro e W7 ⟨rfl, h1⟩; have H7 := hideL h1; clear h1 H5)
                            | (go_at_call 29; refine (D8.out _ H7.out).mono ?_; clear D8; rintro e W8 ⟨rfl, h1⟩; have H8 := hideL h1; clear h1 H7)
                            | (go_at_call 29; refine (D9.out _ H8.out).mono ?_; clear D9; rintro e W9 ⟨rfl, h1⟩; have H9 := hideL h1; clear h1 H8)
                            | (go_at_call 29; refine (D10.out _ H9.out).mono ?_; clear D10; rintro e W10 ⟨rfl, h1⟩; have H10 := hideL h1; clear h1 H9)
                            | (go_at_call 29; refine (D11.out _ H10.out).mono ?_; clear D11; rintro e W11 ⟨rfl, h1⟩; have H11 := hideL h1; clear h1 H10)
                            | (go_at_call 29; refine (D12.out _ H11.out).mono ?_; clear D12; rintro e W12 ⟨rfl, h1⟩; have H12 := hideL h1; clear h1 H11))
                          go_step3
                          exact jm_mk HRz.out (.inr (.inr (.inr (.inr (.inr ⟨rfl, _, _, HGz.out, H12.out, rfl⟩)))))
                        | false =>
                          have HZz := hideL (r2c hG6 q7 q8 q9 q10 q11 q12)
                          clear hG0 q1 hG2 q3 q4 q5 hG6 q7 q8 q9 q10 q11 q12 hr6
                          skip
                          go_wp2_with (first
                            | (go_at_call 29; refine (D1.out _ H0.out).mono ?_; clear D1; rintro e W1 ⟨rfl, h1⟩; have H1 := hideL h1; clear h1 H0; have x6 := H1.out.cells.2.2.2.2.2.2.1; have f6 := H1.out.free 6; have HS2 : Hid (Mc w0 (W1.setCell ⟨b, 6, none⟩ (.bool true)) b rc a0 R v y2) := hideL (by rw [HY2.out]; exact H1.out.setTs true)))
                          refine wp_label ?_
                          go_wp2_with (first
                            | (go_at_call 29; refine (D3.out _ HS2.out).mono ?_; clear D3; rintro e W3 ⟨rfl, h1⟩; have H3 := hideL h1; clear h1 HS2)
                            | (go_at_call 30; refine (D4.out _ H3.out).mono ?_; clear D4; rintro e W4 ⟨rfl, h1⟩; have H4 := hideL h1; clear h1 H3)
                            | (go_at_call 29; refine (D5.out _ H4.out).mono ?_; clear D5; rintro e W5 ⟨rfl, h1⟩; have H5 := hideL h1; clear h1 H4))
                          refine wp_label ?_
                          go_wp2_with (first
                            | (go_at_call 29; refine (D7.out _ H5.out).mono ?_; clear D7; rintro e W7 ⟨rfl, h1⟩; have H7 := hideL h1; clear h1 H5)
                            | (go_at_call 29; refine (D8.out _ H7.out).mono ?_; clear D8; rintro e W8 ⟨rfl, h1⟩; have H8 := hideL h1; clear h1 H7)
                            | (go_at_call 29; refine (D9.out _ H8.out).mono ?_; clear D9; rintro e W9 ⟨rfl, h1⟩; have H9 := hideL h1; clear h1 H8)
                            | (go_at_call 29; refine (D10.out _ H9.out).mono ?_; clear D10; rintro e W10 ⟨rfl, h1⟩; have H10 := hideL h1; clear h1 H9)
                            | (go_at_call 29; refine (D11.out _ H10.out).mono ?_; clear D11; rintro e W11 ⟨rfl, h1⟩; have H11 := hideL h1; clear h1 H10)
                            | (go_at_call 29; refine (D12.out _ H11.out).mono ?_; clear D12; rintro e W12 ⟨rfl, h1⟩; have H12 := hideL h1; clear h1 H11))
                          rw [jumpsL_ret]
                          go_ret
                          exact ⟨by rw [HZz.out]; rfl, _, by rw [HZz.out]; exact H12.out⟩
      | false =>
        obtain ⟨⟨B2, t2⟩, q2⟩ : ∃ x, tK R 16 t1 = x := ⟨_, rfl⟩
        have D2 := hideL ((tks_take (w0 := w0) (b := b) (rc := rc) (a0 := a0) (R := R) 16 (by decide)).at' q2 v)
        cases B2 with
        | true =>
          obtain ⟨hG3, hr3⟩ := e01 hG0 ((or_no q1).trans q2)
          obtain ⟨y3, hy3⟩ : ∃ y, y = { t2 with top := { t2.top with s := true } } := ⟨_, rfl⟩
          rw [← hy3] at hG3 hr3
          have HY3 := hideL hy3
          clear hy3
          obtain ⟨⟨B4, t4⟩, q4⟩ : ∃ x, tK R 6 y3 = x := ⟨_, rfl⟩
          have D4 := hideL ((tks_take (w0 := w0) (b := b) (rc := rc) (a0 := a0) (R := R) 6 (by decide)).at' q4 v)
          cases B4 with
          | true =>
            have bt := not_bound hG3 q4 hR
            obtain ⟨hG5, hr5⟩ := e11 hG3 q4
            have hr5 := Nat.lt_trans hr5 hr3
            obtain ⟨y5, hy5⟩ : ∃ y, y = { t4 with top := { t4.top with t := t4.top.t + 1 } } := ⟨_, rfl⟩
            rw [← hy5] at hG5 hr5
            have HY5 := hideL hy5
            clear hy5
            have HGz := hideL hG5
            have HRz := hideL hr5
            clear hG0 q1 q2 hG3 q4 hG5 hr5
            skip
            go_wp2_with (first
              | (go_at_call 29; refine (D1.out _ H0.out).mono ?_; clear D1; rintro e W1 ⟨rfl, h1⟩; have H1 := hideL h1; clear h1 H0)
              | (go_at_call 29; refine (D2.out _ H1.out).mono ?_; clear D2; rintro e W2 ⟨rfl, h1⟩; have H2 := hideL h1; clear h1 H1; have x6 := H2.out.cells.2.2.2.2.2.2.1; have f6 := H2.out.free 6; have HS3 : Hid (Mc w0 (W2.setCell ⟨b, 6, none⟩ (.bool true)) b rc a0 R v y3) := hideL (by rw [HY3.out]; exact H2.out.setTs true)))
            refine wp_label ?_
            go_wp2_with (first
              | (go_at_call 29; refine (D4.out _ HS3.out).mono ?_; clear D4; rintro e W4 ⟨rfl, h1⟩; have H4 := hideL h1; clear h1 HS3; have x5 := H4.out.cells.2.2.2.2.2.1; have f5 := H4.out.free 5))
            have HF : Hid (Mc w0 (W4.setCell ⟨b, 5, none⟩ (.int .i64 ((t4.top.t : Int) + 1))) b rc a0 R v y5) := hideL (by rw [HY5.out]; exact H4.out.setTt (t4.top.t + 1) _ (by omega))
            go_step3
            exact jm_mk HRz.out (.inr (.inl ⟨rfl, _, _, HGz.out, HF.out, rfl⟩))
          | false =>
            obtain ⟨⟨B5, t5⟩, q5⟩ : ∃ x, tSt R t4 = x := ⟨_, rfl⟩
            have D5 := hideL ((tks_star (w0 := w0) (b := b) (rc := rc) (a0 := a0) (R := R)).at' q5 v)
            cases B5 with
            | true =>
              obtain ⟨hG6, hr6⟩ := e13 hG3 q4 q5
              have hr6 := Nat.lt_trans hr6 hr3
              have HGz := hideL hG6
              have HRz := hideL hr6
              clear hG0 q1 q2 hG3 q4 q5 hG6 hr6
              skip
              go_wp2_with (first
                | (go_at_call 29; refine (D1.out _ H0.out).mono ?_; clear D1; rintro e W1 ⟨rfl, h1⟩; have H1 := hideL h1; clear h1 H0)
                | (go_at_call 29; refine (D2.out _ H1.out).mono ?_; clear D2; rintro e W2 ⟨rfl, h1⟩; have H2 := hideL h1; clear h1 H1; have x6 := H2.out.cells.2.2.2.2.2.2.1; have f6 := H2.out.free 6; have HS3 : Hid (Mc w0 (W2.setCell ⟨b, 6, none⟩ (.bool true)) b rc a0 R v y3) := hideL (by rw [HY3.out]; exact H2.out.setTs true)))
              refine wp_label ?_
              go_wp2_with (first
                | (go_at_call 29; refine (D4.out _ HS3.out).mono ?_; clear D4; rintro e W4 ⟨rfl, h1⟩; have H4 := hideL h1; clear h1 HS3)
                | (go_at_call 30; refine (D5.out _ H4.out).mono ?_; clear D5; rintro e W5 ⟨rfl, h1⟩; have H5 := hideL h1; clear h1 H4))
              go_step3
              exact jm_mk HRz.out (.inr (.inr (.inl ⟨rfl, _, _, HGz.out, H5.out, rfl⟩)))
            | false =>
              obtain ⟨⟨B6, t6⟩, q6⟩ : ∃ x, tK R 1 t5 = x := ⟨_, rfl⟩
              have D6 := hideL ((tks_take (w0 := w0) (b := b) (rc := rc) (a0 := a0) (R := R) 1 (by decide)).at' q6 v)
              cases B6 with
              | true =>
                obtain ⟨hG7, hr7⟩ := e14 hG3 q4 q5 q6
                have hr7 := Nat.lt_trans hr7 hr3
                have HGz := hideL hG7
                have HRz := hideL hr7
                clear hG0 q1 q2 hG3 q4 q5 q6 hG7 hr7
                skip
                go_wp2_with (first
                  | (go_at_call 29; refine (D1.out _ H0.out).mono ?_; clear D1; rintro e W1 ⟨rfl, h1⟩; have H1 := hideL h1; clear h1 H0)
                  | (go_at_call 29; refine (D2.out _ H1.out).mono ?_; clear D2; rintro e W2 ⟨rfl, h1⟩; have H2 := hideL h1; clear h1 H1; have x6 := H2.out.cells.2.2.2.2.2.2.1; have f6 := H2.out.free 6; have HS3 : Hid (Mc w0 (W2.setCell ⟨b, 6, none⟩ (.bool true)) b rc a0 R v y3) := hideL (by rw [HY3.out]; exact H2.out.setTs true)))
                refine wp_label ?_
                go_wp2_with (first
                  | (go_at_call 29; refine (D4.out _ HS3.out).mono ?_; clear D4; rintro e W4 ⟨rfl, h1⟩; have H4 := hideL h1; clear h1 HS3)
                  | (go_at_call 30; refine (D5.out _ H4.out).mono ?_; clear D5; rintro e W5 ⟨rfl, h1⟩; have H5 := hideL h1; clear h1 H4)
                  | (go_at_call 29; refine (D6.out _ H5.out).mono ?_; clear D6; rintro e W6 ⟨rfl, h1⟩; have H6 := hideL h1; clear h1 H5))
                go_step3
                exact jm_mk HRz.out (.inr (.inr (.inr (.inl ⟨rfl, _, _, HGz.out, H6.out, rfl⟩))))
              | false =>
                obtain ⟨hG7, hr7⟩ := e12 hG3 q4 q5 q6
                have hr7 := Nat.lt_trans hr7 hr3
                obtain ⟨⟨B8, t8⟩, q8⟩ : ∃ x, tK R 8 t6 = x := ⟨_, rfl⟩
                have D8 := hideL ((tks_take (w0 := w0) (b := b) (rc := rc) (a0 := a0) (R := R) 8 (by decide)).at' q8 v)
                cases B8 with
                | true =>
                  obtain ⟨hG9, hr9⟩ := e20 hG7 q8
                  have hr9 := Nat.lt_trans hr9 hr7
                  obtain ⟨y9, hy9⟩ : ∃ y, y = t8.open' := ⟨_, rfl⟩
                  rw [← hy9] at hG9 hr9
                  have HY9 := hideL hy9
                  clear hy9
                  have CO := hideL (fun W (hW : Mc w0 W b rc a0 R v t8) => open_go hW (Goo_ok8 hG7 q8))
                  have HGz := hideL hG9
                  have HRz := hideL hr9
                  clear hG0 q1 q2 hG3 q4 q5 q6 hG7 q8 hG9 hr9
                  skip
                  go_wp2_with (first
                    | (go_at_call 29; refine (D1.out _ H0.out).mono ?_; clear D1; rintro e W1 ⟨rfl, h1⟩; have H1 := hideL h1; clear h1 H0)
                    | (go_at_call 29; refine (D2.out _ H1.out).mono ?_; clear D2; rintro e W2 ⟨rfl, h1⟩; have H2 := hideL h1; clear h1 H1; have x6 := H2.out.cells.2.2.2.2.2.2.1; have f6 := H2.out.free 6; have HS3 : Hid (Mc w0 (W2.setCell ⟨b, 6, none⟩ (.bool true)) b rc a0 R v y3) := hideL (by rw [HY3.out]; exact H2.out.setTs true)))
                  refine wp_label ?_
                  go_wp2_with (first
                    | (go_at_call 29; refine (D4.out _ HS3.out).mono ?_; clear D4; rintro e W4 ⟨rfl, h1⟩; have H4 := hideL h1; clear h1 HS3)
                    | (go_at_call 30; refine (D5.out _ H4.out).mono ?_; clear D5; rintro e W5 ⟨rfl, h1⟩; have H5 := hideL h1; clear h1 H4)
                    | (go_at_call 29; refine (D6.out _ H5.out).mono ?_; clear D6; rintro e W6 ⟨rfl, h1⟩; have H6 := hideL h1; clear h1 H5))
                  refine wp_label ?_
                  go_wp2_with (first
                    | (go_at_call 29; refine (D8.out _ H6.out).mono ?_; clear D8; rintro e W8 ⟨rfl, h1⟩; have H8 := hideL h1; clear h1 H6)
                    | (go_at_call 31; refine (CO.out _ H8.out).mono ?_; clear CO; rintro e WO ⟨rfl, v2, h1⟩; have HF : Hid (Mc w0 WO b rc a0 R v2 y9) := hideL (by rw [HY9.out]; exact h1); clear h1 H8))
                  go_step3
                  exact jm_mk HRz.out (.inl ⟨rfl, _, _, HGz.out, HF.out, rfl⟩)
                | false =>
                  obtain ⟨⟨B9, t9⟩, q9⟩ : ∃ x, tK R 10 t8 = x := ⟨_, rfl⟩
                  have D9 := hideL ((tks_take (w0 := w0) (b := b) (rc := rc) (a0 := a0) (R := R) 10 (by decide)).at' q9 v)
                  cases B9 with
                  | true =>
                    obtain ⟨⟨B10, t10⟩, q10⟩ : ∃ x, tSides R t9 = x := ⟨_, rfl⟩
                    have D10 := hideL ((tks_takeSides (w0 := w0) (b := b) (rc := rc) (a0 := a0) (R := R)).at' q10 v)
                    cases B10 with
                    | true =>
                      obtain ⟨hG11, hr11⟩ := e25a hG7 q8 q9 q10
                      have hr11 := Nat.lt_trans hr11 hr7
                      have HGz := hideL hG11
                      have HRz := hideL hr11
                      clear hG0 q1 q2 hG3 q4 q5 q6 hG7 q8 q9 q10 hG11 hr11
                      skip
                      go_wp2_with (first
                        | (go_at_call 29; refine (D1.out _ H0.out).mono ?_; clear D1; rintro e W1 ⟨rfl, h1⟩; have H1 := hideL h1; clear h1 H0)
                        | (go_at_call 29; refine (D2.out _ H1.out).mono ?_; clear D2; rintro e W2 ⟨rfl, h1⟩; have H2 := hideL h1; clear h1 H1; have x6 := H2.out.cells.2.2.2.2.2.2.1; have f6 := H2.out.free 6; have HS3 : Hid (Mc w0 (W2.setCell ⟨b, 6, none⟩ (.bool true)) b rc a0 R v y3) := hideL (by rw [HY3.out]; exact H2.out.setTs true)))
                      refine wp_label ?_
                      go_wp2_with (first
                        | (go_at_call 29; refine (D4.out _ HS3.out).mono ?_; clear D4; rintro e W4 ⟨rfl, h1⟩; have H4 := hideL h1; clear h1 HS3)
                        | (go_at_call 30; refine (D5.out _ H4.out).mono ?_; clear D5; rintro e W5 ⟨rfl, h1⟩; have H5 := hideL h1; clear h1 H4)
                        | (go_at_call 29; refine (D6.out _ H5.out).mono ?_; clear D6; rintro e W6 ⟨rfl, h1⟩; have H6 := hideL h1; clear h1 H5))
                      refine wp_label ?_
                      go_wp2_with (first
                        | (go_at_call 29; refine (D8.out _ H6.out).mono ?_; clear D8; rintro e W8 ⟨rfl, h1⟩; have H8 := hideL h1; clear h1 H6)
                        | (go_at_call 29; refine (D9.out _ H8.out).mono ?_; clear D9; rintro e W9 ⟨rfl, h1⟩; have H9 := hideL h1; clear h1 H8)
                        | (go_at_call 32; refine (D10.out _ H9.out).mono ?_; clear D10; rintro e W10 ⟨rfl, h1⟩; have H10 := hideL h1; clear h1 H9))
                      go_step3
                      exact jm_mk HRz.out (.inr (.inr (.inr (.inr (.inr ⟨rfl, _, _, HGz.out, H10.out, rfl⟩)))))
                    | false =>
                      have HZz := hideL (r2a hG7 q8 q9 q10)
                      clear hG0 q1 q2 hG3 q4 q5 q6 hG7 q8 q9 q10 hr7
                      skip
                      go_wp2_with (first
                        | (go_at_call 29; refine (D1.out _ H0.out).mono ?_; clear D1; rintro e W1 ⟨rfl, h1⟩; have H1 := hideL h1; clear h1 H0)
                        | (go_at_call 29; refine (D2.out _ H1.out).mono ?_; clear D2; rintro e W2 ⟨rfl, h1⟩; have H2 := hideL h1; clear h1 H1; have x6 := H2.out.cells.2.2.2.2.2.2.1; have f6 := H2.out.free 6; have HS3 : Hid (Mc w0 (W2.setCell ⟨b, 6, none⟩ (.bool true)) b rc a0 R v y3) := hideL (by rw [HY3.out]; exact H2.out.setTs true)))
                      refine wp_label ?_
                      go_wp2_with (first
                        | (go_at_call 29; refine (D4.out _ HS3.out).mono ?_; clear D4; rintro e W4 ⟨rfl, h1⟩; have H4 := hideL h1; clear h1 HS3)
                        | (go_at_call 30; refine (D5.out _ H4.out).mono ?_; clear D5; rintro e W5 ⟨rfl, h1⟩; have H5 := hideL h1; clear h1 H4)
                        | (go_at_call 29; refine (D6.out _ H5.out).mono ?_; clear D6; rintro e W6 ⟨rfl, h1⟩; have H6 := hideL h1; clear h1 H5))
                      refine wp_label ?_
                      go_wp2_with (first
                        | (go_at_call 29; refine (D8.out _ H6.out).mono ?_; clear D8; rintro e W8 ⟨rfl, h1⟩; have H8 := hideL h1; clear h1 H6)
                        | (go_at_call 29; refine (D9.out _ H8.out).mono ?_; clear D9; rintro e W9 ⟨rfl, h1⟩; have H9 := hideL h1; clear h1 H8)
                        | (go_at_call 32; refine (D10.out _ H9.out).mono ?_; clear D10; rintro e W10 ⟨rfl, h1⟩; have H10 := hideL h1; clear h1 H9))
                      rw [jumpsL_ret]
                      go_ret
                      exact ⟨by rw [HZz.out]; rfl, _, by rw [HZz.out]; exact H10.out⟩
                  | false =>
                    obtain ⟨⟨B10, t10⟩, q10⟩ : ∃ x, tK R 12 t9 = x := ⟨_, rfl⟩
                    have D10 := hideL ((tks_take (w0 := w0) (b := b) (rc := rc) (a0 := a0) (R := R) 12 (by decide)).at' q10 v)
                    cases B10 with
                    | true =>
                      obtain ⟨⟨B11, t11⟩, q11⟩ : ∃ x, tSides R t10 = x := ⟨_, rfl⟩
                      have D11 := hideL ((tks_takeSides (w0 := w0) (b := b) (rc := rc) (a0 := a0) (R := R)).at' q11 v)
                      cases B11 with
                      | true =>
                        obtain ⟨hG12, hr12⟩ := e25b hG7 q8 q9 q10 q11
                        have hr12 := Nat.lt_trans hr12 hr7
                        have HGz := hideL hG12
                        have HRz := hideL hr12
                        clear hG0 q1 q2 hG3 q4 q5 q6 hG7 q8 q9 q10 q11 hG12 hr12
                        skip
                        go_wp2_with (first
                          | (go_at_call 29; refine (D1.out _ H0.out).mono ?_; clear D1; rintro e W1 ⟨rfl, h1⟩; have H1 := hideL h1; clear h1 H0)
                          | (go_at_call 29; refine (D2.out _ H1.out).mono ?_; clear D2; rintro e W2 ⟨rfl, h1⟩; have H2 := hideL h1; clear h1 H1; have x6 := H2.out.cells.2.2.2.2.2.2.1; have f6 := H2.out.free 6; have HS3 : Hid (Mc w0 (W2.setCell ⟨b, 6, none⟩ (.bool true)) b rc a0 R v y3) := hideL (by rw [HY3.out]; exact H2.out.setTs true)))
                        refine wp_label ?_
                        go_wp2_with (first
                          | (go_at_call 29; refine (D4.out _ HS3.out).mono ?_; clear D4; rintro e W4 ⟨rfl, h1⟩; have H4 := hideL h1; clear h1 HS3)
                          | (go_at_call 30; refine (D5.out _ H4.out).mono ?_; clear D5; rintro e W5 ⟨rfl, h1⟩; have H5 := hideL h1; clear h1 H4)
                          | (go_at_call 29; refine (D6.out _ H5.out).mono ?_; clear D6; rintro e W6 ⟨rfl, h1⟩; have H6 := hideL h1; clear h1 H5))
                        refine wp_label ?_
                        go_wp2_with (first
                          | (go_at_call 29; refine (D8.out _ H6.out).mono ?_; clear D8; rintro e W8 ⟨rfl, h1⟩; have H8 := hideL h1; clear h1 H6)
                          | (go_at_call 29; refine (D9.out _ H8.out).mono ?_; clear D9; rintro e W9 ⟨rfl, h1⟩; have H9 := hideL h1; clear h1 H8)
                          | (go_at_call 29; refine (D10.out _ H9.out).mono ?_; clear D10; rintro e W10 ⟨rfl, h1⟩; have H10 := hideL h1; clear h1 H9)
                          | (go_at_call 32; refine (D11.out _ H10.out).mono ?_; clear D11; rintro e W11 ⟨rfl, h1⟩; have H11 := hideL h1; clear h1 H10))
                        go_step3
                        exact jm_mk HRz.out (.inr (.inr (.inr (.inr (.inr ⟨rfl, _, _, HGz.out, H11.out, rfl⟩)))))
                      | false =>
                        have HZz := hideL (r2b hG7 q8 q9 q10 q11)
                        clear hG0 q1 q2 hG3 q4 q5 q6 hG7 q8 q9 q10 q11 hr7
                        skip
                        go_wp2_with (first
                          | (go_at_call 29; refine (D1.out _ H0.out).mono ?_; clear D1; rintro e W1 ⟨rfl, h1⟩; have H1 := hideL h1; clear h1 H0)
                          | (go_at_call 29; refine (D2.out _ H1.out).mono ?_; clear D2; rintro e W2 ⟨rfl, h1⟩; have H2 := hideL h1; clear h1 H1; have x6 := H2.out.cells.2.2.2.2.2.2.1; have f6 := H2.out.free 6; have HS3 : Hid (Mc w0 (W2.setCell ⟨b, 6, none⟩ (.bool true)) b rc a0 R v y3) := hideL (by rw [HY3.out]; exact H2.out.setTs true)))
                        refine wp_label ?_
                        go_wp2_with (first
                          | (go_at_call 29; refine (D4.out _ HS3.out).mono ?_; clear D4; rintro e W4 ⟨rfl, h1⟩; have H4 := hideL h1; clear h1 HS3)
                          | (go_at_call 30; refine (D5.out _ H4.out).mono ?_; clear D5; rintro e W5 ⟨rfl, h1⟩; have H5 := hideL h1; clear h1 H4)
                          | (go_at_call 29; refine (D6.out _ H5.out).mono ?_; clear D6; rintro e W6 ⟨rfl, h1⟩; have H6 := hideL h1; clear h1 H5))
                        refine wp_label ?_
                        go_wp2_with (first
                          | (go_at_call 29; refine (D8.out _ H6.out).mono ?_; clear D8; rintro e W8 ⟨rfl, h1⟩; have H8 := hideL h1; clear h1 H6)
                          | (go_at_call 29; refine (D9.out _ H8.out).mono ?_; clear D9; rintro e W9 ⟨rfl, h1⟩; have H9 := hideL h1; clear h1 H8)
                          | (go_at_call 29; refine (D10.out _ H9.out).mono ?_; clear D10; rintro e W10 ⟨rfl, h1⟩; have H10 := hideL h1; clear h1 H9)
                          | (go_at_call 32; refine (D11.out _ H10.out).mono ?_; clear D11; rintro e W11 ⟨rfl, h1⟩; have H11 := hideL h1; clear h1 H10))
                        rw [jumpsL_ret]
                        go_ret
                        exact ⟨by rw [HZz.out]; rfl, _, by rw [HZz.out]; exact H11.out⟩
                    | false =>
                      obtain ⟨⟨B11, t11⟩, q11⟩ : ∃ x, tK R 3 t10 = x := ⟨_, rfl⟩
                      have D11 := hideL ((tks_take (w0 := w0) (b := b) (rc := rc) (a0 := a0) (R := R) 3 (by decide)).at' q11 v)
                      cases B11 with
                      | true =>
                        obtain ⟨⟨B12, t12⟩, q12⟩ : ∃ x, tSl R t11 = x := ⟨_, rfl⟩
                        have D12 := hideL ((tks_slop (w0 := w0) (b := b) (rc := rc) (a0 := a0) (R := R)).at' q12 v)
                        obtain ⟨hG13, hr13⟩ := e25c hG7 q8 q9 q10 q11 q12
                        have hr13 := Nat.lt_trans hr13 hr7
                        have HGz := hideL hG13
                        have HRz := hideL hr13
                        clear hG0 q1 q2 hG3 q4 q5 q6 hG7 q8 q9 q10 q11 q12 hG13 hr13
                        skip
                        go_wp2_with (first
                          | (go_at_call 29; refine (D1.out _ H0.out).mono ?_; clear D1; rintro e W1 ⟨rfl, h1⟩; have H1 := hideL h1; clear h1 H0)
                          | (go_at_call 29; refine (D2.out _ H1.out).mono ?_; clear D2; rintro e W2 ⟨rfl, h1⟩; have H2 := hideL h1; clear h1 H1; have x6 := H2.out.cells.2.2.2.2.2.2.1; have f6 := H2.out.free 6; have HS3 : Hid (Mc w0 (W2.setCell ⟨b, 6, none⟩ (.bool true)) b rc a0 R v y3) := hideL (by rw [HY3.out]; exact H2.out.setTs true)))
                        refine wp_label ?_
                        go_wp2_with (first
                          | (go_at_call 29; refine (D4.out _ HS3.out).mono ?_; clear D4; rintro e W4 ⟨rfl, h1⟩; have H4 := hideL h1; clear h1 HS3)
                          | (go_at_call 30; refine (D5.out _ H4.out).mono ?_; clear D5; rintro e W5 ⟨rfl, h1⟩; have H5 := hideL h1; clear h1 H4)
                          | (go_at_call 29; refine (D6.out _ H5.out).mono ?_; clear D6; rintro e W6 ⟨rfl, h1⟩; have H6 := hideL h1; clear h1 H5))
                        refine wp_label ?_
                        go_wp2_with (first
                          | (go_at_call 29; refine (D8.out _ H6.out).mono ?_; clear D8; rintro e W8 ⟨rfl, h1⟩; have H8 := hideL h1; clear h1 H6)
                          | (go_at_call 29; refine (D9.out _ H8.out).mono ?_; clear D9; rintro e W9 ⟨rfl, h1⟩; have H9 := hideL h1; clear h1 H8)
                          | (go_at_call 29; refine (D10.out _ H9.out).mono ?_; clear D10; rintro e W10 ⟨rfl, h1⟩; have H10 := hideL h1; clear h1 H9)
                          | (go_at_call 29; refine (D11.out _ H10.out).mono ?_; clear D11; rintro e W11 ⟨rfl, h1⟩; have H11 := hideL h1; clear h1 H10)
                          | (go_at_call 33; refine (D12.out _ H11.out).mono ?_; clear D12; rintro e W12 ⟨rfl, h1⟩; have H12 := hideL h1; clear h1 H11))
                        go_step3
                        exact jm_mk HRz.out (.inr (.inr (.inr (.inr (.inr ⟨rfl, _, _, HGz.out, H12.out, rfl⟩)))))
                      | false =>
                        obtain ⟨⟨B12, t12⟩, q12⟩ : ∃ x, tK R 1 t11 = x := ⟨_, rfl⟩
                        have D12 := hideL ((tks_take (w0 := w0) (b := b) (rc := rc) (a0 := a0) (R := R) 1 (by decide)).at' q12 v)
                        cases B12 with
                        | true =>
                          obtain ⟨⟨B13, t13⟩, q13⟩ : ∃ x, tEd R t12 = x := ⟨_, rfl⟩
                          have D13 := hideL ((tks_edits (w0 := w0) (b := b) (rc := rc) (a0 := a0) (R := R)).at' q13 v)
                          obtain ⟨hG14, hr14⟩ := e25d hG7 q8 q9 q10 q11 q12 q13
                          have hr14 := Nat.lt_trans hr14 hr7
                          have HGz := hideL hG14
                          have HRz := hideL hr14
                          clear hG0 q1 q2 hG3 q4 q5 q6 hG7 q8 q9 q10 q11 q12 q13 hG14 hr14
                          skip
                          go_wp2_with (first
                            | (go_at_call 29; refine (D1.out _ H0.out).mono ?_; clear D1; rintro e W1 ⟨rfl, h1⟩; have H1 := hideL h1; clear h1 H0)
                            | (go_at_call 29; refine (D2.out _ H1.out).mono ?_; clear D2; rintro e W2 ⟨rfl, h1⟩; have H2 := hideL h1; clear h1 H1; have x6 := H2.out.cells.2.2.2.2.2.2.1; have f6 := H2.out.free 6; have HS3 : Hid (Mc w0 (W2.setCell ⟨b, 6, none⟩ (.bool true)) b rc a0 R v y3) := hideL (by rw [HY3.out]; exact H2.out.setTs true)))
                          refine wp_label ?_
                          go_wp2_with (first
                            | (go_at_call 29; refine (D4.out _ HS3.out).mono ?_; clear D4; rintro e W4 ⟨rfl, h1⟩; have H4 := hideL h1; clear h1 HS3)
                            | (go_at_call 30; refine (D5.out _ H4.out).mono ?_; clear D5; rintro e W5 ⟨rfl, h1⟩; have H5 := hideL h1; clear h1 H4)
                            | (go_at_call 29; refine (D6.out _ H5.out).mono ?_; clear D6; rintro e W6 ⟨rfl, h1⟩; have H6 := hideL h1; clear h1 H5))
                          refine wp_label ?_
                          go_wp2_with (first
                            | (go_at_call 29; refine (D8.out _ H6.out).mono ?_; clear D8; rintro e W8 ⟨rfl, h1⟩; have H8 := hideL h1; clear h1 H6)
                            | (go_at_call 29; refine (D9.out _ H8.out).mono ?_; clear D9; rintro e W9 ⟨rfl, h1⟩; have H9 := hideL h1; clear h1 H8)
                            | (go_at_call 29; refine (D10.out _ H9.out).mono ?_; clear D10; rintro e W10 ⟨rfl, h1⟩; have H10 := hideL h1; clear h1 H9)
                            | (go_at_call 29; refine (D11.out _ H10.out).mono ?_; clear D11; rintro e W11 ⟨rfl, h1⟩; have H11 := hideL h1; clear h1 H10)
                            | (go_at_call 29; refine (D12.out _ H11.out).mono ?_; clear D12; rintro e W12 ⟨rfl, h1⟩; have H12 := hideL h1; clear h1 H11)
                            | (go_at_call 34; refine (D13.out _ H12.out).mono ?_; clear D13; rintro e W13 ⟨rfl, h1⟩; have H13 := hideL h1; clear h1 H12))
                          go_step3
                          exact jm_mk HRz.out (.inr (.inr (.inr (.inr (.inr ⟨rfl, _, _, HGz.out, H13.out, rfl⟩)))))
                        | false =>
                          obtain ⟨⟨B13, t13⟩, q13⟩ : ∃ x, tK R 2 t12 = x := ⟨_, rfl⟩
                          have D13 := hideL ((tks_take (w0 := w0) (b := b) (rc := rc) (a0 := a0) (R := R) 2 (by decide)).at' q13 v)
                          cases B13 with
                          | true =>
                            obtain ⟨hG14, hr14⟩ := e25e hG7 q8 q9 q10 q11 q12 q13
                            have hr14 := Nat.lt_trans hr14 hr7
                            have HGz := hideL hG14
                            have HRz := hideL hr14
                            clear hG0 q1 q2 hG3 q4 q5 q6 hG7 q8 q9 q10 q11 q12 q13 hG14 hr14
                            skip
                            go_wp2_with (first
                              | (go_at_call 29; refine (D1.out _ H0.out).mono ?_; clear D1; rintro e W1 ⟨rfl, h1⟩; have H1 := hideL h1; clear h1 H0)
                              | (go_at_call 29; refine (D2.out _ H1.out).mono ?_; clear D2; rintro e W2 ⟨rfl, h1⟩; have H2 := hideL h1; clear h1 H1; have x6 := H2.out.cells.2.2.2.2.2.2.1; have f6 := H2.out.free 6; have HS3 : Hid (Mc w0 (W2.setCell ⟨b, 6, none⟩ (.bool true)) b rc a0 R v y3) := hideL (by rw [HY3.out]; exact H2.out.setTs true)))
                            refine wp_label ?_
                            go_wp2_with (first
                              | (go_at_call 29; refine (D4.out _ HS3.out).mono ?_; clear D4; rintro e W4 ⟨rfl, h1⟩; have H4 := hideL h1; clear h1 HS3)
                              | (go_at_call 30; refine (D5.out _ H4.out).mono ?_; clear D5; rintro e W5 ⟨rfl, h1⟩; have H5 := hideL h1; clear h1 H4)
                              | (go_at_call 29; refine (D6.out _ H5.out).mono ?_; clear D6; rintro e W6 ⟨rfl, h1⟩; have H6 := hideL h1; clear h1 H5))
                            refine wp_label ?_
                            go_wp2_with (first
                              | (go_at_call 29; refine (D8.out _ H6.out).mono ?_; clear D8; rintro e W8 ⟨rfl, h1⟩; have H8 := hideL h1; clear h1 H6)
                              | (go_at_call 29; refine (D9.out _ H8.out).mono ?_; clear D9; rintro e W9 ⟨rfl, h1⟩; have H9 := hideL h1; clear h1 H8)
                              | (go_at_call 29; refine (D10.out _ H9.out).mono ?_; clear D10; rintro e W10 ⟨rfl, h1⟩; have H10 := hideL h1; clear h1 H9)
                              | (go_at_call 29; refine (D11.out _ H10.out).mono ?_; clear D11; rintro e W11 ⟨rfl, h1⟩; have H11 := hideL h1; clear h1 H10)
                              | (go_at_call 29; refine (D12.out _ H11.out).mono ?_; clear D12; rintro e W12 ⟨rfl, h1⟩; have H12 := hideL h1; clear h1 H11)
                              | (go_at_call 29; refine (D13.out _ H12.out).mono ?_; clear D13; rintro e W13 ⟨rfl, h1⟩; have H13 := hideL h1; clear h1 H12))
                            go_step3
                            exact jm_mk HRz.out (.inr (.inr (.inr (.inr (.inr ⟨rfl, _, _, HGz.out, H13.out, rfl⟩)))))
                          | false =>
                            have HZz := hideL (r2c hG7 q8 q9 q10 q11 q12 q13)
                            clear hG0 q1 q2 hG3 q4 q5 q6 hG7 q8 q9 q10 q11 q12 q13 hr7
                            skip
                            go_wp2_with (first
                              | (go_at_call 29; refine (D1.out _ H0.out).mono ?_; clear D1; rintro e W1 ⟨rfl, h1⟩; have H1 := hideL h1; clear h1 H0)
                              | (go_at_call 29; refine (D2.out _ H1.out).mono ?_; clear D2; rintro e W2 ⟨rfl, h1⟩; have H2 := hideL h1; clear h1 H1; have x6 := H2.out.cells.2.2.2.2.2.2.1; have f6 := H2.out.free 6; have HS3 : Hid (Mc w0 (W2.setCell ⟨b, 6, none⟩ (.bool true)) b rc a0 R v y3) := hideL (by rw [HY3.out]; exact H2.out.setTs true)))
                            refine wp_label ?_
                            go_wp2_with (first
                              | (go_at_call 29; refine (D4.out _ HS3.out).mono ?_; clear D4; rintro e W4 ⟨rfl, h1⟩; have H4 := hideL h1; clear h1 HS3)
                              | (go_at_call 30; refine (D5.out _ H4.out).mono ?_; clear D5; rintro e W5 ⟨rfl, h1⟩; have H5 := hideL h1; clear h1 H4)
                              | (go_at_call 29; refine (D6.out _ H5.out).mono ?_; clear D6; rintro e W6 ⟨rfl, h1⟩; have H6 := hideL h1; clear h1 H5))
                            refine wp_label ?_
                            go_wp2_with (first
                              | (go_at_call 29; refine (D8.out _ H6.out).mono ?_; clear D8; rintro e W8 ⟨rfl, h1⟩; have H8 := hideL h1; clear h1 H6)
                              | (go_at_call 29; refine (D9.out _ H8.out).mono ?_; clear D9; rintro e W9 ⟨rfl, h1⟩; have H9 := hideL h1; clear h1 H8)
                              | (go_at_call 29; refine (D10.out _ H9.out).mono ?_; clear D10; rintro e W10 ⟨rfl, h1⟩; have H10 := hideL h1; clear h1 H9)
                              | (go_at_call 29; refine (D11.out _ H10.out).mono ?_; clear D11; rintro e W11 ⟨rfl, h1⟩; have H11 := hideL h1; clear h1 H10)
                              | (go_at_call 29; refine (D12.out _ H11.out).mono ?_; clear D12; rintro e W12 ⟨rfl, h1⟩; have H12 := hideL h1; clear h1 H11)
                              | (go_at_call 29; refine (D13.out _ H12.out).mono ?_; clear D13; rintro e W13 ⟨rfl, h1⟩; have H13 := hideL h1; clear h1 H12))
                            rw [jumpsL_ret]
                            go_ret
                            exact ⟨by rw [HZz.out]; rfl, _, by rw [HZz.out]; exact H13.out⟩
        | false =>
          obtain ⟨hG3, hr3⟩ := e01 hG0 ((or_no q1).trans q2)
          obtain ⟨y3, hy3⟩ : ∃ y, y = { t2 with top := { t2.top with s := false } } := ⟨_, rfl⟩
          rw [← hy3] at hG3 hr3
          have HY3 := hideL hy3
          clear hy3
          obtain ⟨⟨B4, t4⟩, q4⟩ : ∃ x, tK R 6 y3 = x := ⟨_, rfl⟩
          have D4 := hideL ((tks_take (w0 := w0) (b := b) (rc := rc) (a0 := a0) (R := R) 6 (by decide)).at' q4 v)
          cases B4 with
          | true =>
            have bt := not_bound hG3 q4 hR
            obtain ⟨hG5, hr5⟩ := e11 hG3 q4
            have hr5 := Nat.lt_trans hr5 hr3
            obtain ⟨y5, hy5⟩ : ∃ y, y = { t4 with top := { t4.top with t := t4.top.t + 1 } } := ⟨_, rfl⟩
            rw [← hy5] at hG5 hr5
            have HY5 := hideL hy5
            clear hy5
            have HGz := hideL hG5
            have HRz := hideL hr5
            clear hG0 q1 q2 hG3 q4 hG5 hr5
            skip
            go_wp2_with (first
              | (go_at_call 29; refine (D1.out _ H0.out).mono ?_; clear D1; rintro e W1 ⟨rfl, h1⟩; have H1 := hideL h1; clear h1 H0)
              | (go_at_call 29; refine (D2.out _ H1.out).mono ?_; clear D2; rintro e W2 ⟨rfl, h1⟩; have H2 := hideL h1; clear h1 H1; have x6 := H2.out.cells.2.2.2.2.2.2.1; have f6 := H2.out.free 6; have HS3 : Hid (Mc w0 (W2.setCell ⟨b, 6, none⟩ (.bool false)) b rc a0 R v y3) := hideL (by rw [HY3.out]; exact H2.out.setTs false)))
            refine wp_label ?_
            go_wp2_with (first
              | (go_at_call 29; refine (D4.out _ HS3.out).mono ?_; clear D4; rintro e W4 ⟨rfl, h1⟩; have H4 := hideL h1; clear h1 HS3; have x5 := H4.out.cells.2.2.2.2.2.1; have f5 := H4.out.free 5))
            have HF : Hid (Mc w0 (W4.setCell ⟨b, 5, none⟩ (.int .i64 ((t4.top.t : Int) + 1))) b rc a0 R v y5) := hideL (by rw [HY5.out]; exact H4.out.setTt (t4.top.t + 1) _ (by omega))
            go_step3
            exact jm_mk HRz.out (.inr (.inl ⟨rfl, _, _, HGz.out, HF.out, rfl⟩))
          | false =>
            obtain ⟨⟨B5, t5⟩, q5⟩ : ∃ x, tSt R t4 = x := ⟨_, rfl⟩
            have D5 := hideL ((tks_star (w0 := w0) (b := b) (rc := rc) (a0 := a0) (R := R)).at' q5 v)
            cases B5 with
            | true =>
              obtain ⟨hG6, hr6⟩ := e13 hG3 q4 q5
              have hr6 := Nat.lt_trans hr6 hr3
              have HGz := hideL hG6
              have HRz := hideL hr6
              clear hG0 q1 q2 hG3 q4 q5 hG6 hr6
              skip
              go_wp2_with (first
                | (go_at_call 29; refine (D1.out _ H0.out).mono ?_; clear D1; rintro e W1 ⟨rfl, h1⟩; have H1 := hideL h1; clear h1 H0)
                | (go_at_call 29; refine (D2.out _ H1.out).mono ?_; clear D2; rintro e W2 ⟨rfl, h1⟩; have H2 := hideL h1; clear h1 H1; have x6 := H2.out.cells.2.2.2.2.2.2.1; have f6 := H2.out.free 6; have HS3 : Hid (Mc w0 (W2.setCell ⟨b, 6, none⟩ (.bool false)) b rc a0 R v y3) := hideL (by rw [HY3.out]; exact H2.out.setTs false)))
              refine wp_label ?_
              go_wp2_with (first
                | (go_at_call 29; refine (D4.out _ HS3.out).mono ?_; clear D4; rintro e W4 ⟨rfl, h1⟩; have H4 := hideL h1; clear h1 HS3)
                | (go_at_call 30; refine (D5.out _ H4.out).mono ?_; clear D5; rintro e W5 ⟨rfl, h1⟩; have H5 := hideL h1; clear h1 H4))
              go_step3
              exact jm_mk HRz.out (.inr (.inr (.inl ⟨rfl, _, _, HGz.out, H5.out, rfl⟩)))
            | false =>
              obtain ⟨⟨B6, t6⟩, q6⟩ : ∃ x, tK R 1 t5 = x := ⟨_, rfl⟩
              have D6 := hideL ((tks_take (w0 := w0) (b := b) (rc := rc) (a0 := a0) (R := R) 1 (by decide)).at' q6 v)
              cases B6 with
              | true =>
                obtain ⟨hG7, hr7⟩ := e14 hG3 q4 q5 q6
                have hr7 := Nat.lt_trans hr7 hr3
                have HGz := hideL hG7
                have HRz := hideL hr7
                clear hG0 q1 q2 hG3 q4 q5 q6 hG7 hr7
                skip
                go_wp2_with (first
                  | (go_at_call 29; refine (D1.out _ H0.out).mono ?_; clear D1; rintro e W1 ⟨rfl, h1⟩; have H1 := hideL h1; clear h1 H0)
                  | (go_at_call 29; refine (D2.out _ H1.out).mono ?_; clear D2; rintro e W2 ⟨rfl, h1⟩; have H2 := hideL h1; clear h1 H1; have x6 := H2.out.cells.2.2.2.2.2.2.1; have f6 := H2.out.free 6; have HS3 : Hid (Mc w0 (W2.setCell ⟨b, 6, none⟩ (.bool false)) b rc a0 R v y3) := hideL (by rw [HY3.out]; exact H2.out.setTs false)))
                refine wp_label ?_
                go_wp2_with (first
                  | (go_at_call 29; refine (D4.out _ HS3.out).mono ?_; clear D4; rintro e W4 ⟨rfl, h1⟩; have H4 := hideL h1; clear h1 HS3)
                  | (go_at_call 30; refine (D5.out _ H4.out).mono ?_; clear D5; rintro e W5 ⟨rfl, h1⟩; have H5 := hideL h1; clear h1 H4)
                  | (go_at_call 29; refine (D6.out _ H5.out).mono ?_; clear D6; rintro e W6 ⟨rfl, h1⟩; have H6 := hideL h1; clear h1 H5))
                go_step3
                exact jm_mk HRz.out (.inr (.inr (.inr (.inl ⟨rfl, _, _, HGz.out, H6.out, rfl⟩))))
              | false =>
                obtain ⟨hG7, hr7⟩ := e12 hG3 q4 q5 q6
                have hr7 := Nat.lt_trans hr7 hr3
                obtain ⟨⟨B8, t8⟩, q8⟩ : ∃ x, tK R 8 t6 = x := ⟨_, rfl⟩
                have D8 := hideL ((tks_take (w0 := w0) (b := b) (rc := rc) (a0 := a0) (R := R) 8 (by decide)).at' q8 v)
                cases B8 with
                | true =>
                  obtain ⟨hG9, hr9⟩ := e20 hG7 q8
                  have hr9 := Nat.lt_trans hr9 hr7
                  obtain ⟨y9, hy9⟩ : ∃ y, y = t8.open' := ⟨_, rfl⟩
                  rw [← hy9] at hG9 hr9
                  have HY9 := hideL hy9
                  clear hy9
                  have CO := hideL (fun W (hW : Mc w0 W b rc a0 R v t8) => open_go hW (Goo_ok8 hG7 q8))
                  have HGz := hideL hG9
                  have HRz := hideL hr9
                  clear hG0 q1 q2 hG3 q4 q5 q6 hG7 q8 hG9 hr9
                  skip
                  go_wp2_with (first
                    | (go_at_call 29; refine (D1.out _ H0.out).mono ?_; clear D1; rintro e W1 ⟨rfl, h1⟩; have H1 := hideL h1; clear h1 H0)
                    | (go_at_call 29; refine (D2.out _ H1.out).mono ?_; clear D2; rintro e W2 ⟨rfl, h1⟩; have H2 := hideL h1; clear h1 H1; have x6 := H2.out.cells.2.2.2.2.2.2.1; have f6 := H2.out.free 6; have HS3 : Hid (Mc w0 (W2.setCell ⟨b, 6, none⟩ (.bool false)) b rc a0 R v y3) := hideL (by rw [HY3.out]; exact H2.out.setTs false)))
                  refine wp_label ?_
                  go_wp2_with (first
                    | (go_at_call 29; refine (D4.out _ HS3.out).mono ?_; clear D4; rintro e W4 ⟨rfl, h1⟩; have H4 := hideL h1; clear h1 HS3)
                    | (go_at_call 30; refine (D5.out _ H4.out).mono ?_; clear D5; rintro e W5 ⟨rfl, h1⟩; have H5 := hideL h1; clear h1 H4)
                    | (go_at_call 29; refine (D6.out _ H5.out).mono ?_; clear D6; rintro e W6 ⟨rfl, h1⟩; have H6 := hideL h1; clear h1 H5))
                  refine wp_label ?_
                  go_wp2_with (first
                    | (go_at_call 29; refine (D8.out _ H6.out).mono ?_; clear D8; rintro e W8 ⟨rfl, h1⟩; have H8 := hideL h1; clear h1 H6)
                    | (go_at_call 31; refine (CO.out _ H8.out).mono ?_; clear CO; rintro e WO ⟨rfl, v2, h1⟩; have HF : Hid (Mc w0 WO b rc a0 R v2 y9) := hideL (by rw [HY9.out]; exact h1); clear h1 H8))
                  go_step3
                  exact jm_mk HRz.out (.inl ⟨rfl, _, _, HGz.out, HF.out, rfl⟩)
                | false =>
                  obtain ⟨⟨B9, t9⟩, q9⟩ : ∃ x, tK R 10 t8 = x := ⟨_, rfl⟩
                  have D9 := hideL ((tks_take (w0 := w0) (b := b) (rc := rc) (a0 := a0) (R := R) 10 (by decide)).at' q9 v)
                  cases B9 with
                  | true =>
                    obtain ⟨⟨B10, t10⟩, q10⟩ : ∃ x, tSides R t9 = x := ⟨_, rfl⟩
                    have D10 := hideL ((tks_takeSides (w0 := w0) (b := b) (rc := rc) (a0 := a0) (R := R)).at' q10 v)
                    cases B10 with
                    | true =>
                      obtain ⟨hG11, hr11⟩ := e25a hG7 q8 q9 q10
                      have hr11 := Nat.lt_trans hr11 hr7
                      have HGz := hideL hG11
                      have HRz := hideL hr11
                      clear hG0 q1 q2 hG3 q4 q5 q6 hG7 q8 q9 q10 hG11 hr11
                      skip
                      go_wp2_with (first
                        | (go_at_call 29; refine (D1.out _ H0.out).mono ?_; clear D1; rintro e W1 ⟨rfl, h1⟩; have H1 := hideL h1; clear h1 H0)
                        | (go_at_call 29; refine (D2.out _ H1.out).mono ?_; clear D2; rintro e W2 ⟨rfl, h1⟩; have H2 := hideL h1; clear h1 H1; have x6 := H2.out.cells.2.2.2.2.2.2.1; have f6 := H2.out.free 6; have HS3 : Hid (Mc w0 (W2.setCell ⟨b, 6, none⟩ (.bool false)) b rc a0 R v y3) := hideL (by rw [HY3.out]; exact H2.out.setTs false)))
                      refine wp_label ?_
                      go_wp2_with (first
                        | (go_at_call 29; refine (D4.out _ HS3.out).mono ?_; clear D4; rintro e W4 ⟨rfl, h1⟩; have H4 := hideL h1; clear h1 HS3)
                        | (go_at_call 30; refine (D5.out _ H4.out).mono ?_; clear D5; rintro e W5 ⟨rfl, h1⟩; have H5 := hideL h1; clear h1 H4)
                        | (go_at_call 29; refine (D6.out _ H5.out).mono ?_; clear D6; rintro e W6 ⟨rfl, h1⟩; have H6 := hideL h1; clear h1 H5))
                      refine wp_label ?_
                      go_wp2_with (first
                        | (go_at_call 29; refine (D8.out _ H6.out).mono ?_; clear D8; rintro e W8 ⟨rfl, h1⟩; have H8 := hideL h1; clear h1 H6)
                        | (go_at_call 29; refine (D9.out _ H8.out).mono ?_; clear D9; rintro e W9 ⟨rfl, h1⟩; have H9 := hideL h1; clear h1 H8)
                        | (go_at_call 32; refine (D10.out _ H9.out).mono ?_; clear D10; rintro e W10 ⟨rfl, h1⟩; have H10 := hideL h1; clear h1 H9))
                      go_step3
                      exact jm_mk HRz.out (.inr (.inr (.inr (.inr (.inr ⟨rfl, _, _, HGz.out, H10.out, rfl⟩)))))
                    | false =>
                      have HZz := hideL (r2a hG7 q8 q9 q10)
                      clear hG0 q1 q2 hG3 q4 q5 q6 hG7 q8 q9 q10 hr7
                      skip
                      go_wp2_with (first
                        | (go_at_call 29; refine (D1.out _ H0.out).mono ?_; clear D1; rintro e W1 ⟨rfl, h1⟩; have H1 := hideL h1; clear h1 H0)
                        | (go_at_call 29; refine (D2.out _ H1.out).mono ?_; clear D2; rintro e W2 ⟨rfl, h1⟩; have H2 := hideL h1; clear h1 H1; have x6 := H2.out.cells.2.2.2.2.2.2.1; have f6 := H2.out.free 6; have HS3 : Hid (Mc w0 (W2.setCell ⟨b, 6, none⟩ (.bool false)) b rc a0 R v y3) := hideL (by rw [HY3.out]; exact H2.out.setTs false)))
                      refine wp_label ?_
                      go_wp2_with (first
                        | (go_at_call 29; refine (D4.out _ HS3.out).mono ?_; clear D4; rintro e W4 ⟨rfl, h1⟩; have H4 := hideL h1; clear h1 HS3)
                        | (go_at_call 30; refine (D5.out _ H4.out).mono ?_; clear D5; rintro e W5 ⟨rfl, h1⟩; have H5 := hideL h1; clear h1 H4)
                        | (go_at_call 29; refine (D6.out _ H5.out).mono ?_; clear D6; rintro e W6 ⟨rfl, h1⟩; have H6 := hideL h1; clear h1 H5))
                      refine wp_label ?_
                      go_wp2_with (first
                        | (go_at_call 29; refine (D8.out _ H6.out).mono ?_; clear D8; rintro e W8 ⟨rfl, h1⟩; have H8 := hideL h1; clear h1 H6)
                        | (go_at_call 29; refine (D9.out _ H8.out).mono ?_; clear D9; rintro e W9 ⟨rfl, h1⟩; have H9 := hideL h1; clear h1 H8)
                        | (go_at_call 32; refine (D10.out _ H9.out).mono ?_; clear D10; rintro e W10 ⟨rfl, h1⟩; have H10 := hideL h1; clear h1 H9))
                      rw [jumpsL_ret]
                      go_ret
                      exact ⟨by rw [HZz.out]; rfl, _, by rw [HZz.out]; exact H10.out⟩
                  | false =>
                    obtain ⟨⟨B10, t10⟩, q10⟩ : ∃ x, tK R 12 t9 = x := ⟨_, rfl⟩
                    have D10 := hideL ((tks_take (w0 := w0) (b := b) (rc := rc) (a0 := a0) (R := R) 12 (by decide)).at' q10 v)
                    cases B10 with
                    | true =>
                      obtain ⟨⟨B11, t11⟩, q11⟩ : ∃ x, tSides R t10 = x := ⟨_, rfl⟩
                      have D11 := hideL ((tks_takeSides (w0 := w0) (b := b) (rc := rc) (a0 := a0) (R := R)).at' q11 v)
                      cases B11 with
                      | true =>
                        obtain ⟨hG12, hr12⟩ := e25b hG7 q8 q9 q10 q11
                        have hr12 := Nat.lt_trans hr12 hr7
                        have HGz := hideL hG12
                        have HRz := hideL hr12
                        clear hG0 q1 q2 hG3 q4 q5 q6 hG7 q8 q9 q10 q11 hG12 hr12
                        skip
                        go_wp2_with (first
                          | (go_at_call 29; refine (D1.out _ H0.out).mono ?_; clear D1; rintro e W1 ⟨rfl, h1⟩; have H1 := hideL h1; clear h1 H0)
                          | (go_at_call 29; refine (D2.out _ H1.out).mono ?_; clear D2; rintro e W2 ⟨rfl, h1⟩; have H2 := hideL h1; clear h1 H1; have x6 := H2.out.cells.2.2.2.2.2.2.1; have f6 := H2.out.free 6; have HS3 : Hid (Mc w0 (W2.setCell ⟨b, 6, none⟩ (.bool false)) b rc a0 R v y3) := hideL (by rw [HY3.out]; exact H2.out.setTs false)))
                        refine wp_label ?_
                        go_wp2_with (first
                          | (go_at_call 29; refine (D4.out _ HS3.out).mono ?_; clear D4; rintro e W4 ⟨rfl, h1⟩; have H4 := hideL h1; clear h1 HS3)
                          | (go_at_call 30; refine (D5.out _ H4.out).mono ?_; clear D5; rintro e W5 ⟨rfl, h1⟩; have H5 := hideL h1; clear h1 H4)
                          | (go_at_call 29; refine (D6.out _ H5.out).mono ?_; clear D6; rintro e W6 ⟨rfl, h1⟩; have H6 := hideL h1; clear h1 H5))
                        refine wp_label ?_
                        go_wp2_with (first
                          | (go_at_call 29; refine (D8.out _ H6.out).mono ?_; clear D8; rintro e W8 ⟨rfl, h1⟩; have H8 := hideL h1; clear h1 H6)
                          | (go_at_call 29; refine (D9.out _ H8.out).mono ?_; clear D9; rintro e W9 ⟨rfl, h1⟩; have H9 := hideL h1; clear h1 H8)
                          | (go_at_call 29; refine (D10.out _ H9.out).mono ?_; clear D10; rintro e W10 ⟨rfl, h1⟩; have H10 := hideL h1; clear h1 H9)
                          | (go_at_call 32; refine (D11.out _ H10.out).mono ?_; clear D11; rintro e W11 ⟨rfl, h1⟩; have H11 := hideL h1; clear h1 H10))
                        go_step3
                        exact jm_mk HRz.out (.inr (.inr (.inr (.inr (.inr ⟨rfl, _, _, HGz.out, H11.out, rfl⟩)))))
                      | false =>
                        have HZz := hideL (r2b hG7 q8 q9 q10 q11)
                        clear hG0 q1 q2 hG3 q4 q5 q6 hG7 q8 q9 q10 q11 hr7
                        skip
                        go_wp2_with (first
                          | (go_at_call 29; refine (D1.out _ H0.out).mono ?_; clear D1; rintro e W1 ⟨rfl, h1⟩; have H1 := hideL h1; clear h1 H0)
                          | (go_at_call 29; refine (D2.out _ H1.out).mono ?_; clear D2; rintro e W2 ⟨rfl, h1⟩; have H2 := hideL h1; clear h1 H1; have x6 := H2.out.cells.2.2.2.2.2.2.1; have f6 := H2.out.free 6; have HS3 : Hid (Mc w0 (W2.setCell ⟨b, 6, none⟩ (.bool false)) b rc a0 R v y3) := hideL (by rw [HY3.out]; exact H2.out.setTs false)))
                        refine wp_label ?_
                        go_wp2_with (first
                          | (go_at_call 29; refine (D4.out _ HS3.out).mono ?_; clear D4; rintro e W4 ⟨rfl, h1⟩; have H4 := hideL h1; clear h1 HS3)
                          | (go_at_call 30; refine (D5.out _ H4.out).mono ?_; clear D5; rintro e W5 ⟨rfl, h1⟩; have H5 := hideL h1; clear h1 H4)
                          | (go_at_call 29; refine (D6.out _ H5.out).mono ?_; clear D6; rintro e W6 ⟨rfl, h1⟩; have H6 := hideL h1; clear h1 H5))
                        refine wp_label ?_
                        go_wp2_with (first
                          | (go_at_call 29; refine (D8.out _ H6.out).mono ?_; clear D8; rintro e W8 ⟨rfl, h1⟩; have H8 := hideL h1; clear h1 H6)
                          | (go_at_call 29; refine (D9.out _ H8.out).mono ?_; clear D9; rintro e W9 ⟨rfl, h1⟩; have H9 := hideL h1; clear h1 H8)
                          | (go_at_call 29; refine (D10.out _ H9.out).mono ?_; clear D10; rintro e W10 ⟨rfl, h1⟩; have H10 := hideL h1; clear h1 H9)
                          | (go_at_call 32; refine (D11.out _ H10.out).mono ?_; clear D11; rintro e W11 ⟨rfl, h1⟩; have H11 := hideL h1; clear h1 H10))
                        rw [jumpsL_ret]
                        go_ret
                        exact ⟨by rw [HZz.out]; rfl, _, by rw [HZz.out]; exact H11.out⟩
                    | false =>
                      obtain ⟨⟨B11, t11⟩, q11⟩ : ∃ x, tK R 3 t10 = x := ⟨_, rfl⟩
                      have D11 := hideL ((tks_take (w0 := w0) (b := b) (rc := rc) (a0 := a0) (R := R) 3 (by decide)).at' q11 v)
                      cases B11 with
                      | true =>
                        obtain ⟨⟨B12, t12⟩, q12⟩ : ∃ x, tSl R t11 = x := ⟨_, rfl⟩
                        have D12 := hideL ((tks_slop (w0 := w0) (b := b) (rc := rc) (a0 := a0) (R := R)).at' q12 v)
                        obtain ⟨hG13, hr13⟩ := e25c hG7 q8 q9 q10 q11 q12
                        have hr13 := Nat.lt_trans hr13 hr7
                        have HGz := hideL hG13
                        have HRz := hideL hr13
                        clear hG0 q1 q2 hG3 q4 q5 q6 hG7 q8 q9 q10 q11 q12 hG13 hr13
                        skip
                        go_wp2_with (first
                          | (go_at_call 29; refine (D1.out _ H0.out).mono ?_; clear D1; rintro e W1 ⟨rfl, h1⟩; have H1 := hideL h1; clear h1 H0)
                          | (go_at_call 29; refine (D2.out _ H1.out).mono ?_; clear D2; rintro e W2 ⟨rfl, h1⟩; have H2 := hideL h1; clear h1 H1; have x6 := H2.out.cells.2.2.2.2.2.2.1; have f6 := H2.out.free 6; have HS3 : Hid (Mc w0 (W2.setCell ⟨b, 6, none⟩ (.bool false)) b rc a0 R v y3) := hideL (by rw [HY3.out]; exact H2.out.setTs false)))
                        refine wp_label ?_
                        go_wp2_with (first
                          | (go_at_call 29; refine (D4.out _ HS3.out).mono ?_; clear D4; rintro e W4 ⟨rfl, h1⟩; have H4 := hideL h1; clear h1 HS3)
                          | (go_at_call 30; refine (D5.out _ H4.out).mono ?_; clear D5; rintro e W5 ⟨rfl, h1⟩; have H5 := hideL h1; clear h1 H4)
                          | (go_at_call 29; refine (D6.out _ H5.out).mono ?_; clear D6; rintro e W6 ⟨rfl, h1⟩; have H6 := hideL h1; clear h1 H5))
                        refine wp_label ?_
                        go_wp2_with (first
                          | (go_at_call 29; refine (D8.out _ H6.out).mono ?_; clear D8; rintro e W8 ⟨rfl, h1⟩; have H8 := hideL h1; clear h1 H6)
                          | (go_at_call 29; refine (D9.out _ H8.out).mono ?_; clear D9; rintro e W9 ⟨rfl, h1⟩; have H9 := hideL h1; clear h1 H8)
                          | (go_at_call 29; refine (D10.out _ H9.out).mono ?_; clear D10; rintro e W10 ⟨rfl, h1⟩; have H10 := hideL h1; clear h1 H9)
                          | (go_at_call 29; refine (D11.out _ H10.out).mono ?_; clear D11; rintro e W11 ⟨rfl, h1⟩; have H11 := hideL h1; clear h1 H10)
                          | (go_at_call 33; refine (D12.out _ H11.out).mono ?_; clear D12; rintro e W12 ⟨rfl, h1⟩; have H12 := hideL h1; clear h1 H11))
                        go_step3
                        exact jm_mk HRz.out (.inr (.inr (.inr (.inr (.inr ⟨rfl, _, _, HGz.out, H12.out, rfl⟩)))))
                      | false =>
                        obtain ⟨⟨B12, t12⟩, q12⟩ : ∃ x, tK R 1 t11 = x := ⟨_, rfl⟩
                        have D12 := hideL ((tks_take (w0 := w0) (b := b) (rc := rc) (a0 := a0) (R := R) 1 (by decide)).at' q12 v)
                        cases B12 with
                        | true =>
                          obtain ⟨⟨B13, t13⟩, q13⟩ : ∃ x, tEd R t12 = x := ⟨_, rfl⟩
                          have D13 := hideL ((tks_edits (w0 := w0) (b := b) (rc := rc) (a0 := a0) (R := R)).at' q13 v)
                          obtain ⟨hG14, hr14⟩ := e25d hG7 q8 q9 q10 q11 q12 q13
                          have hr14 := Nat.lt_trans hr14 hr7
                          have HGz := hideL hG14
                          have HRz := hideL hr14
                          clear hG0 q1 q2 hG3 q4 q5 q6 hG7 q8 q9 q10 q11 q12 q13 hG14 hr14
                          skip
                          go_wp2_with (first
                            | (go_at_call 29; refine (D1.out _ H0.out).mono ?_; clear D1; rintro e W1 ⟨rfl, h1⟩; have H1 := hideL h1; clear h1 H0)
                            | (go_at_call 29; refine (D2.out _ H1.out).mono ?_; clear D2; rintro e W2 ⟨rfl, h1⟩; have H2 := hideL h1; clear h1 H1; have x6 := H2.out.cells.2.2.2.2.2.2.1; have f6 := H2.out.free 6; have HS3 : Hid (Mc w0 (W2.setCell ⟨b, 6, none⟩ (.bool false)) b rc a0 R v y3) := hideL (by rw [HY3.out]; exact H2.out.setTs false)))
                          refine wp_label ?_
                          go_wp2_with (first
                            | (go_at_call 29; refine (D4.out _ HS3.out).mono ?_; clear D4; rintro e W4 ⟨rfl, h1⟩; have H4 := hideL h1; clear h1 HS3)
                            | (go_at_call 30; refine (D5.out _ H4.out).mono ?_; clear D5; rintro e W5 ⟨rfl, h1⟩; have H5 := hideL h1; clear h1 H4)
                            | (go_at_call 29; refine (D6.out _ H5.out).mono ?_; clear D6; rintro e W6 ⟨rfl, h1⟩; have H6 := hideL h1; clear h1 H5))
                          refine wp_label ?_
                          go_wp2_with (first
                            | (go_at_call 29; refine (D8.out _ H6.out).mono ?_; clear D8; rintro e W8 ⟨rfl, h1⟩; have H8 := hideL h1; clear h1 H6)
                            | (go_at_call 29; refine (D9.out _ H8.out).mono ?_; clear D9; rintro e W9 ⟨rfl, h1⟩; have H9 := hideL h1; clear h1 H8)
                            | (go_at_call 29; refine (D10.out _ H9.out).mono ?_; clear D10; rintro e W10 ⟨rfl, h1⟩; have H10 := hideL h1; clear h1 H9)
                            | (go_at_call 29; refine (D11.out _ H10.out).mono ?_; clear D11; rintro e W11 ⟨rfl, h1⟩; have H11 := hideL h1; clear h1 H10)
                            | (go_at_call 29; refine (D12.out _ H11.out).mono ?_; clear D12; rintro e W12 ⟨rfl, h1⟩; have H12 := hideL h1; clear h1 H11)
                            | (go_at_call 34; refine (D13.out _ H12.out).mono ?_; clear D13; rintro e W13 ⟨rfl, h1⟩; have H13 := hideL h1; clear h1 H12))
                          go_step3
                          exact jm_mk HRz.out (.inr (.inr (.inr (.inr (.inr ⟨rfl, _, _, HGz.out, H13.out, rfl⟩)))))
                        | false =>
                          obtain ⟨⟨B13, t13⟩, q13⟩ : ∃ x, tK R 2 t12 = x := ⟨_, rfl⟩
                          have D13 := hideL ((tks_take (w0 := w0) (b := b) (rc := rc) (a0 := a0) (R := R) 2 (by decide)).at' q13 v)
                          cases B13 with
                          | true =>
                            obtain ⟨hG14, hr14⟩ := e25e hG7 q8 q9 q10 q11 q12 q13
                            have hr14 := Nat.lt_trans hr14 hr7
                            have HGz := hideL hG14
                            have HRz := hideL hr14
                            clear hG0 q1 q2 hG3 q4 q5 q6 hG7 q8 q9 q10 q11 q12 q13 hG14 hr14
                            skip
                            go_wp2_with (first
                              | (go_at_call 29; refine (D1.out _ H0.out).mono ?_; clear D1; rintro e W1 ⟨rfl, h1⟩; have H1 := hideL h1; clear h1 H0)
                              | (go_at_call 29; refine (D2.out _ H1.out).mono ?_; clear D2; rintro e W2 ⟨rfl, h1⟩; have H2 := hideL h1; clear h1 H1; have x6 := H2.out.cells.2.2.2.2.2.2.1; have f6 := H2.out.free 6; have HS3 : Hid (Mc w0 (W2.setCell ⟨b, 6, none⟩ (.bool false)) b rc a0 R v y3) := hideL (by rw [HY3.out]; exact H2.out.setTs false)))
                            refine wp_label ?_
                            go_wp2_with (first
                              | (go_at_call 29; refine (D4.out _ HS3.out).mono ?_; clear D4; rintro e W4 ⟨rfl, h1⟩; have H4 := hideL h1; clear h1 HS3)
                              | (go_at_call 30; refine (D5.out _ H4.out).mono ?_; clear D5; rintro e W5 ⟨rfl, h1⟩; have H5 := hideL h1; clear h1 H4)
                              | (go_at_call 29; refine (D6.out _ H5.out).mono ?_; clear D6; rintro e W6 ⟨rfl, h1⟩; have H6 := hideL h1; clear h1 H5))
                            refine wp_label ?_
                            go_wp2_with (first
                              | (go_at_call 29; refine (D8.out _ H6.out).mono ?_; clear D8; rintro e W8 ⟨rfl, h1⟩; have H8 := hideL h1; clear h1 H6)
                              | (go_at_call 29; refine (D9.out _ H8.out).mono ?_; clear D9; rintro e W9 ⟨rfl, h1⟩; have H9 := hideL h1; clear h1 H8)
                              | (go_at_call 29; refine (D10.out _ H9.out).mono ?_; clear D10; rintro e W10 ⟨rfl, h1⟩; have H10 := hideL h1; clear h1 H9)
                              | (go_at_call 29; refine (D11.out _ H10.out).mono ?_; clear D11; rintro e W11 ⟨rfl, h1⟩; have H11 := hideL h1; clear h1 H10)
                              | (go_at_call 29; refine (D12.out _ H11.out).mono ?_; clear D12; rintro e W12 ⟨rfl, h1⟩; have H12 := hideL h1; clear h1 H11)
                              | (go_at_call 29; refine (D13.out _ H12.out).mono ?_; clear D13; rintro e W13 ⟨rfl, h1⟩; have H13 := hideL h1; clear h1 H12))
                            go_step3
                            exact jm_mk HRz.out (.inr (.inr (.inr (.inr (.inr ⟨rfl, _, _, HGz.out, H13.out, rfl⟩)))))
                          | false =>
                            have HZz := hideL (r2c hG7 q8 q9 q10 q11 q12 q13)
                            clear hG0 q1 q2 hG3 q4 q5 q6 hG7 q8 q9 q10 q11 q12 q13 hr7
                            skip
                            go_wp2_with (first
                              | (go_at_call 29; refine (D1.out _ H0.out).mono ?_; clear D1; rintro e W1 ⟨rfl, h1⟩; have H1 := hideL h1; clear h1 H0)
                              | (go_at_call 29; refine (D2.out _ H1.out).mono ?_; clear D2; rintro e W2 ⟨rfl, h1⟩; have H2 := hideL h1; clear h1 H1; have x6 := H2.out.cells.2.2.2.2.2.2.1; have f6 := H2.out.free 6; have HS3 : Hid (Mc w0 (W2.setCell ⟨b, 6, none⟩ (.bool false)) b rc a0 R v y3) := hideL (by rw [HY3.out]; exact H2.out.setTs false)))
                            refine wp_label ?_
                            go_wp2_with (first
                              | (go_at_call 29; refine (D4.out _ HS3.out).mono ?_; clear D4; rintro e W4 ⟨rfl, h1⟩; have H4 := hideL h1; clear h1 HS3)
                              | (go_at_call 30; refine (D5.out _ H4.out).mono ?_; clear D5; rintro e W5 ⟨rfl, h1⟩; have H5 := hideL h1; clear h1 H4)
                              | (go_at_call 29; refine (D6.out _ H5.out).mono ?_; clear D6; rintro e W6 ⟨rfl, h1⟩; have H6 := hideL h1; clear h1 H5))
                            refine wp_label ?_
                            go_wp2_with (first
                              | (go_at_call 29; refine (D8.out _ H6.out).mono ?_; clear D8; rintro e W8 ⟨rfl, h1⟩; have H8 := hideL h1; clear h1 H6)
                              | (go_at_call 29; refine (D9.out _ H8.out).mono ?_; clear D9; rintro e W9 ⟨rfl, h1⟩; have H9 := hideL h1; clear h1 H8)
                              | (go_at_call 29; refine (D10.out _ H9.out).mono ?_; clear D10; rintro e W10 ⟨rfl, h1⟩; have H10 := hideL h1; clear h1 H9)
                              | (go_at_call 29; refine (D11.out _ H10.out).mono ?_; clear D11; rintro e W11 ⟨rfl, h1⟩; have H11 := hideL h1; clear h1 H10)
                              | (go_at_call 29; refine (D12.out _ H11.out).mono ?_; clear D12; rintro e W12 ⟨rfl, h1⟩; have H12 := hideL h1; clear h1 H11)
                              | (go_at_call 29; refine (D13.out _ H12.out).mono ?_; clear D13; rintro e W13 ⟨rfl, h1⟩; have H13 := hideL h1; clear h1 H12))
                            rw [jumpsL_ret]
                            go_ret
                            exact ⟨by rw [HZz.out]; rfl, _, by rw [HZz.out]; exact H13.out⟩
    · refine ⟨_, rfl, ?_⟩
      obtain ⟨v, s, hG0, hM, rfl⟩ := hS
      have H0 := hideL hM
      clear hM
      obtain ⟨⟨B1, t1⟩, q1⟩ : ∃ x, tK R 6 s = x := ⟨_, rfl⟩
      have D1 := hideL ((tks_take (w0 := w0) (b := b) (rc := rc) (a0 := a0) (R := R) 6 (by decide)).at' q1 v)
      cases B1 with
      | true =>
        have bt := not_bound hG0 q1 hR
        obtain ⟨hG2, hr2⟩ := e11 hG0 q1
        obtain ⟨y2, hy2⟩ : ∃ y, y = { t1 with top := { t1.top with t := t1.top.t + 1 } } := ⟨_, rfl⟩
        rw [← hy2] at hG2 hr2
        have HY2 := hideL hy2
        clear hy2
        have HGz := hideL hG2
        have HRz := hideL hr2
        clear hG0 q1 hG2 hr2
        skip
        go_wp2_with (first
          | (go_at_call 29; refine (D1.out _ H0.out).mono ?_; clear D1; rintro e W1 ⟨rfl, h1⟩; have H1 := hideL h1; clear h1 H0; have x5 := H1.out.cells.2.2.2.2.2.1; have f5 := H1.out.free 5))
        have HF : Hid (Mc w0 (W1.setCell ⟨b, 5, none⟩ (.int .i64 ((t1.top.t : Int) + 1))) b rc a0 R v y2) := hideL (by rw [HY2.out]; exact H1.out.setTt (t1.top.t + 1) _ (by omega))
        go_step3
        exact jm_mk HRz.out (.inr (.inl ⟨rfl, _, _, HGz.out, HF.out, rfl⟩))
      | false =>
        obtain ⟨⟨B2, t2⟩, q2⟩ : ∃ x, tSt R t1 = x := ⟨_, rfl⟩
        have D2 := hideL ((tks_star (w0 := w0) (b := b) (rc := rc) (a0 := a0) (R := R)).at' q2 v)
        cases B2 with
        | true =>
          obtain ⟨hG3, hr3⟩ := e13 hG0 q1 q2
          have HGz := hideL hG3
          have HRz := hideL hr3
          clear hG0 q1 q2 hG3 hr3
          skip
          go_wp2_with (first
            | (go_at_call 29; refine (D1.out _ H0.out).mono ?_; clear D1; rintro e W1 ⟨rfl, h1⟩; have H1 := hideL h1; clear h1 H0)
            | (go_at_call 30; refine (D2.out _ H1.out).mono ?_; clear D2; rintro e W2 ⟨rfl, h1⟩; have H2 := hideL h1; clear h1 H1))
          go_step3
          exact jm_mk HRz.out (.inr (.inr (.inl ⟨rfl, _, _, HGz.out, H2.out, rfl⟩)))
        | false =>
          obtain ⟨⟨B3, t3⟩, q3⟩ : ∃ x, tK R 1 t2 = x := ⟨_, rfl⟩
          have D3 := hideL ((tks_take (w0 := w0) (b := b) (rc := rc) (a0 := a0) (R := R) 1 (by decide)).at' q3 v)
          cases B3 with
          | true =>
            obtain ⟨hG4, hr4⟩ := e14 hG0 q1 q2 q3
            have HGz := hideL hG4
            have HRz := hideL hr4
            clear hG0 q1 q2 q3 hG4 hr4
            skip
            go_wp2_with (first
              | (go_at_call 29; refine (D1.out _ H0.out).mono ?_; clear D1; rintro e W1 ⟨rfl, h1⟩; have H1 := hideL h1; clear h1 H0)
              | (go_at_call 30; refine (D2.out _ H1.out).mono ?_; clear D2; rintro e W2 ⟨rfl, h1⟩; have H2 := hideL h1; clear h1 H1)
              | (go_at_call 29; refine (D3.out _ H2.out).mono ?_; clear D3; rintro e W3 ⟨rfl, h1⟩; have H3 := hideL h1; clear h1 H2))
            go_step3
            exact jm_mk HRz.out (.inr (.inr (.inr (.inl ⟨rfl, _, _, HGz.out, H3.out, rfl⟩))))
          | false =>
            obtain ⟨hG4, hr4⟩ := e12 hG0 q1 q2 q3
            obtain ⟨⟨B5, t5⟩, q5⟩ : ∃ x, tK R 8 t3 = x := ⟨_, rfl⟩
            have D5 := hideL ((tks_take (w0 := w0) (b := b) (rc := rc) (a0 := a0) (R := R) 8 (by decide)).at' q5 v)
            cases B5 with
            | true =>
              obtain ⟨hG6, hr6⟩ := e20 hG4 q5
              have hr6 := Nat.lt_trans hr6 hr4
              obtain ⟨y6, hy6⟩ : ∃ y, y = t5.open' := ⟨_, rfl⟩
              rw [← hy6] at hG6 hr6
              have HY6 := hideL hy6
              clear hy6
              have CO := hideL (fun W (hW : Mc w0 W b rc a0 R v t5) => open_go hW (Goo_ok8 hG4 q5))
              have HGz := hideL hG6
              have HRz := hideL hr6
              clear hG0 q1 q2 q3 hG4 q5 hG6 hr6
              skip
              go_wp2_with (first
                | (go_at_call 29; refine (D1.out _ H0.out).mono ?_; clear D1; rintro e W1 ⟨rfl, h1⟩; have H1 := hideL h1; clear h1 H0)
                | (go_at_call 30; refine (D2.out _ H1.out).mono ?_; clear D2; rintro e W2 ⟨rfl, h1⟩; have H2 := hideL h1; clear h1 H1)
                | (go_at_call 29; refine (D3.out _ H2.out).mono ?_; clear D3; rintro e W3 ⟨rfl, h1⟩; have H3 := hideL h1; clear h1 H2))
              refine wp_label ?_
              go_wp2_with (first
                | (go_at_call 29; refine (D5.out _ H3.out).mono ?_; clear D5; rintro e W5 ⟨rfl, h1⟩; have H5 := hideL h1; clear h1 H3)
                | (go_at_call 31; refine (CO.out _ H5.out).mono ?_; clear CO; rintro e WO ⟨rfl, v2, h1⟩; have HF : Hid (Mc w0 WO b rc a0 R v2 y6) := hideL (by rw [HY6.out]; exact h1); clear h1 H5))
              go_step3
              exact jm_mk HRz.out (.inl ⟨rfl, _, _, HGz.out, HF.out, rfl⟩)
            | false =>
              obtain ⟨⟨B6, t6⟩, q6⟩ : ∃ x, tK R 10 t5 = x := ⟨_, rfl⟩
              have D6 := hideL ((tks_take (w0 := w0) (b := b) (rc := rc) (a0 := a0) (R := R) 10 (by decide)).at' q6 v)
              cases B6 with
              | true =>
                obtain ⟨⟨B7, t7⟩, q7⟩ : ∃ x, tSides R t6 = x := ⟨_, rfl⟩
                have D7 := hideL ((tks_takeSides (w0 := w0) (b := b) (rc := rc) (a0 := a0) (R := R)).at' q7 v)
                cases B7 with
                | true =>
                  obtain ⟨hG8, hr8⟩ := e25a hG4 q5 q6 q7
                  have hr8 := Nat.lt_trans hr8 hr4
                  have HGz := hideL hG8
                  have HRz := hideL hr8
                  clear hG0 q1 q2 q3 hG4 q5 q6 q7 hG8 hr8
                  skip
                  go_wp2_with (first
                    | (go_at_call 29; refine (D1.out _ H0.out).mono ?_; clear D1; rintro e W1 ⟨rfl, h1⟩; have H1 := hideL h1; clear h1 H0)
                    | (go_at_call 30; refine (D2.out _ H1.out).mono ?_; clear D2; rintro e W2 ⟨rfl, h1⟩; have H2 := hideL h1; clear h1 H1)
                    | (go_at_call 29; refine (D3.out _ H2.out).mono ?_; clear D3; rintro e W3 ⟨rfl, h1⟩; have H3 := hideL h1; clear h1 H2))
                  refine wp_label ?_
                  go_wp2_with (first
                    | (go_at_call 29; refine (D5.out _ H3.out).mono ?_; clear D5; rintro e W5 ⟨rfl, h1⟩; have H5 := hideL h1; clear h1 H3)
                    | (go_at_call 29; refine (D6.out _ H5.out).mono ?_; clear D6; rintro e W6 ⟨rfl, h1⟩; have H6 := hideL h1; clear h1 H5)
                    | (go_at_call 32; refine (D7.out _ H6.out).mono ?_; clear D7; rintro e W7 ⟨rfl, h1⟩; have H7 := hideL h1; clear h1 H6))
                  go_step3
                  exact jm_mk HRz.out (.inr (.inr (.inr (.inr (.inr ⟨rfl, _, _, HGz.out, H7.out, rfl⟩)))))
                | false =>
                  have HZz := hideL (r2a hG4 q5 q6 q7)
                  clear hG0 q1 q2 q3 hG4 q5 q6 q7 hr4
                  skip
                  go_wp2_with (first
                    | (go_at_call 29; refine (D1.out _ H0.out).mono ?_; clear D1; rintro e W1 ⟨rfl, h1⟩; have H1 := hideL h1; clear h1 H0)
                    | (go_at_call 30; refine (D2.out _ H1.out).mono ?_; clear D2; rintro e W2 ⟨rfl, h1⟩; have H2 := hideL h1; clear h1 H1)
                    | (go_at_call 29; refine (D3.out _ H2.out).mono ?_; clear D3; rintro e W3 ⟨rfl, h1⟩; have H3 := hideL h1; clear h1 H2))
                  refine wp_label ?_
                  go_wp2_with (first
                    | (go_at_call 29; refine (D5.out _ H3.out).mono ?_; clear D5; rintro e W5 ⟨rfl, h1⟩; have H5 := hideL h1; clear h1 H3)
                    | (go_at_call 29; refine (D6.out _ H5.out).mono ?_; clear D6; rintro e W6 ⟨rfl, h1⟩; have H6 := hideL h1; clear h1 H5)
                    | (go_at_call 32; refine (D7.out _ H6.out).mono ?_; clear D7; rintro e W7 ⟨rfl, h1⟩; have H7 := hideL h1; clear h1 H6))
                  rw [jumpsL_ret]
                  go_ret
                  exact ⟨by rw [HZz.out]; rfl, _, by rw [HZz.out]; exact H7.out⟩
              | false =>
                obtain ⟨⟨B7, t7⟩, q7⟩ : ∃ x, tK R 12 t6 = x := ⟨_, rfl⟩
                have D7 := hideL ((tks_take (w0 := w0) (b := b) (rc := rc) (a0 := a0) (R := R) 12 (by decide)).at' q7 v)
                cases B7 with
                | true =>
                  obtain ⟨⟨B8, t8⟩, q8⟩ : ∃ x, tSides R t7 = x := ⟨_, rfl⟩
                  have D8 := hideL ((tks_takeSides (w0 := w0) (b := b) (rc := rc) (a0 := a0) (R := R)).at' q8 v)
                  cases B8 with
                  | true =>
                    obtain ⟨hG9, hr9⟩ := e25b hG4 q5 q6 q7 q8
                    have hr9 := Nat.lt_trans hr9 hr4
                    have HGz := hideL hG9
                    have HRz := hideL hr9
                    clear hG0 q1 q2 q3 hG4 q5 q6 q7 q8 hG9 hr9
                    skip
                    go_wp2_with (first
                      | (go_at_call 29; refine (D1.out _ H0.out).mono ?_; clear D1; rintro e W1 ⟨rfl, h1⟩; have H1 := hideL h1; clear h1 H0)
                      | (go_at_call 30; refine (D2.out _ H1.out).mono ?_; clear D2; rintro e W2 ⟨rfl, h1⟩; have H2 := hideL h1; clear h1 H1)
                      | (go_at_call 29; refine (D3.out _ H2.out).mono ?_; clear D3; rintro e W3 ⟨rfl, h1⟩; have H3 := hideL h1; clear h1 H2))
                    refine wp_label ?_
                    go_wp2_with (first
                      | (go_at_call 29; refine (D5.out _ H3.out).mono ?_; clear D5; rintro e W5 ⟨rfl, h1⟩; have H5 := hideL h1; clear h1 H3)
                      | (go_at_call 29; refine (D6.out _ H5.out).mono ?_; clear D6; rintro e W6 ⟨rfl, h1⟩; have H6 := hideL h1; clear h1 H5)
                      | (go_at_call 29; refine (D7.out _ H6.out).mono ?_; clear D7; rintro e W7 ⟨rfl, h1⟩; have H7 := hideL h1; clear h1 H6)
                      | (go_at_call 32; refine (D8.out _ H7.out).mono ?_; clear D8; rintro e W8 ⟨rfl, h1⟩; have H8 := hideL h1; clear h1 H7))
                    go_step3
                    exact jm_mk HRz.out (.inr (.inr (.inr (.inr (.inr ⟨rfl, _, _, HGz.out, H8.out, rfl⟩)))))
                  | false =>
                    have HZz := hideL (r2b hG4 q5 q6 q7 q8)
                    clear hG0 q1 q2 q3 hG4 q5 q6 q7 q8 hr4
                    skip
                    go_wp2_with (first
                      | (go_at_call 29; refine (D1.out _ H0.out).mono ?_; clear D1; rintro e W1 ⟨rfl, h1⟩; have H1 := hideL h1; clear h1 H0)
                      | (go_at_call 30; refine (D2.out _ H1.out).mono ?_; clear D2; rintro e W2 ⟨rfl, h1⟩; have H2 := hideL h1; clear h1 H1)
                      | (go_at_call 29; refine (D3.out _ H2.out).mono ?_; clear D3; rintro e W3 ⟨rfl, h1⟩; have H3 := hideL h1; clear h1 H2))
                    refine wp_label ?_
                    go_wp2_with (first
                      | (go_at_call 29; refine (D5.out _ H3.out).mono ?_; clear D5; rintro e W5 ⟨rfl, h1⟩; have H5 := hideL h1; clear h1 H3)
                      | (go_at_call 29; refine (D6.out _ H5.out).mono ?_; clear D6; rintro e W6 ⟨rfl, h1⟩; have H6 := hideL h1; clear h1 H5)
                      | (go_at_call 29; refine (D7.out _ H6.out).mono ?_; clear D7; rintro e W7 ⟨rfl, h1⟩; have H7 := hideL h1; clear h1 H6)
                      | (go_at_call 32; refine (D8.out _ H7.out).mono ?_; clear D8; rintro e W8 ⟨rfl, h1⟩; have H8 := hideL h1; clear h1 H7))
                    rw [jumpsL_ret]
                    go_ret
                    exact ⟨by rw [HZz.out]; rfl, _, by rw [HZz.out]; exact H8.out⟩
                | false =>
                  obtain ⟨⟨B8, t8⟩, q8⟩ : ∃ x, tK R 3 t7 = x := ⟨_, rfl⟩
                  have D8 := hideL ((tks_take (w0 := w0) (b := b) (rc := rc) (a0 := a0) (R := R) 3 (by decide)).at' q8 v)
                  cases B8 with
                  | true =>
                    obtain ⟨⟨B9, t9⟩, q9⟩ : ∃ x, tSl R t8 = x := ⟨_, rfl⟩
                    have D9 := hideL ((tks_slop (w0 := w0) (b := b) (rc := rc) (a0 := a0) (R := R)).at' q9 v)
                    obtain ⟨hG10, hr10⟩ := e25c hG4 q5 q6 q7 q8 q9
                    have hr10 := Nat.lt_trans hr10 hr4
                    have HGz := hideL hG10
                    have HRz := hideL hr10
                    clear hG0 q1 q2 q3 hG4 q5 q6 q7 q8 q9 hG10 hr10
                    skip
                    go_wp2_with (first
                      | (go_at_call 29; refine (D1.out _ H0.out).mono ?_; clear D1; rintro e W1 ⟨rfl, h1⟩; have H1 := hideL h1; clear h1 H0)
                      | (go_at_call 30; refine (D2.out _ H1.out).mono ?_; clear D2; rintro e W2 ⟨rfl, h1⟩; have H2 := hideL h1; clear h1 H1)
                      | (go_at_call 29; refine (D3.out _ H2.out).mono ?_; clear D3; rintro e W3 ⟨rfl, h1⟩; have H3 := hideL h1; clear h1 H2))
                    refine wp_label ?_
                    go_wp2_with (first
                      | (go_at_call 29; refine (D5.out _ H3.out).mono ?_; clear D5; rintro e W5 ⟨rfl, h1⟩; have H5 := hideL h1; clear h1 H3)
                      | (go_at_call 29; refine (D6.out _ H5.out).mono ?_; clear D6; rintro e W6 ⟨rfl, h1⟩; have H6 := hideL h1; clear h1 H5)
                      | (go_at_call 29; refine (D7.out _ H6.out).mono ?_; clear D7; rintro e W7 ⟨rfl, h1⟩; have H7 := hideL h1; clear h1 H6)
                      | (go_at_call 29; refine (D8.out _ H7.out).mono ?_; clear D8; rintro e W8 ⟨rfl, h1⟩; have H8 := hideL h1; clear h1 H7)
                      | (go_at_call 33; refine (D9.out _ H8.out).mono ?_; clear D9; rintro e W9 ⟨rfl, h1⟩; have H9 := hideL h1; clear h1 H8))
                    go_step3
                    exact jm_mk HRz.out (.inr (.inr (.inr (.inr (.inr ⟨rfl, _, _, HGz.out, H9.out, rfl⟩)))))
                  | false =>
                    obtain ⟨⟨B9, t9⟩, q9⟩ : ∃ x, tK R 1 t8 = x := ⟨_, rfl⟩
                    have D9 := hideL ((tks_take (w0 := w0) (b := b) (rc := rc) (a0 := a0) (R := R) 1 (by decide)).at' q9 v)
                    cases B9 with
                    | true =>
                      obtain ⟨⟨B10, t10⟩, q10⟩ : ∃ x, tEd R t9 = x := ⟨_, rfl⟩
                      have D10 := hideL ((tks_edits (w0 := w0) (b := b) (rc := rc) (a0 := a0) (R := R)).at' q10 v)
                      obtain ⟨hG11, hr11⟩ := e25d hG4 q5 q6 q7 q8 q9 q10
                      have hr11 := Nat.lt_trans hr11 hr4
                      have HGz := hideL hG11
                      have HRz := hideL hr11
                      clear hG0 q1 q2 q3 hG4 q5 q6 q7 q8 q9 q10 hG11 hr11
                      skip
                      go_wp2_with (first
                        | (go_at_call 29; refine (D1.out _ H0.out).mono ?_; clear D1; rintro e W1 ⟨rfl, h1⟩; have H1 := hideL h1; clear h1 H0)
                        | (go_at_call 30; refine (D2.out _ H1.out).mono ?_; clear D2; rintro e W2 ⟨rfl, h1⟩; have H2 := hideL h1; clear h1 H1)
                        | (go_at_call 29; refine (D3.out _ H2.out).mono ?_; clear D3; rintro e W3 ⟨rfl, h1⟩; have H3 := hideL h1; clear h1 H2))
                      refine wp_label ?_
                      go_wp2_with (first
                        | (go_at_call 29; refine (D5.out _ H3.out).mono ?_; clear D5; rintro e W5 ⟨rfl, h1⟩; have H5 := hideL h1; clear h1 H3)
                        | (go_at_call 29; refine (D6.out _ H5.out).mono ?_; clear D6; rintro e W6 ⟨rfl, h1⟩; have H6 := hideL h1; clear h1 H5)
                        | (go_at_call 29; refine (D7.out _ H6.out).mono ?_; clear D7; rintro e W7 ⟨rfl, h1⟩; have H7 := hideL h1; clear h1 H6)
                        | (go_at_call 29; refine (D8.out _ H7.out).mono ?_; clear D8; rintro e W8 ⟨rfl, h1⟩; have H8 := hideL h1; clear h1 H7)
                        | (go_at_call 29; refine (D9.out _ H8.out).mono ?_; clear D9; rintro e W9 ⟨rfl, h1⟩; have H9 := hideL h1; clear h1 H8)
                        | (go_at_call 34; refine (D10.out _ H9.out).mono ?_; clear D10; rintro e W10 ⟨rfl, h1⟩; have H10 := hideL h1; clear h1 H9))
                      go_step3
                      exact jm_mk HRz.out (.inr (.inr (.inr (.inr (.inr ⟨rfl, _, _, HGz.out, H10.out, rfl⟩)))))
                    | false =>
                      obtain ⟨⟨B10, t10⟩, q10⟩ : ∃ x, tK R 2 t9 = x := ⟨_, rfl⟩
                      have D10 := hideL ((tks_take (w0 := w0) (b := b) (rc := rc) (a0 := a0) (R := R) 2 (by decide)).at' q10 v)
                      cases B10 with
                      | true =>
                        obtain ⟨hG11, hr11⟩ := e25e hG4 q5 q6 q7 q8 q9 q10
                        have hr11 := Nat.lt_trans hr11 hr4
                        have HGz := hideL hG11
                        have HRz := hideL hr11
                        clear hG0 q1 q2 q3 hG4 q5 q6 q7 q8 q9 q10 hG11 hr11
                        skip
                        go_wp2_with (first
                          | (go_at_call 29; refine (D1.out _ H0.out).mono ?_; clear D1; rintro e W1 ⟨rfl, h1⟩; have H1 := hideL h1; clear h1 H0)
                          | (go_at_call 30; refine (D2.out _ H1.out).mono ?_; clear D2; rintro e W2 ⟨rfl, h1⟩; have H2 := hideL h1; clear h1 H1)
                          | (go_at_call 29; refine (D3.out _ H2.out).mono ?_; clear D3; rintro e W3 ⟨rfl, h1⟩; have H3 := hideL h1; clear h1 H2))
                        refine wp_label ?_
                        go_wp2_with (first
                          | (go_at_call 29; refine (D5.out _ H3.out).mono ?_; clear D5; rintro e W5 ⟨rfl, h1⟩; have H5 := hideL h1; clear h1 H3)
                          | (go_at_call 29; refine (D6.out _ H5.out).mono ?_; clear D6; rintro e W6 ⟨rfl, h1⟩; have H6 := hideL h1; clear h1 H5)
                          | (go_at_call 29; refine (D7.out _ H6.out).mono ?_; clear D7; rintro e W7 ⟨rfl, h1⟩; have H7 := hideL h1; clear h1 H6)
                          | (go_at_call 29; refine (D8.out _ H7.out).mono ?_; clear D8; rintro e W8 ⟨rfl, h1⟩; have H8 := hideL h1; clear h1 H7)
                          | (go_at_call 29; refine (D9.out _ H8.out).mono ?_; clear D9; rintro e W9 ⟨rfl, h1⟩; have H9 := hideL h1; clear h1 H8)
                          | (go_at_call 29; refine (D10.out _ H9.out).mono ?_; clear D10; rintro e W10 ⟨rfl, h1⟩; have H10 := hideL h1; clear h1 H9))
                        go_step3
                        exact jm_mk HRz.out (.inr (.inr (.inr (.inr (.inr ⟨rfl, _, _, HGz.out, H10.out, rfl⟩)))))
                      | false =>
                        have HZz := hideL (r2c hG4 q5 q6 q7 q8 q9 q10)
                        clear hG0 q1 q2 q3 hG4 q5 q6 q7 q8 q9 q10 hr4
                        skip
                        go_wp2_with (first
                          | (go_at_call 29; refine (D1.out _ H0.out).mono ?_; clear D1; rintro e W1 ⟨rfl, h1⟩; have H1 := hideL h1; clear h1 H0)
                          | (go_at_call 30; refine (D2.out _ H1.out).mono ?_; clear D2; rintro e W2 ⟨rfl, h1⟩; have H2 := hideL h1; clear h1 H1)
                          | (go_at_call 29; refine (D3.out _ H2.out).mono ?_; clear D3; rintro e W3 ⟨rfl, h1⟩; have H3 := hideL h1; clear h1 H2))
                        refine wp_label ?_
                        go_wp2_with (first
                          | (go_at_call 29; refine (D5.out _ H3.out).mono ?_; clear D5; rintro e W5 ⟨rfl, h1⟩; have H5 := hideL h1; clear h1 H3)
                          | (go_at_call 29; refine (D6.out _ H5.out).mono ?_; clear D6; rintro e W6 ⟨rfl, h1⟩; have H6 := hideL h1; clear h1 H5)
                          | (go_at_call 29; refine (D7.out _ H6.out).mono ?_; clear D7; rintro e W7 ⟨rfl, h1⟩; have H7 := hideL h1; clear h1 H6)
                          | (go_at_call 29; refine (D8.out _ H7.out).mono ?_; clear D8; rintro e W8 ⟨rfl, h1⟩; have H8 := hideL h1; clear h1 H7)
                          | (go_at_call 29; refine (D9.out _ H8.out).mono ?_; clear D9; rintro e W9 ⟨rfl, h1⟩; have H9 := hideL h1; clear h1 H8)
                          | (go_at_call 29; refine (D10.out _ H9.out).mono ?_; clear D10; rintro e W10 ⟨rfl, h1⟩; have H10 := hideL h1; clear h1 H9))
                        rw [jumpsL_ret]
                        go_ret
                        exact ⟨by rw [HZz.out]; rfl, _, by rw [HZz.out]; exact H10.out⟩
    · refine ⟨_, rfl, ?_⟩
      obtain ⟨v, s, hG0, hM, rfl⟩ := hS
      have H0 := hideL hM
      clear hM
      obtain ⟨⟨B1, t1⟩, q1⟩ : ∃ x, tK R 14 s = x := ⟨_, rfl⟩
      have D1 := hideL ((tks_take (w0 := w0) (b := b) (rc := rc) (a0 := a0) (R := R) 14 (by decide)).at' q1 v)
      cases B1 with
      | true =>
        obtain ⟨⟨B2, t2⟩, q2⟩ : ∃ x, tSt R t1 = x := ⟨_, rfl⟩
        have D2 := hideL ((tks_star (w0 := w0) (b := b) (rc := rc) (a0 := a0) (R := R)).at' q2 v)
        cases B2 with
        | true =>
          obtain ⟨hG3, hr3⟩ := e35a hG0 q1 q2
          have HGz := hideL hG3
          have HRz := hideL hr3
          clear hG0 q1 q2 hG3 hr3
          skip
          go_wp2_with (first
            | (go_at_call 29; refine (D1.out _ H0.out).mono ?_; clear D1; rintro e W1 ⟨rfl, h1⟩; have H1 := hideL h1; clear h1 H0)
            | (go_at_call 30; refine (D2.out _ H1.out).mono ?_; clear D2; rintro e W2 ⟨rfl, h1⟩; have H2 := hideL h1; clear h1 H1))
          go_step3
          exact jm_mk HRz.out (.inr (.inr (.inr (.inr (.inr ⟨rfl, _, _, HGz.out, H2.out, rfl⟩)))))
        | false =>
          have HZz := hideL (r3 hG0 q1 q2)
          clear hG0 q1 q2
          skip
          go_wp2_with (first
            | (go_at_call 29; refine (D1.out _ H0.out).mono ?_; clear D1; rintro e W1 ⟨rfl, h1⟩; have H1 := hideL h1; clear h1 H0)
            | (go_at_call 30; refine (D2.out _ H1.out).mono ?_; clear D2; rintro e W2 ⟨rfl, h1⟩; have H2 := hideL h1; clear h1 H1))
          rw [jumpsL_ret]
          go_ret
          exact ⟨by rw [HZz.out]; rfl, _, by rw [HZz.out]; exact H2.out⟩
      | false =>
        obtain ⟨hG2, hr2⟩ := e35b hG0 q1
        have HGz := hideL hG2
        have HRz := hideL hr2
        clear hG0 q1 hG2 hr2
        skip
        go_wp2_with (first
          | (go_at_call 29; refine (D1.out _ H0.out).mono ?_; clear D1; rintro e W1 ⟨rfl, h1⟩; have H1 := hideL h1; clear h1 H0))
        go_step3
        exact jm_mk HRz.out (.inr (.inr (.inr (.inr (.inr ⟨rfl, _, _, HGz.out, H1.out, rfl⟩)))))
    · refine ⟨_, rfl, ?_⟩
      obtain ⟨v, s, hG0, hM, rfl⟩ := hS
      obtain ⟨n1, a1, c1, hn1, rfl⟩ := mc_shape hM
      have H0 := hideL hM
      clear hM
      obtain ⟨⟨B1, t1⟩, q1⟩ : ∃ x, tK R 14 s = x := ⟨_, rfl⟩
      have D1 := hideL ((tks_take (w0 := w0) (b := b) (rc := rc) (a0 := a0) (R := R) 14 (by decide)).at' q1 (.slice a1 n1 c1))
      cases B1 with
      | true =>
        obtain ⟨hG2, hr2⟩ := e42 hG0 q1
        have HGz := hideL hG2
        have HRz := hideL hr2
        clear hG0 q1 hG2 hr2
        skip
        go_wp2_with (first
          | (go_at_call 29; refine (D1.out _ H0.out).mono ?_; clear D1; rintro e W1 ⟨rfl, h1⟩; have H1 := hideL h1; clear h1 H0))
        go_step3
        exact jm_mk HRz.out (.inr (.inr (.inr (.inr (.inl ⟨rfl, _, _, HGz.out, H1.out, rfl⟩)))))
      | false =>
        obtain ⟨⟨B2, t2⟩, q2⟩ : ∃ x, tEd R t1 = x := ⟨_, rfl⟩
        have D2 := hideL ((tks_edits (w0 := w0) (b := b) (rc := rc) (a0 := a0) (R := R)).at' q2 (.slice a1 n1 c1))
        obtain ⟨hG3, hr3⟩ := e45 hG0 q1 q2
        have hnX : n1 = t2.ou.length := by rw [(Adv.at' (adv_Ed R) q2).2.2.2.2.2.1, (Adv.at' (adv_K R 14) q1).2.2.2.2.2.1]; exact hn1
        obtain ⟨⟨B4, t4⟩, q4⟩ : ∃ x, tK R 18 t2 = x := ⟨_, rfl⟩
        have D4 := hideL ((tks_take (w0 := w0) (b := b) (rc := rc) (a0 := a0) (R := R) 18 (by decide)).at' q4 (.slice a1 n1 c1))
        cases B4 with
        | true =>
          have bt := boost_bound hG3 (or_yes q4) hR
          obtain ⟨hG5, hr5⟩ := e55 hG3 (or_yes q4)
          have hr5 := Nat.lt_trans hr5 hr3
          obtain ⟨y5, hy5⟩ : ∃ y, y = { t4 with ne := t4.ne + 1 } := ⟨_, rfl⟩
          rw [← hy5] at hG5 hr5
          have HY5 := hideL hy5
          clear hy5
          have HGz := hideL hG5
          have HRz := hideL hr5
          clear hG0 q1 q2 hG3 hn1 q4 hG5 hr5
          skip
          go_wp2_with (first
            | (go_at_call 29; refine (D1.out _ H0.out).mono ?_; clear D1; rintro e W1 ⟨rfl, h1⟩; have H1 := hideL h1; clear h1 H0)
            | (go_at_call 34; refine (D2.out _ H1.out).mono ?_; clear D2; rintro e W2 ⟨rfl, h1⟩; have H2 := hideL h1; clear h1 H1))
          refine wp_label ?_
          go_wp2_with (first
            | (go_at_call 29; refine (D4.out _ H2.out).mono ?_; clear D4; rintro e W4 ⟨rfl, h1⟩; have H4 := hideL h1; clear h1 H2; have x3 := H4.out.cells.2.2.2.1; have f3 := H4.out.free 3))
          have HF : Hid (Mc w0 (W4.setCell ⟨b, 3, none⟩ (.int .i64 ((t4.ne : Int) + 1))) b rc a0 R (.slice a1 n1 c1) y5) := hideL (by rw [HY5.out]; exact H4.out.setNe (t4.ne + 1) _ (by omega))
          go_step3
          exact jm_mk HRz.out (.inr (.inr (.inr (.inr (.inr ⟨rfl, _, _, HGz.out, HF.out, rfl⟩)))))
        | false =>
          obtain ⟨⟨B5, t5⟩, q5⟩ : ∃ x, tK R 19 t4 = x := ⟨_, rfl⟩
          have D5 := hideL ((tks_take (w0 := w0) (b := b) (rc := rc) (a0 := a0) (R := R) 19 (by decide)).at' q5 (.slice a1 n1 c1))
          cases B5 with
          | true =>
            have bt := boost_bound hG3 ((or_no q4).trans q5) hR
            obtain ⟨hG6, hr6⟩ := e55 hG3 ((or_no q4).trans q5)
            have hr6 := Nat.lt_trans hr6 hr3
            obtain ⟨y6, hy6⟩ : ∃ y, y = { t5 with ne := t5.ne + 1 } := ⟨_, rfl⟩
            rw [← hy6] at hG6 hr6
            have HY6 := hideL hy6
            clear hy6
            have HGz := hideL hG6
            have HRz := hideL hr6
            clear hG0 q1 q2 hG3 hn1 q4 q5 hG6 hr6
            skip
            go_wp2_with (first
              | (go_at_call 29; refine (D1.out _ H0.out).mono ?_; clear D1; rintro e W1 ⟨rfl, h1⟩; have H1 := hideL h1; clear h1 H0)
              | (go_at_call 34; refine (D2.out _ H1.out).mono ?_; clear D2; rintro e W2 ⟨rfl, h1⟩; have H2 := hideL h1; clear h1 H1))
            refine wp_label ?_
            go_wp2_with (first
              | (go_at_call 29; refine (D4.out _ H2.out).mono ?_; clear D4; rintro e W4 ⟨rfl, h1⟩; have H4 := hideL h1; clear h1 H2)
              | (go_at_call 29; refine (D5.out _ H4.out).mono ?_; clear D5; rintro e W5 ⟨rfl, h1⟩; have H5 := hideL h1; clear h1 H4; have x3 := H5.out.cells.2.2.2.1; have f3 := H5.out.free 3))
            have HF : Hid (Mc w0 (W5.setCell ⟨b, 3, none⟩ (.int .i64 ((t5.ne : Int) + 1))) b rc a0 R (.slice a1 n1 c1) y6) := hideL (by rw [HY6.out]; exact H5.out.setNe (t5.ne + 1) _ (by omega))
            go_step3
            exact jm_mk HRz.out (.inr (.inr (.inr (.inr (.inr ⟨rfl, _, _, HGz.out, HF.out, rfl⟩)))))
          | false =>
            have hq := (or_no q4).trans q5
            obtain ⟨ya, hya⟩ : ∃ y, y = t5.endU := ⟨_, rfl⟩
            have HYA := hideL hya
            have hts : ya.top.s = t2.top.s := by rw [hya]; show t5.top.s = _; rw [(Adv.at' ((adv_K R 18).or (adv_K R 19)) hq).2.2.2.2.1]
            have CE := hideL (fun W (hW : Mc w0 W b rc a0 R (.slice a1 n1 c1) t5) => endU_go hW ((Adv.at' ((adv_K R 18).or (adv_K R 19)) hq).2.2.2.2.2.2 hG3.ok))
            cases hsg : t2.top.s with
            | true =>
              rw [hsg] at hts
              have HTS := hideL hts
              have hpb : PB R t2 ya := by rw [hya]; exact pb_signed hG3 hq hsg
              cases hou : t2.ou with
              | nil =>
                have en : n1 = 0 := by rw [hnX, hou]; rfl
                have n1z : ((n1 : Int) == 0) = true := by rw [en]; rfl
                have n1p : ¬ (0 : Int) < (n1 : Int) := by omega
                obtain ⟨⟨B6, t6⟩, q6⟩ : ∃ x, tK R 0 ya = x := ⟨_, rfl⟩
                have D6 := hideL ((tks_take (w0 := w0) (b := b) (rc := rc) (a0 := a0) (R := R) 0 (by decide)).at' q6 (.slice a1 n1 c1))
                cases B6 with
                | true =>
                  have HZz := hideL (p_end hG3 hpb hou q6)
                  clear hG0 q1 q2 hG3 hn1 q4 q5 hq hts hsg hpb hou hnX en q6 hr3
                  skip
                  go_wp2_with (first
                    | (go_at_call 29; refine (D1.out _ H0.out).mono ?_; clear D1; rintro e W1 ⟨rfl, h1⟩; have H1 := hideL h1; clear h1 H0)
                    | (go_at_call 34; refine (D2.out _ H1.out).mono ?_; clear D2; rintro e W2 ⟨rfl, h1⟩; have H2 := hideL h1; clear h1 H1))
                  refine wp_label ?_
                  go_wp2_with (first
                    | (go_at_call 29; refine (D4.out _ H2.out).mono ?_; clear D4; rintro e W4 ⟨rfl, h1⟩; have H4 := hideL h1; clear h1 H2)
                    | (go_at_call 29; refine (D5.out _ H4.out).mono ?_; clear D5; rintro e W5 ⟨rfl, h1⟩; have H5 := hideL h1; clear h1 H4)
                    | (go_at_call 35; refine (CE.out _ H5.out).mono ?_; clear CE; rintro e WE ⟨rfl, h1⟩; have HE : Hid (Mc w0 WE b rc a0 R (.slice a1 n1 c1) ya) := hideL (by rw [HYA.out]; exact h1); have xe6 := HE.out.cells.2.2.2.2.2.2.1; have xe7 := HE.out.cells.2.2.2.2.2.2.2; rw [HTS.out] at xe6; clear h1 H5)
                    | (go_at_call 29; refine (D6.out _ HE.out).mono ?_; clear D6; rintro e W6 ⟨rfl, h1⟩; have H6 := hideL h1; clear h1 HE; have xk7 := H6.out.cells.2.2.2.2.2.2.2))
                  rw [jumpsL_ret]
                  go_ret
                  exact ⟨by rw [HZz.out]; rfl, _, by rw [HZz.out]; exact H6.out⟩
                | false =>
                  obtain ⟨hG7, hr7⟩ := p_no hG3 hpb hou q6
                  have hr7 := Nat.lt_trans hr7 hr3
                  have HGz := hideL hG7
                  have HRz := hideL hr7
                  clear hG0 q1 q2 hG3 hn1 q4 q5 hq hts hsg hpb hou hnX en q6 hG7 hr7
                  skip
                  go_wp2_with (first
                    | (go_at_call 29; refine (D1.out _ H0.out).mono ?_; clear D1; rintro e W1 ⟨rfl, h1⟩; have H1 := hideL h1; clear h1 H0)
                    | (go_at_call 34; refine (D2.out _ H1.out).mono ?_; clear D2; rintro e W2 ⟨rfl, h1⟩; have H2 := hideL h1; clear h1 H1))
                  refine wp_label ?_
                  go_wp2_with (first
                    | (go_at_call 29; refine (D4.out _ H2.out).mono ?_; clear D4; rintro e W4 ⟨rfl, h1⟩; have H4 := hideL h1; clear h1 H2)
                    | (go_at_call 29; refine (D5.out _ H4.out).mono ?_; clear D5; rintro e W5 ⟨rfl, h1⟩; have H5 := hideL h1; clear h1 H4)
                    | (go_at_call 35; refine (CE.out _ H5.out).mono ?_; clear CE; rintro e WE ⟨rfl, h1⟩; have HE : Hid (Mc w0 WE b rc a0 R (.slice a1 n1 c1) ya) := hideL (by rw [HYA.out]; exact h1); have xe6 := HE.out.cells.2.2.2.2.2.2.1; have xe7 := HE.out.cells.2.2.2.2.2.2.2; rw [HTS.out] at xe6; clear h1 H5)
                    | (go_at_call 29; refine (D6.out _ HE.out).mono ?_; clear D6; rintro e W6 ⟨rfl, h1⟩; have H6 := hideL h1; clear h1 HE; have xk7 := H6.out.cells.2.2.2.2.2.2.2))
                  go_step3
                  exact jm_mk HRz.out (.inl ⟨rfl, _, _, HGz.out, H6.out, rfl⟩)
              | cons l r =>
                have en : n1 = r.length + 1 := by rw [hnX, hou]; rfl
                have n1z : ((n1 : Int) == 0) = false := by rw [beq_eq_false_iff_ne]; omega
                have n1p : (0 : Int) < (n1 : Int) := by omega
                obtain ⟨⟨B6, t6⟩, q6⟩ : ∃ x, tK R 9 ya = x := ⟨_, rfl⟩
                have D6 := hideL ((tks_take (w0 := w0) (b := b) (rc := rc) (a0 := a0) (R := R) 9 (by decide)).at' q6 (.slice a1 n1 c1))
                cases B6 with
                | true =>
                  obtain ⟨⟨B7, t7⟩, q7⟩ : ∃ x, tK R 21 (t6.close' l r) = x := ⟨_, rfl⟩
                  obtain ⟨hpc, hoc, hkc⟩ := p_close hG3 hpb hou q6 q7
                  have CC := hideL (fun W (hW : Mc w0 W b rc a0 R (.slice a1 n1 c1) t6) => close_go hW hkc hoc)
                  have D7 := hideL (fun v2 => (tks_take (w0 := w0) (b := b) (rc := rc) (a0 := a0) (R := R) 21 (by decide)).at' q7 v2)
                  obtain ⟨hGc, hrc⟩ := hpc
                  have hrc := Nat.lt_trans hrc hr3
                  have HGz := hideL hGc
                  have HRz := hideL hrc
                  clear hG0 q1 q2 hG3 hn1 q4 q5 hq hts hsg hpb hou hnX en q6 hGc hoc hkc q7 hrc
                  skip
                  go_wp2_with (first
                    | (go_at_call 29; refine (D1.out _ H0.out).mono ?_; clear D1; rintro e W1 ⟨rfl, h1⟩; have H1 := hideL h1; clear h1 H0)
                    | (go_at_call 34; refine (D2.out _ H1.out).mono ?_; clear D2; rintro e W2 ⟨rfl, h1⟩; have H2 := hideL h1; clear h1 H1))
                  refine wp_label ?_
                  go_wp2_with (first
                    | (go_at_call 29; refine (D4.out _ H2.out).mono ?_; clear D4; rintro e W4 ⟨rfl, h1⟩; have H4 := hideL h1; clear h1 H2)
                    | (go_at_call 29; refine (D5.out _ H4.out).mono ?_; clear D5; rintro e W5 ⟨rfl, h1⟩; have H5 := hideL h1; clear h1 H4)
                    | (go_at_call 35; refine (CE.out _ H5.out).mono ?_; clear CE; rintro e WE ⟨rfl, h1⟩; have HE : Hid (Mc w0 WE b rc a0 R (.slice a1 n1 c1) ya) := hideL (by rw [HYA.out]; exact h1); have xe6 := HE.out.cells.2.2.2.2.2.2.1; have xe7 := HE.out.cells.2.2.2.2.2.2.2; rw [HTS.out] at xe6; clear h1 H5)
                    | (go_at_call 29; refine (D6.out _ HE.out).mono ?_; clear D6; rintro e W6 ⟨rfl, h1⟩; have H6 := hideL h1; clear h1 HE)
                    | (go_at_call 37; refine (CC.out _ H6.out).mono ?_; clear CC; rintro e WC ⟨rfl, v2, h1⟩; have HC := hideL h1; clear h1 H6)
                    | (go_at_call 29; refine (D7.out v2 _ HC.out).mono ?_; clear D7; rintro e WD ⟨rfl, h1⟩; have HD := hideL h1; clear h1 HC))
                  go_step3
                  exact jm_mk HRz.out (.inr (.inr (.inr (.inr (.inr ⟨rfl, _, _, HGz.out, HD.out, rfl⟩)))))
                | false =>
                  obtain ⟨hG7, hr7⟩ := p_clause hG3 hpb hou q6
                  have hr7 := Nat.lt_trans hr7 hr3
                  have HGz := hideL hG7
                  have HRz := hideL hr7
                  clear hG0 q1 q2 hG3 hn1 q4 q5 hq hts hsg hpb hou hnX en q6 hG7 hr7
                  skip
                  go_wp2_with (first
                    | (go_at_call 29; refine (D1.out _ H0.out).mono ?_; clear D1; rintro e W1 ⟨rfl, h1⟩; have H1 := hideL h1; clear h1 H0)
                    | (go_at_call 34; refine (D2.out _ H1.out).mono ?_; clear D2; rintro e W2 ⟨rfl, h1⟩; have H2 := hideL h1; clear h1 H1))
                  refine wp_label ?_
                  go_wp2_with (first
                    | (go_at_call 29; refine (D4.out _ H2.out).mono ?_; clear D4; rintro e W4 ⟨rfl, h1⟩; have H4 := hideL h1; clear h1 H2)
                    | (go_at_call 29; refine (D5.out _ H4.out).mono ?_; clear D5; rintro e W5 ⟨rfl, h1⟩; have H5 := hideL h1; clear h1 H4)
                    | (go_at_call 35; refine (CE.out _ H5.out).mono ?_; clear CE; rintro e WE ⟨rfl, h1⟩; have HE : Hid (Mc w0 WE b rc a0 R (.slice a1 n1 c1) ya) := hideL (by rw [HYA.out]; exact h1); have xe6 := HE.out.cells.2.2.2.2.2.2.1; have xe7 := HE.out.cells.2.2.2.2.2.2.2; rw [HTS.out] at xe6; clear h1 H5)
                    | (go_at_call 29; refine (D6.out _ HE.out).mono ?_; clear D6; rintro e W6 ⟨rfl, h1⟩; have H6 := hideL h1; clear h1 HE))
                  go_step3
                  exact jm_mk HRz.out (.inl ⟨rfl, _, _, HGz.out, H6.out, rfl⟩)
            | false =>
              rw [hsg] at hts
              have HTS := hideL hts
              obtain ⟨⟨B6, t6⟩, q6⟩ : ∃ x, tJoin R ya = x := ⟨_, rfl⟩
              have D6 := hideL ((tks_takeJoin (w0 := w0) (b := b) (rc := rc) (a0 := a0) (R := R)).at' q6 (.slice a1 n1 c1))
              have hqj : tJoin R t5.endU = (B6, t6) := by rw [← hya]; exact q6
              cases B6 with
              | true =>
                obtain ⟨hG7, hr7⟩ := e51 hG3 hq hsg hqj
                have hr7 := Nat.lt_trans hr7 hr3
                have HGz := hideL hG7
                have HRz := hideL hr7
                clear hG0 q1 q2 hG3 hn1 q4 q5 hq hts hsg q6 hqj hG7 hr7
                skip
                go_wp2_with (first
                  | (go_at_call 29; refine (D1.out _ H0.out).mono ?_; clear D1; rintro e W1 ⟨rfl, h1⟩; have H1 := hideL h1; clear h1 H0)
                  | (go_at_call 34; refine (D2.out _ H1.out).mono ?_; clear D2; rintro e W2 ⟨rfl, h1⟩; have H2 := hideL h1; clear h1 H1))
                refine wp_label ?_
                go_wp2_with (first
                  | (go_at_call 29; refine (D4.out _ H2.out).mono ?_; clear D4; rintro e W4 ⟨rfl, h1⟩; have H4 := hideL h1; clear h1 H2)
                  | (go_at_call 29; refine (D5.out _ H4.out).mono ?_; clear D5; rintro e W5 ⟨rfl, h1⟩; have H5 := hideL h1; clear h1 H4)
                  | (go_at_call 35; refine (CE.out _ H5.out).mono ?_; clear CE; rintro e WE ⟨rfl, h1⟩; have HE : Hid (Mc w0 WE b rc a0 R (.slice a1 n1 c1) ya) := hideL (by rw [HYA.out]; exact h1); have xe6 := HE.out.cells.2.2.2.2.2.2.1; have xe7 := HE.out.cells.2.2.2.2.2.2.2; rw [HTS.out] at xe6; clear h1 H5)
                  | (go_at_call 36; refine (D6.out _ HE.out).mono ?_; clear D6; rintro e W6 ⟨rfl, h1⟩; have H6 := hideL h1; clear h1 HE; have xj7 := H6.out.cells.2.2.2.2.2.2.2))
                go_step3
                exact jm_mk HRz.out (.inr (.inl ⟨rfl, _, _, HGz.out, H6.out, rfl⟩))
              | false =>
                have hpb : PB R t2 t6 := pb_plain hG3 hq hsg hqj
                cases hou : t2.ou with
                | nil =>
                  have en : n1 = 0 := by rw [hnX, hou]; rfl
                  have n1z : ((n1 : Int) == 0) = true := by rw [en]; rfl
                  have n1p : ¬ (0 : Int) < (n1 : Int) := by omega
                  obtain ⟨⟨B7, t7⟩, q7⟩ : ∃ x, tK R 0 t6 = x := ⟨_, rfl⟩
                  have D7 := hideL ((tks_take (w0 := w0) (b := b) (rc := rc) (a0 := a0) (R := R) 0 (by decide)).at' q7 (.slice a1 n1 c1))
                  cases B7 with
                  | true =>
                    have HZz := hideL (p_end hG3 hpb hou q7)
                    clear hG0 q1 q2 hG3 hn1 q4 q5 hq hts hsg q6 hqj hpb hou hnX en q7 hr3
                    skip
                    go_wp2_with (first
                      | (go_at_call 29; refine (D1.out _ H0.out).mono ?_; clear D1; rintro e W1 ⟨rfl, h1⟩; have H1 := hideL h1; clear h1 H0)
                      | (go_at_call 34; refine (D2.out _ H1.out).mono ?_; clear D2; rintro e W2 ⟨rfl, h1⟩; have H2 := hideL h1; clear h1 H1))
                    refine wp_label ?_
                    go_wp2_with (first
                      | (go_at_call 29; refine (D4.out _ H2.out).mono ?_; clear D4; rintro e W4 ⟨rfl, h1⟩; have H4 := hideL h1; clear h1 H2)
                      | (go_at_call 29; refine (D5.out _ H4.out).mono ?_; clear D5; rintro e W5 ⟨rfl, h1⟩; have H5 := hideL h1; clear h1 H4)
                      | (go_at_call 35; refine (CE.out _ H5.out).mono ?_; clear CE; rintro e WE ⟨rfl, h1⟩; have HE : Hid (Mc w0 WE b rc a0 R (.slice a1 n1 c1) ya) := hideL (by rw [HYA.out]; exact h1); have xe6 := HE.out.cells.2.2.2.2.2.2.1; have xe7 := HE.out.cells.2.2.2.2.2.2.2; rw [HTS.out] at xe6; clear h1 H5)
                      | (go_at_call 36; refine (D6.out _ HE.out).mono ?_; clear D6; rintro e W6 ⟨rfl, h1⟩; have H6 := hideL h1; clear h1 HE; have xj7 := H6.out.cells.2.2.2.2.2.2.2)
                      | (go_at_call 29; refine (D7.out _ H6.out).mono ?_; clear D7; rintro e W7 ⟨rfl, h1⟩; have H7 := hideL h1; clear h1 H6; have xk7 := H7.out.cells.2.2.2.2.2.2.2))
                    rw [jumpsL_ret]
                    go_ret
                    exact ⟨by rw [HZz.out]; rfl, _, by rw [HZz.out]; exact H7.out⟩
                  | false =>
                    obtain ⟨hG8, hr8⟩ := p_no hG3 hpb hou q7
                    have hr8 := Nat.lt_trans hr8 hr3
                    have HGz := hideL hG8
                    have HRz := hideL hr8
                    clear hG0 q1 q2 hG3 hn1 q4 q5 hq hts hsg q6 hqj hpb hou hnX en q7 hG8 hr8
                    skip
                    go_wp2_with (first
                      | (go_at_call 29; refine (D1.out _ H0.out).mono ?_; clear D1; rintro e W1 ⟨rfl, h1⟩; have H1 := hideL h1; clear h1 H0)
                      | (go_at_call 34; refine (D2.out _ H1.out).mono ?_; clear D2; rintro e W2 ⟨rfl, h1⟩; have H2 := hideL h1; clear h1 H1))
                    refine wp_label ?_
                    go_wp2_with (first
                      | (go_at_call 29; refine (D4.out _ H2.out).mono ?_; clear D4; rintro e W4 ⟨rfl, h1⟩; have H4 := hideL h1; clear h1 H2)
                      | (go_at_call 29; refine (D5.out _ H4.out).mono ?_; clear D5; rintro e W5 ⟨rfl, h1⟩; have H5 := hideL h1; clear h1 H4)
                      | (go_at_call 35; refine (CE.out _ H5.out).mono ?_; clear CE; rintro e WE ⟨rfl, h1⟩; have HE : Hid (Mc w0 WE b rc a0 R (.slice a1 n1 c1) ya) := hideL (by rw [HYA.out]; exact h1); have xe6 := HE.out.cells.2.2.2.2.2.2.1; have xe7 := HE.out.cells.2.2.2.2.2.2.2; rw [HTS.out] at xe6; clear h1 H5)
                      | (go_at_call 36; refine (D6.out _ HE.out).mono ?_; clear D6; rintro e W6 ⟨rfl, h1⟩; have H6 := hideL h1; clear h1 HE; have xj7 := H6.out.cells.2.2.2.2.2.2.2)
                      | (go_at_call 29; refine (D7.out _ H6.out).mono ?_; clear D7; rintro e W7 ⟨rfl, h1⟩; have H7 := hideL h1; clear h1 H6; have xk7 := H7.out.cells.2.2.2.2.2.2.2))
                    go_step3
                    exact jm_mk HRz.out (.inl ⟨rfl, _, _, HGz.out, H7.out, rfl⟩)
                | cons l r =>
                  have en : n1 = r.length + 1 := by rw [hnX, hou]; rfl
                  have n1z : ((n1 : Int) == 0) = false := by rw [beq_eq_false_iff_ne]; omega
                  have n1p : (0 : Int) < (n1 : Int) := by omega
                  obtain ⟨⟨B7, t7⟩, q7⟩ : ∃ x, tK R 9 t6 = x := ⟨_, rfl⟩
                  have D7 := hideL ((tks_take (w0 := w0) (b := b) (rc := rc) (a0 := a0) (R := R) 9 (by decide)).at' q7 (.slice a1 n1 c1))
                  cases B7 with
                  | true =>
                    obtain ⟨⟨B8, t8⟩, q8⟩ : ∃ x, tK R 21 (t7.close' l r) = x := ⟨_, rfl⟩
                    obtain ⟨hpc, hoc, hkc⟩ := p_close hG3 hpb hou q7 q8
                    have CC := hideL (fun W (hW : Mc w0 W b rc a0 R (.slice a1 n1 c1) t7) => close_go hW hkc hoc)
                    have D8 := hideL (fun v2 => (tks_take (w0 := w0) (b := b) (rc := rc) (a0 := a0) (R := R) 21 (by decide)).at' q8 v2)
                    obtain ⟨hGc, hrc⟩ := hpc
                    have hrc := Nat.lt_trans hrc hr3
                    have HGz := hideL hGc
                    have HRz := hideL hrc
                    clear hG0 q1 q2 hG3 hn1 q4 q5 hq hts hsg q6 hqj hpb hou hnX en q7 hGc hoc hkc q8 hrc
                    skip
                    go_wp2_with (first
                      | (go_at_call 29; refine (D1.out _ H0.out).mono ?_; clear D1; rintro e W1 ⟨rfl, h1⟩; have H1 := hideL h1; clear h1 H0)
                      | (go_at_call 34; refine (D2.out _ H1.out).mono ?_; clear D2; rintro e W2 ⟨rfl, h1⟩; have H2 := hideL h1; clear h1 H1))
                    refine wp_label ?_
                    go_wp2_with (first
                      | (go_at_call 29; refine (D4.out _ H2.out).mono ?_; clear D4; rintro e W4 ⟨rfl, h1⟩; have H4 := hideL h1; clear h1 H2)
                      | (go_at_call 29; refine (D5.out _ H4.out).mono ?_; clear D5; rintro e W5 ⟨rfl, h1⟩; have H5 := hideL h1; clear h1 H4)
                      | (go_at_call 35; refine (CE.out _ H5.out).mono ?_; clear CE; rintro e WE ⟨rfl, h1⟩; have HE : Hid (Mc w0 WE b rc a0 R (.slice a1 n1 c1) ya) := hideL (by rw [HYA.out]; exact h1); have xe6 := HE.out.cells.2.2.2.2.2.2.1; have xe7 := HE.out.cells.2.2.2.2.2.2.2; rw [HTS.out] at xe6; clear h1 H5)
                      | (go_at_call 36; refine (D6.out _ HE.out).mono ?_; clear D6; rintro e W6 ⟨rfl, h1⟩; have H6 := hideL h1; clear h1 HE; have xj7 := H6.out.cells.2.2.2.2.2.2.2)
                      | (go_at_call 29; refine (D7.out _ H6.out).mono ?_; clear D7; rintro e W7 ⟨rfl, h1⟩; have H7 := hideL h1; clear h1 H6)
                      | (go_at_call 37; refine (CC.out _ H7.out).mono ?_; clear CC; rintro e WC ⟨rfl, v2, h1⟩; have HC := hideL h1; clear h1 H7)
                      | (go_at_call 29; refine (D8.out v2 _ HC.out).mono ?_; clear D8; rintro e WD ⟨rfl, h1⟩; have HD := hideL h1; clear h1 HC))
                    go_step3
                    exact jm_mk HRz.out (.inr (.inr (.inr (.inr (.inr ⟨rfl, _, _, HGz.out, HD.out, rfl⟩)))))
                  | false =>
                    obtain ⟨hG8, hr8⟩ := p_clause hG3 hpb hou q7
                    have hr8 := Nat.lt_trans hr8 hr3
                    have HGz := hideL hG8
                    have HRz := hideL hr8
                    clear hG0 q1 q2 hG3 hn1 q4 q5 hq hts hsg q6 hqj hpb hou hnX en q7 hG8 hr8
                    skip
                    go_wp2_with (first
                      | (go_at_call 29; refine (D1.out _ H0.out).mono ?_; clear D1; rintro e W1 ⟨rfl, h1⟩; have H1 := hideL h1; clear h1 H0)
                      | (go_at_call 34; refine (D2.out _ H1.out).mono ?_; clear D2; rintro e W2 ⟨rfl, h1⟩; have H2 := hideL h1; clear h1 H1))
                    refine wp_label ?_
                    go_wp2_with (first
                      | (go_at_call 29; refine (D4.out _ H2.out).mono ?_; clear D4; rintro e W4 ⟨rfl, h1⟩; have H4 := hideL h1; clear h1 H2)
                      | (go_at_call 29; refine (D5.out _ H4.out).mono ?_; clear D5; rintro e W5 ⟨rfl, h1⟩; have H5 := hideL h1; clear h1 H4)
                      | (go_at_call 35; refine (CE.out _ H5.out).mono ?_; clear CE; rintro e WE ⟨rfl, h1⟩; have HE : Hid (Mc w0 WE b rc a0 R (.slice a1 n1 c1) ya) := hideL (by rw [HYA.out]; exact h1); have xe6 := HE.out.cells.2.2.2.2.2.2.1; have xe7 := HE.out.cells.2.2.2.2.2.2.2; rw [HTS.out] at xe6; clear h1 H5)
                      | (go_at_call 36; refine (D6.out _ HE.out).mono ?_; clear D6; rintro e W6 ⟨rfl, h1⟩; have H6 := hideL h1; clear h1 HE; have xj7 := H6.out.cells.2.2.2.2.2.2.2)
                      | (go_at_call 29; refine (D7.out _ H6.out).mono ?_; clear D7; rintro e W7 ⟨rfl, h1⟩; have H7 := hideL h1; clear h1 H6))
                    go_step3
                    exact jm_mk HRz.out (.inl ⟨rfl, _, _, HGz.out, H7.out, rfl⟩)
    · refine ⟨_, rfl, ?_⟩
      obtain ⟨v, s, hG0, hM, rfl⟩ := hS
      have H0 := hideL hM
      clear hM
      obtain ⟨⟨B1, t1⟩, q1⟩ : ∃ x, tK R 8 s = x := ⟨_, rfl⟩
      have D1 := hideL ((tks_take (w0 := w0) (b := b) (rc := rc) (a0 := a0) (R := R) 8 (by decide)).at' q1 v)
      cases B1 with
      | true =>
        obtain ⟨hG2, hr2⟩ := e20 hG0 q1
        obtain ⟨y2, hy2⟩ : ∃ y, y = t1.open' := ⟨_, rfl⟩
        rw [← hy2] at hG2 hr2
        have HY2 := hideL hy2
        clear hy2
        have CO := hideL (fun W (hW : Mc w0 W b rc a0 R v t1) => open_go hW (Goo_ok8 hG0 q1))
        have HGz := hideL hG2
        have HRz := hideL hr2
        clear hG0 q1 hG2 hr2
        skip
        go_wp2_with (first
          | (go_at_call 29; refine (D1.out _ H0.out).mono ?_; clear D1; rintro e W1 ⟨rfl, h1⟩; have H1 := hideL h1; clear h1 H0)
          | (go_at_call 31; refine (CO.out _ H1.out).mono ?_; clear CO; rintro e WO ⟨rfl, v2, h1⟩; have HF : Hid (Mc w0 WO b rc a0 R v2 y2) := hideL (by rw [HY2.out]; exact h1); clear h1 H1))
        go_step3
        exact jm_mk HRz.out (.inl ⟨rfl, _, _, HGz.out, HF.out, rfl⟩)
      | false =>
        obtain ⟨⟨B2, t2⟩, q2⟩ : ∃ x, tK R 10 t1 = x := ⟨_, rfl⟩
        have D2 := hideL ((tks_take (w0 := w0) (b := b) (rc := rc) (a0 := a0) (R := R) 10 (by decide)).at' q2 v)
        cases B2 with
        | true =>
          obtain ⟨⟨B3, t3⟩, q3⟩ : ∃ x, tSides R t2 = x := ⟨_, rfl⟩
          have D3 := hideL ((tks_takeSides (w0 := w0) (b := b) (rc := rc) (a0 := a0) (R := R)).at' q3 v)
          cases B3 with
          | true =>
            obtain ⟨hG4, hr4⟩ := e25a hG0 q1 q2 q3
            have HGz := hideL hG4
            have HRz := hideL hr4
            clear hG0 q1 q2 q3 hG4 hr4
            skip
            go_wp2_with (first
              | (go_at_call 29; refine (D1.out _ H0.out).mono ?_; clear D1; rintro e W1 ⟨rfl, h1⟩; have H1 := hideL h1; clear h1 H0)
              | (go_at_call 29; refine (D2.out _ H1.out).mono ?_; clear D2; rintro e W2 ⟨rfl, h1⟩; have H2 := hideL h1; clear h1 H1)
              | (go_at_call 32; refine (D3.out _ H2.out).mono ?_; clear D3; rintro e W3 ⟨rfl, h1⟩; have H3 := hideL h1; clear h1 H2))
            go_step3
            exact jm_mk HRz.out (.inr (.inr (.inr (.inr (.inr ⟨rfl, _, _, HGz.out, H3.out, rfl⟩)))))
          | false =>
            have HZz := hideL (r2a hG0 q1 q2 q3)
            clear hG0 q1 q2 q3
            skip
            go_wp2_with (first
              | (go_at_call 29; refine (D1.out _ H0.out).mono ?_; clear D1; rintro e W1 ⟨rfl, h1⟩; have H1 := hideL h1; clear h1 H0)
              | (go_at_call 29; refine (D2.out _ H1.out).mono ?_; clear D2; rintro e W2 ⟨rfl, h1⟩; have H2 := hideL h1; clear h1 H1)
              | (go_at_call 32; refine (D3.out _ H2.out).mono ?_; clear D3; rintro e W3 ⟨rfl, h1⟩; have H3 := hideL h1; clear h1 H2))
            rw [jumpsL_ret]
            go_ret
            exact ⟨by rw [HZz.out]; rfl, _, by rw [HZz.out]; exact H3.out⟩
        | false =>
          obtain ⟨⟨B3, t3⟩, q3⟩ : ∃ x, tK R 12 t2 = x := ⟨_, rfl⟩
          have D3 := hideL ((tks_take (w0 := w0) (b := b) (rc := rc) (a0 := a0) (R := R) 12 (by decide)).at' q3 v)
          cases B3 with
          | true =>
            obtain ⟨⟨B4, t4⟩, q4⟩ : ∃ x, tSides R t3 = x := ⟨_, rfl⟩
            have D4 := hideL ((tks_takeSides (w0 := w0) (b := b) (rc := rc) (a0 := a0) (R := R)).at' q4 v)
            cases B4 with
            | true =>
              obtain ⟨hG5, hr5⟩ := e25b hG0 q1 q2 q3 q4
              have HGz := hideL hG5
              have HRz := hideL hr5
              clear hG0 q1 q2 q3 q4 hG5 hr5
              skip
              go_wp2_with (first
                | (go_at_call 29; refine (D1.out _ H0.out).mono ?_; clear D1; rintro e W1 ⟨rfl, h1⟩; have H1 := hideL h1; clear h1 H0)
                | (go_at_call 29; refine (D2.out _ H1.out).mono ?_; clear D2; rintro e W2 ⟨rfl, h1⟩; have H2 := hideL h1; clear h1 H1)
                | (go_at_call 29; refine (D3.out _ H2.out).mono ?_; clear D3; rintro e W3 ⟨rfl, h1⟩; have H3 := hideL h1; clear h1 H2)
                | (go_at_call 32; refine (D4.out _ H3.out).mono ?_; clear D4; rintro e W4 ⟨rfl, h1⟩; have H4 := hideL h1; clear h1 H3))
              go_step3
              exact jm_mk HRz.out (.inr (.inr (.inr (.inr (.inr ⟨rfl, _, _, HGz.out, H4.out, rfl⟩)))))
            | false =>
              have HZz := hideL (r2b hG0 q1 q2 q3 q4)
              clear hG0 q1 q2 q3 q4
              skip
              go_wp2_with (first
                | (go_at_call 29; refine (D1.out _ H0.out).mono ?_; clear D1; rintro e W1 ⟨rfl, h1⟩; have H1 := hideL h1; clear h1 H0)
                | (go_at_call 29; refine (D2.out _ H1.out).mono ?_; clear D2; rintro e W2 ⟨rfl, h1⟩; have H2 := hideL h1; clear h1 H1)
                | (go_at_call 29; refine (D3.out _ H2.out).mono ?_; clear D3; rintro e W3 ⟨rfl, h1⟩; have H3 := hideL h1; clear h1 H2)
                | (go_at_call 32; refine (D4.out _ H3.out).mono ?_; clear D4; rintro e W4 ⟨rfl, h1⟩; have H4 := hideL h1; clear h1 H3))
              rw [jumpsL_ret]
              go_ret
              exact ⟨by rw [HZz.out]; rfl, _, by rw [HZz.out]; exact H4.out⟩
          | false =>
            obtain ⟨⟨B4, t4⟩, q4⟩ : ∃ x, tK R 3 t3 = x := ⟨_, rfl⟩
            have D4 := hideL ((tks_take (w0 := w0) (b := b) (rc := rc) (a0 := a0) (R := R) 3 (by decide)).at' q4 v)
            cases B4 with
            | true =>
              obtain ⟨⟨B5, t5⟩, q5⟩ : ∃ x, tSl R t4 = x := ⟨_, rfl⟩
              have D5 := hideL ((tks_slop (w0 := w0) (b := b) (rc := rc) (a0 := a0) (R := R)).at' q5 v)
              obtain ⟨hG6, hr6⟩ := e25c hG0 q1 q2 q3 q4 q5
              have HGz := hideL hG6
              have HRz := hideL hr6
              clear hG0 q1 q2 q3 q4 q5 hG6 hr6
              skip
              go_wp2_with (first
                | (go_at_call 29; refine (D1.out _ H0.out).mono ?_; clear D1; rintro e W1 ⟨rfl, h1⟩; have H1 := hideL h1; clear h1 H0)
                | (go_at_call 29; refine (D2.out _ H1.out).mono ?_; clear D2; rintro e W2 ⟨rfl, h1⟩; have H2 := hideL h1; clear h1 H1)
                | (go_at_call 29; refine (D3.out _ H2.out).mono ?_; clear D3; rintro e W3 ⟨rfl, h1⟩; have H3 := hideL h1; clear h1 H2)
                | (go_at_call 29; refine (D4.out _ H3.out).mono ?_; clear D4; rintro e W4 ⟨rfl, h1⟩; have H4 := hideL h1; clear h1 H3)
                | (go_at_call 33; refine (D5.out _ H4.out).mono ?_; clear D5; rintro e W5 ⟨rfl, h1⟩; have H5 := hideL h1; clear h1 H4))
              go_step3
              exact jm_mk HRz.out (.inr (.inr (.inr (.inr (.inr ⟨rfl, _, _, HGz.out, H5.out, rfl⟩)))))
            | false =>
              obtain ⟨⟨B5, t5⟩, q5⟩ : ∃ x, tK R 1 t4 = x := ⟨_, rfl⟩
              have D5 := hideL ((tks_take (w0 := w0) (b := b) (rc := rc) (a0 := a0) (R := R) 1 (by decide)).at' q5 v)
              cases B5 with
              | true =>
                obtain ⟨⟨B6, t6⟩, q6⟩ : ∃ x, tEd R t5 = x := ⟨_, rfl⟩
                have D6 := hideL ((tks_edits (w0 := w0) (b := b) (rc := rc) (a0 := a0) (R := R)).at' q6 v)
                obtain ⟨hG7, hr7⟩ := e25d hG0 q1 q2 q3 q4 q5 q6
                have HGz := hideL hG7
                have HRz := hideL hr7
                clear hG0 q1 q2 q3 q4 q5 q6 hG7 hr7
                skip
                go_wp2_with (first
                  | (go_at_call 29; refine (D1.out _ H0.out).mono ?_; clear D1; rintro e W1 ⟨rfl, h1⟩; have H1 := hideL h1; clear h1 H0)
                  | (go_at_call 29; refine (D2.out _ H1.out).mono ?_; clear D2; rintro e W2 ⟨rfl, h1⟩; have H2 := hideL h1; clear h1 H1)
                  | (go_at_call 29; refine (D3.out _ H2.out).mono ?_; clear D3; rintro e W3 ⟨rfl, h1⟩; have H3 := hideL h1; clear h1 H2)
                  | (go_at_call 29; refine (D4.out _ H3.out).mono ?_; clear D4; rintro e W4 ⟨rfl, h1⟩; have H4 := hideL h1; clear h1 H3)
                  | (go_at_call 29; refine (D5.out _ H4.out).mono ?_; clear D5; rintro e W5 ⟨rfl, h1⟩; have H5 := hideL h1; clear h1 H4)
                  | (go_at_call 34; refine (D6.out _ H5.out).mono ?_; clear D6; rintro e W6 ⟨rfl, h1⟩; have H6 := hideL h1; clear h1 H5))
                go_step3
                exact jm_mk HRz.out (.inr (.inr (.inr (.inr (.inr ⟨rfl, _, _, HGz.out, H6.out, rfl⟩)))))
              | false =>
                obtain ⟨⟨B6, t6⟩, q6⟩ : ∃ x, tK R 2 t5 = x := ⟨_, rfl⟩
                have D6 := hideL ((tks_take (w0 := w0) (b := b) (rc := rc) (a0 := a0) (R := R) 2 (by decide)).at' q6 v)
                cases B6 with
                | true =>
                  obtain ⟨hG7, hr7⟩ := e25e hG0 q1 q2 q3 q4 q5 q6
                  have HGz := hideL hG7
                  have HRz := hideL hr7
                  clear hG0 q1 q2 q3 q4 q5 q6 hG7 hr7
                  skip
                  go_wp2_with (first
                    | (go_at_call 29; refine (D1.out _ H0.out).mono ?_; clear D1; rintro e W1 ⟨rfl, h1⟩; have H1 := hideL h1; clear h1 H0)
                    | (go_at_call 29; refine (D2.out _ H1.out).mono ?_; clear D2; rintro e W2 ⟨rfl, h1⟩; have H2 := hideL h1; clear h1 H1)
                    | (go_at_call 29; refine (D3.out _ H2.out).mono ?_; clear D3; rintro e W3 ⟨rfl, h1⟩; have H3 := hideL h1; clear h1 H2)
                    | (go_at_call 29; refine (D4.out _ H3.out).mono ?_; clear D4; rintro e W4 ⟨rfl, h1⟩; have H4 := hideL h1; clear h1 H3)
                    | (go_at_call 29; refine (D5.out _ H4.out).mono ?_; clear D5; rintro e W5 ⟨rfl, h1⟩; have H5 := hideL h1; clear h1 H4)
                    | (go_at_call 29; refine (D6.out _ H5.out).mono ?_; clear D6; rintro e W6 ⟨rfl, h1⟩; have H6 := hideL h1; clear h1 H5))
                  go_step3
                  exact jm_mk HRz.out (.inr (.inr (.inr (.inr (.inr ⟨rfl, _, _, HGz.out, H6.out, rfl⟩)))))
                | false =>
                  have HZz := hideL (r2c hG0 q1 q2 q3 q4 q5 q6)
                  clear hG0 q1 q2 q3 q4 q5 q6
                  skip
                  go_wp2_with (first
                    | (go_at_call 29; refine (D1.out _ H0.out).mono ?_; clear D1; rintro e W1 ⟨rfl, h1⟩; have H1 := hideL h1; clear h1 H0)
                    | (go_at_call 29; refine (D2.out _ H1.out).mono ?_; clear D2; rintro e W2 ⟨rfl, h1⟩; have H2 := hideL h1; clear h1 H1)
                    | (go_at_call 29; refine (D3.out _ H2.out).mono ?_; clear D3; rintro e W3 ⟨rfl, h1⟩; have H3 := hideL h1; clear h1 H2)
                    | (go_at_call 29; refine (D4.out _ H3.out).mono ?_; clear D4; rintro e W4 ⟨rfl, h1⟩; have H4 := hideL h1; clear h1 H3)
                    | (go_at_call 29; refine (D5.out _ H4.out).mono ?_; clear D5; rintro e W5 ⟨rfl, h1⟩; have H5 := hideL h1; clear h1 H4)
                    | (go_at_call 29; refine (D6.out _ H5.out).mono ?_; clear D6; rintro e W6 ⟨rfl, h1⟩; have H6 := hideL h1; clear h1 H5))
                  rw [jumpsL_ret]
                  go_ret
                  exact ⟨by rw [HZz.out]; rfl, _, by rw [HZz.out]; exact H6.out⟩
    · refine ⟨_, rfl, ?_⟩
      obtain ⟨v, s, hG0, hM, rfl⟩ := hS
      obtain ⟨n1, a1, c1, hn1, rfl⟩ := mc_shape hM
      have hnX : n1 = s.ou.length := hn1
      clear hn1
      have H0 := hideL hM
      clear hM
      obtain ⟨⟨B1, t1⟩, q1⟩ : ∃ x, tK R 18 s = x := ⟨_, rfl⟩
      have D1 := hideL ((tks_take (w0 := w0) (b := b) (rc := rc) (a0 := a0) (R := R) 18 (by decide)).at' q1 (.slice a1 n1 c1))
      cases B1 with
      | true =>
        have bt := boost_bound hG0 (or_yes q1) hR
        obtain ⟨hG2, hr2⟩ := e55 hG0 (or_yes q1)
        obtain ⟨y2, hy2⟩ : ∃ y, y = { t1 with ne := t1.ne + 1 } := ⟨_, rfl⟩
        rw [← hy2] at hG2 hr2
        have HY2 := hideL hy2
        clear hy2
        have HGz := hideL hG2
        have HRz := hideL hr2
        clear hG0 q1 hG2 hr2
        skip
        go_wp2_with (first
          | (go_at_call 29; refine (D1.out _ H0.out).mono ?_; clear D1; rintro e W1 ⟨rfl, h1⟩; have H1 := hideL h1; clear h1 H0; have x3 := H1.out.cells.2.2.2.1; have f3 := H1.out.free 3))
        have HF : Hid (Mc w0 (W1.setCell ⟨b, 3, none⟩ (.int .i64 ((t1.ne : Int) + 1))) b rc a0 R (.slice a1 n1 c1) y2) := hideL (by rw [HY2.out]; exact H1.out.setNe (t1.ne + 1) _ (by omega))
        go_step3
        exact jm_mk HRz.out (.inr (.inr (.inr (.inr (.inr ⟨rfl, _, _, HGz.out, HF.out, rfl⟩)))))
      | false =>
        obtain ⟨⟨B2, t2⟩, q2⟩ : ∃ x, tK R 19 t1 = x := ⟨_, rfl⟩
        have D2 := hideL ((tks_take (w0 := w0) (b := b) (rc := rc) (a0 := a0) (R := R) 19 (by decide)).at' q2 (.slice a1 n1 c1))
        cases B2 with
        | true =>
          have bt := boost_bound hG0 ((or_no q1).trans q2) hR
          obtain ⟨hG3, hr3⟩ := e55 hG0 ((or_no q1).trans q2)
          obtain ⟨y3, hy3⟩ : ∃ y, y = { t2 with ne := t2.ne + 1 } := ⟨_, rfl⟩
          rw [← hy3] at hG3 hr3
          have HY3 := hideL hy3
          clear hy3
          have HGz := hideL hG3
          have HRz := hideL hr3
          clear hG0 q1 q2 hG3 hr3
          skip
          go_wp2_with (first
            | (go_at_call 29; refine (D1.out _ H0.out).mono ?_; clear D1; rintro e W1 ⟨rfl, h1⟩; have H1 := hideL h1; clear h1 H0)
            | (go_at_call 29; refine (D2.out _ H1.out).mono ?_; clear D2; rintro e W2 ⟨rfl, h1⟩; have H2 := hideL h1; clear h1 H1; have x3 := H2.out.cells.2.2.2.1; have f3 := H2.out.free 3))
          have HF : Hid (Mc w0 (W2.setCell ⟨b, 3, none⟩ (.int .i64 ((t2.ne : Int) + 1))) b rc a0 R (.slice a1 n1 c1) y3) := hideL (by rw [HY3.out]; exact H2.out.setNe (t2.ne + 1) _ (by omega))
          go_step3
          exact jm_mk HRz.out (.inr (.inr (.inr (.inr (.inr ⟨rfl, _, _, HGz.out, HF.out, rfl⟩)))))
        | false =>
          have hq := (or_no q1).trans q2
          obtain ⟨ya, hya⟩ : ∃ y, y = t2.endU := ⟨_, rfl⟩
          have HYA := hideL hya
          have hts : ya.top.s = s.top.s := by rw [hya]; show t2.top.s = _; rw [(Adv.at' ((adv_K R 18).or (adv_K R 19)) hq).2.2.2.2.1]
          have CE := hideL (fun W (hW : Mc w0 W b rc a0 R (.slice a1 n1 c1) t2) => endU_go hW ((Adv.at' ((adv_K R 18).or (adv_K R 19)) hq).2.2.2.2.2.2 hG0.ok))
          cases hsg : s.top.s with
          | true =>
            rw [hsg] at hts
            have HTS := hideL hts
            have hpb : PB R s ya := by rw [hya]; exact pb_signed hG0 hq hsg
            cases hou : s.ou with
            | nil =>
              have en : n1 = 0 := by rw [hnX, hou]; rfl
              have n1z : ((n1 : Int) == 0) = true := by rw [en]; rfl
              have n1p : ¬ (0 : Int) < (n1 : Int) := by omega
              obtain ⟨⟨B3, t3⟩, q3⟩ : ∃ x, tK R 0 ya = x := ⟨_, rfl⟩
              have D3 := hideL ((tks_take (w0 := w0) (b := b) (rc := rc) (a0 := a0) (R := R) 0 (by decide)).at' q3 (.slice a1 n1 c1))
              cases B3 with
              | true =>
                have HZz := hideL (p_end hG0 hpb hou q3)
                clear hG0 q1 q2 hq hts hsg hpb hou hnX en q3
                skip
                go_wp2_with (first
                  | (go_at_call 29; refine (D1.out _ H0.out).mono ?_; clear D1; rintro e W1 ⟨rfl, h1⟩; have H1 := hideL h1; clear h1 H0)
                  | (go_at_call 29; refine (D2.out _ H1.out).mono ?_; clear D2; rintro e W2 ⟨rfl, h1⟩; have H2 := hideL h1; clear h1 H1)
                  | (go_at_call 35; refine (CE.out _ H2.out).mono ?_; clear CE; rintro e WE ⟨rfl, h1⟩; have HE : Hid (Mc w0 WE b rc a0 R (.slice a1 n1 c1) ya) := hideL (by rw [HYA.out]; exact h1); have xe6 := HE.out.cells.2.2.2.2.2.2.1; have xe7 := HE.out.cells.2.2.2.2.2.2.2; rw [HTS.out] at xe6; clear h1 H2)
                  | (go_at_call 29; refine (D3.out _ HE.out).mono ?_; clear D3; rintro e W3 ⟨rfl, h1⟩; have H3 := hideL h1; clear h1 HE; have xk7 := H3.out.cells.2.2.2.2.2.2.2))
                rw [jumpsL_ret]
                go_ret
                exact ⟨by rw [HZz.out]; rfl, _, by rw [HZz.out]; exact H3.out⟩
              | false =>
                obtain ⟨hG4, hr4⟩ := p_no hG0 hpb hou q3
                have HGz := hideL hG4
                have HRz := hideL hr4
                clear hG0 q1 q2 hq hts hsg hpb hou hnX en q3 hG4 hr4
                skip
                go_wp2_with (first
                  | (go_at_call 29; refine (D1.out _ H0.out).mono ?_; clear D1; rintro e W1 ⟨rfl, h1⟩; have H1 := hideL h1; clear h1 H0)
                  | (go_at_call 29; refine (D2.out _ H1.out).mono ?_; clear D2; rintro e W2 ⟨rfl, h1⟩; have H2 := hideL h1; clear h1 H1)
                  | (go_at_call 35; refine (CE.out _ H2.out).mono ?_; clear CE; rintro e WE ⟨rfl, h1⟩; have HE : Hid (Mc w0 WE b rc a0 R (.slice a1 n1 c1) ya) := hideL (by rw [HYA.out]; exact h1); have xe6 := HE.out.cells.2.2.2.2.2.2.1; have xe7 := HE.out.cells.2.2.2.2.2.2.2; rw [HTS.out] at xe6; clear h1 H2)
                  | (go_at_call 29; refine (D3.out _ HE.out).mono ?_; clear D3; rintro e W3 ⟨rfl, h1⟩; have H3 := hideL h1; clear h1 HE; have xk7 := H3.out.cells.2.2.2.2.2.2.2))
                go_step3
                exact jm_mk HRz.out (.inl ⟨rfl, _, _, HGz.out, H3.out, rfl⟩)
            | cons l r =>
              have en : n1 = r.length + 1 := by rw [hnX, hou]; rfl
              have n1z : ((n1 : Int) == 0) = false := by rw [beq_eq_false_iff_ne]; omega
              have n1p : (0 : Int) < (n1 : Int) := by omega
              obtain ⟨⟨B3, t3⟩, q3⟩ : ∃ x, tK R 9 ya = x := ⟨_, rfl⟩
              have D3 := hideL ((tks_take (w0 := w0) (b := b) (rc := rc) (a0 := a0) (R := R) 9 (by decide)).at' q3 (.slice a1 n1 c1))
              cases B3 with
              | true =>
                obtain ⟨⟨B4, t4⟩, q4⟩ : ∃ x, tK R 21 (t3.close' l r) = x := ⟨_, rfl⟩
                obtain ⟨hpc, hoc, hkc⟩ := p_close hG0 hpb hou q3 q4
                have CC := hideL (fun W (hW : Mc w0 W b rc a0 R (.slice a1 n1 c1) t3) => close_go hW hkc hoc)
                have D4 := hideL (fun v2 => (tks_take (w0 := w0) (b := b) (rc := rc) (a0 := a0) (R := R) 21 (by decide)).at' q4 v2)
                obtain ⟨hGc, hrc⟩ := hpc
                have HGz := hideL hGc
                have HRz := hideL hrc
                clear hG0 q1 q2 hq hts hsg hpb hou hnX en q3 hGc hoc hkc q4 hrc
                skip
                go_wp2_with (first
                  | (go_at_call 29; refine (D1.out _ H0.out).mono ?_; clear D1; rintro e W1 ⟨rfl, h1⟩; have H1 := hideL h1; clear h1 H0)
                  | (go_at_call 29; refine (D2.out _ H1.out).mono ?_; clear D2; rintro e W2 ⟨rfl, h1⟩; have H2 := hideL h1; clear h1 H1)
                  | (go_at_call 35; refine (CE.out _ H2.out).mono ?_; clear CE; rintro e WE ⟨rfl, h1⟩; have HE : Hid (Mc w0 WE b rc a0 R (.slice a1 n1 c1) ya) := hideL (by rw [HYA.out]; exact h1); have xe6 := HE.out.cells.2.2.2.2.2.2.1; have xe7 := HE.out.cells.2.2.2.2.2.2.2; rw [HTS.out] at xe6; clear h1 H2)
                  | (go_at_call 29; refine (D3.out _ HE.out).mono ?_; clear D3; rintro e W3 ⟨rfl, h1⟩; have H3 := hideL h1; clear h1 HE)
                  | (go_at_call 37; refine (CC.out _ H3.out).mono ?_; clear CC; rintro e WC ⟨rfl, v2, h1⟩; have HC := hideL h1; clear h1 H3)
                  | (go_at_call 29; refine (D4.out v2 _ HC.out).mono ?_; clear D4; rintro e WD ⟨rfl, h1⟩; have HD := hideL h1; clear h1 HC))
                go_step3
                exact jm_mk HRz.out (.inr (.inr (.inr (.inr (.inr ⟨rfl, _, _, HGz.out, HD.out, rfl⟩)))))
              | false =>
                obtain ⟨hG4, hr4⟩ := p_clause hG0 hpb hou q3
                have HGz := hideL hG4
                have HRz := hideL hr4
                clear hG0 q1 q2 hq hts hsg hpb hou hnX en q3 hG4 hr4
                skip
                go_wp2_with (first
                  | (go_at_call 29; refine (D1.out _ H0.out).mono ?_; clear D1; rintro e W1 ⟨rfl, h1⟩; have H1 := hideL h1; clear h1 H0)
                  | (go_at_call 29; refine (D2.out _ H1.out).mono ?_; clear D2; rintro e W2 ⟨rfl, h1⟩; have H2 := hideL h1; clear h1 H1)
                  | (go_at_call 35; refine (CE.out _ H2.out).mono ?_; clear CE; rintro e WE ⟨rfl, h1⟩; have HE : Hid (Mc w0 WE b rc a0 R (.slice a1 n1 c1) ya) := hideL (by rw [HYA.out]; exact h1); have xe6 := HE.out.cells.2.2.2.2.2.2.1; have xe7 := HE.out.cells.2.2.2.2.2.2.2; rw [HTS.out] at xe6; clear h1 H2)
                  | (go_at_call 29; refine (D3.out _ HE.out).mono ?_; clear D3; rintro e W3 ⟨rfl, h1⟩; have H3 := hideL h1; clear h1 HE))
                go_step3
                exact jm_mk HRz.out (.inl ⟨rfl, _, _, HGz.out, H3.out, rfl⟩)
          | false =>
            rw [hsg] at hts
            have HTS := hideL hts
            obtain ⟨⟨B3, t3⟩, q3⟩ : ∃ x, tJoin R ya = x := ⟨_, rfl⟩
            have D3 := hideL ((tks_takeJoin (w0 := w0) (b := b) (rc := rc) (a0 := a0) (R := R)).at' q3 (.slice a1 n1 c1))
            have hqj : tJoin R t2.endU = (B3, t3) := by rw [← hya]; exact q3
            cases B3 with
            | true =>
              obtain ⟨hG4, hr4⟩ := e51 hG0 hq hsg hqj
              have HGz := hideL hG4
              have HRz := hideL hr4
              clear hG0 q1 q2 hq hts hsg q3 hqj hG4 hr4
              skip
              go_wp2_with (first
                | (go_at_call 29; refine (D1.out _ H0.out).mono ?_; clear D1; rintro e W1 ⟨rfl, h1⟩; have H1 := hideL h1; clear h1 H0)
                | (go_at_call 29; refine (D2.out _ H1.out).mono ?_; clear D2; rintro e W2 ⟨rfl, h1⟩; have H2 := hideL h1; clear h1 H1)
                | (go_at_call 35; refine (CE.out _ H2.out).mono ?_; clear CE; rintro e WE ⟨rfl, h1⟩; have HE : Hid (Mc w0 WE b rc a0 R (.slice a1 n1 c1) ya) := hideL (by rw [HYA.out]; exact h1); have xe6 := HE.out.cells.2.2.2.2.2.2.1; have xe7 := HE.out.cells.2.2.2.2.2.2.2; rw [HTS.out] at xe6; clear h1 H2)
                | (go_at_call 36; refine (D3.out _ HE.out).mono ?_; clear D3; rintro e W3 ⟨rfl, h1⟩; have H3 := hideL h1; clear h1 HE; have xj7 := H3.out.cells.2.2.2.2.2.2.2))
              go_step3
              exact jm_mk HRz.out (.inr (.inl ⟨rfl, _, _, HGz.out, H3.out, rfl⟩))
            | false =>
              have hpb : PB R s t3 := pb_plain hG0 hq hsg hqj
              cases hou : s.ou with
              | nil =>
                have en : n1 = 0 := by rw [hnX, hou]; rfl
                have n1z : ((n1 : Int) == 0) = true := by rw [en]; rfl
                have n1p : ¬ (0 : Int) < (n1 : Int) := by omega
                obtain ⟨⟨B4, t4⟩, q4⟩ : ∃ x, tK R 0 t3 = x := ⟨_, rfl⟩
                have D4 := hideL ((tks_take (w0 := w0) (b := b) (rc := rc) (a0 := a0) (R := R) 0 (by decide)).at' q4 (.slice a1 n1 c1))
                cases B4 with
                | true =>
                  have HZz := hideL (p_end hG0 hpb hou q4)
                  clear hG0 q1 q2 hq hts hsg q3 hqj hpb hou hnX en q4
                  skip
                  go_wp2_with (first
                    | (go_at_call 29; refine (D1.out _ H0.out).mono ?_; clear D1; rintro e W1 ⟨rfl, h1⟩; have H1 := hideL h1; clear h1 H0)
                    | (go_at_call 29; refine (D2.out _ H1.out).mono ?_; clear D2; rintro e W2 ⟨rfl, h1⟩; have H2 := hideL h1; clear h1 H1)
                    | (go_at_call 35; refine (CE.out _ H2.out).mono ?_; clear CE; rintro e WE ⟨rfl, h1⟩; have HE : Hid (Mc w0 WE b rc a0 R (.slice a1 n1 c1) ya) := hideL (by rw [HYA.out]; exact h1); have xe6 := HE.out.cells.2.2.2.2.2.2.1; have xe7 := HE.out.cells.2.2.2.2.2.2.2; rw [HTS.out] at xe6; clear h1 H2)
                    | (go_at_call 36; refine (D3.out _ HE.out).mono ?_; clear D3; rintro e W3 ⟨rfl, h1⟩; have H3 := hideL h1; clear h1 HE; have xj7 := H3.out.cells.2.2.2.2.2.2.2)
                    | (go_at_call 29; refine (D4.out _ H3.out).mono ?_; clear D4; rintro e W4 ⟨rfl, h1⟩; have H4 := hideL h1; clear h1 H3; have xk7 := H4.out.cells.2.2.2.2.2.2.2))
                  rw [jumpsL_ret]
                  go_ret
                  exact ⟨by rw [HZz.out]; rfl, _, by rw [HZz.out]; exact H4.out⟩
                | false =>
                  obtain ⟨hG5, hr5⟩ := p_no hG0 hpb hou q4
                  have HGz := hideL hG5
                  have HRz := hideL hr5
                  clear hG0 q1 q2 hq hts hsg q3 hqj hpb hou hnX en q4 hG5 hr5
                  skip
                  go_wp2_with (first
                    | (go_at_call 29; refine (D1.out _ H0.out).mono ?_; clear D1; rintro e W1 ⟨rfl, h1⟩; have H1 := hideL h1; clear h1 H0)
                    | (go_at_call 29; refine (D2.out _ H1.out).mono ?_; clear D2; rintro e W2 ⟨rfl, h1⟩; have H2 := hideL h1; clear h1 H1)
                    | (go_at_call 35; refine (CE.out _ H2.out).mono ?_; clear CE; rintro e WE ⟨rfl, h1⟩; have HE : Hid (Mc w0 WE b rc a0 R (.slice a1 n1 c1) ya) := hideL (by rw [HYA.out]; exact h1); have xe6 := HE.out.cells.2.2.2.2.2.2.1; have xe7 := HE.out.cells.2.2.2.2.2.2.2; rw [HTS.out] at xe6; clear h1 H2)
                    | (go_at_call 36; refine (D3.out _ HE.out).mono ?_; clear D3; rintro e W3 ⟨rfl, h1⟩; have H3 := hideL h1; clear h1 HE; have xj7 := H3.out.cells.2.2.2.2.2.2.2)
                    | (go_at_call 29; refine (D4.out _ H3.out).mono ?_; clear D4; rintro e W4 ⟨rfl, h1⟩; have H4 := hideL h1; clear h1 H3; have xk7 := H4.out.cells.2.2.2.2.2.2.2))
                  go_step3
                  exact jm_mk HRz.out (.inl ⟨rfl, _, _, HGz.out, H4.out, rfl⟩)
              | cons l r =>
                have en : n1 = r.length + 1 := by rw [hnX, hou]; rfl
                have n1z : ((n1 : Int) == 0) = false := by rw [beq_eq_false_iff_ne]; omega
                have n1p : (0 : Int) < (n1 : Int) := by omega
                obtain ⟨⟨B4, t4⟩, q4⟩ : ∃ x, tK R 9 t3 = x := ⟨_, rfl⟩
                have D4 := hideL ((tks_take (w0 := w0) (b := b) (rc := rc) (a0 := a0) (R := R) 9 (by decide)).at' q4 (.slice a1 n1 c1))
                cases B4 with
                | true =>
                  obtain ⟨⟨B5, t5⟩, q5⟩ : ∃ x, tK R 21 (t4.close' l r) = x := ⟨_, rfl⟩
                  obtain ⟨hpc, hoc, hkc⟩ := p_close hG0 hpb hou q4 q5
                  have CC := hideL (fun W (hW : Mc w0 W b rc a0 R (.slice a1 n1 c1) t4) => close_go hW hkc hoc)
                  have D5 := hideL (fun v2 => (tks_take (w0 := w0) (b := b) (rc := rc) (a0 := a0) (R := R) 21 (by decide)).at' q5 v2)
                  obtain ⟨hGc, hrc⟩ := hpc
                  have HGz := hideL hGc
                  have HRz := hideL hrc
                  clear hG0 q1 q2 hq hts hsg q3 hqj hpb hou hnX en q4 hGc hoc hkc q5 hrc
                  skip
                  go_wp2_with (first
                    | (go_at_call 29; refine (D1.out _ H0.out).mono ?_; clear D1; rintro e W1 ⟨rfl, h1⟩; have H1 := hideL h1; clear h1 H0)
                    | (go_at_call 29; refine (D2.out _ H1.out).mono ?_; clear D2; rintro e W2 ⟨rfl, h1⟩; have H2 := hideL h1; clear h1 H1)
                    | (go_at_call 35; refine (CE.out _ H2.out).mono ?_; clear CE; rintro e WE ⟨rfl, h1⟩; have HE : Hid (Mc w0 WE b rc a0 R (.slice a1 n1 c1) ya) := hideL (by rw [HYA.out]; exact h1); have xe6 := HE.out.cells.2.2.2.2.2.2.1; have xe7 := HE.out.cells.2.2.2.2.2.2.2; rw [HTS.out] at xe6; clear h1 H2)
                    | (go_at_call 36; refine (D3.out _ HE.out).mono ?_; clear D3; rintro e W3 ⟨rfl, h1⟩; have H3 := hideL h1; clear h1 HE; have xj7 := H3.out.cells.2.2.2.2.2.2.2)
                    | (go_at_call 29; refine (D4.out _ H3.out).mono ?_; clear D4; rintro e W4 ⟨rfl, h1⟩; have H4 := hideL h1; clear h1 H3)
                    | (go_at_call 37; refine (CC.out _ H4.out).mono ?_; clear CC; rintro e WC ⟨rfl, v2, h1⟩; have HC := hideL h1; clear h1 H4)
                    | (go_at_call 29; refine (D5.out v2 _ HC.out).mono ?_; clear D5; rintro e WD ⟨rfl, h1⟩; have HD := hideL h1; clear h1 HC))
                  go_step3
                  exact jm_mk HRz.out (.inr (.inr (.inr (.inr (.inr ⟨rfl, _, _, HGz.out, HD.out, rfl⟩)))))
                | false =>
                  obtain ⟨hG5, hr5⟩ := p_clause hG0 hpb hou q4
                  have HGz := hideL hG5
                  have HRz := hideL hr5
                  clear hG0 q1 q2 hq hts hsg q3 hqj hpb hou hnX en q4 hG5 hr5
                  skip
                  go_wp2_with (first
                    | (go_at_call 29; refine (D1.out _ H0.out).mono ?_; clear D1; rintro e W1 ⟨rfl, h1⟩; have H1 := hideL h1; clear h1 H0)
                    | (go_at_call 29; refine (D2.out _ H1.out).mono ?_; clear D2; rintro e W2 ⟨rfl, h1⟩; have H2 := hideL h1; clear h1 H1)
                    | (go_at_call 35; refine (CE.out _ H2.out).mono ?_; clear CE; rintro e WE ⟨rfl, h1⟩; have HE : Hid (Mc w0 WE b rc a0 R (.slice a1 n1 c1) ya) := hideL (by rw [HYA.out]; exact h1); have xe6 := HE.out.cells.2.2.2.2.2.2.1; have xe7 := HE.out.cells.2.2.2.2.2.2.2; rw [HTS.out] at xe6; clear h1 H2)
                    | (go_at_call 36; refine (D3.out _ HE.out).mono ?_; clear D3; rintro e W3 ⟨rfl, h1⟩; have H3 := hideL h1; clear h1 HE; have xj7 := H3.out.cells.2.2.2.2.2.2.2)
                    | (go_at_call 29; refine (D4.out _ H3.out).mono ?_; clear D4; rintro e W4 ⟨rfl, h1⟩; have H4 := hideL h1; clear h1 H3))
                  go_step3
                  exact jm_mk HRz.out (.inl ⟨rfl, _, _, HGz.out, H4.out, rfl⟩)
end Go.Proofs.YtiemiphlfbaojaaDoor
