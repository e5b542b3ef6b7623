import Derived.Test.YtiemiphlfbaojaaDoorMrg8
namespace Go.Proofs.YtiemiphlfbaojaaDoor
open Go.ChangeShapes Go.WideShapes Go.ChangeAt Go.RowKit
variable {w : World} {R : List Tn}

theorem ClsW.cut {wr : World} {ob : Nat} {E : List Int} {v : Value} {m p : Nat} {st : List Nat} (h : ClsW w wr ob E v m (p :: st)) : ∃ g c m', v = .slice (some ⟨g, 0, none⟩) (m' + 1) c ∧ m = m' + 1 ∧ m' ≤ c ∧ wr.cell? ⟨g, m', none⟩ = some (.int .i64 (p : Int)) ∧ ClsW w wr ob E (.slice (some ⟨g, 0, none⟩) m' c) m' st := by
  have hs := h.stk
  have hm := h.num
  rw [List.length_cons] at hm
  subst hm
  rw [stI_cons, iv_app] at hs
  have hl : (iv (stI st)).length = st.length := by rw [iv_len, stI_len]
  rcases hs.2 with ⟨_, e2⟩ | ⟨g, cap, cur, rfl, hb, hh, h1, h2, h3, h4⟩
  · simp at e2
  · have hc : wr.cell? ⟨g, st.length, none⟩ = some (.int .i64 (p : Int)) := by
      have := hs.cells (g := g) rfl st.length (.int .i64 (p : Int)) (by rw [List.getElem?_append_right (by omega), hl, Nat.sub_self]; rfl)
      have hplain : (⟨g, 0, none⟩ : Addr).add st.length = ⟨g, st.length, none⟩ := by unfold Addr.add; split <;> simp_all
      rwa [hplain] at this
    have hown : wr.ownsRow (ob + 1) 3 1 (.slice (some ⟨g, 0, none⟩) st.length cap) st.length (iv (stI st)) := by
      refine ⟨by rw [hl]; omega, .inr ⟨g, cap, cur, rfl, hb, hh, by omega, h2, h3, ?_⟩⟩
      have h5 := congrArg (List.take st.length) h4
      rw [List.take_take, List.take_left' hl] at h5
      rw [show min st.length ((st.length + 1) * 1) = st.length by omega] at h5
      rw [Nat.mul_one]
      exact h5
    exact ⟨g, cap, st.length, rfl, rfl, by omega, hc, h.kept, h.tab, h.new, hown, rfl⟩
theorem nw_start {w w1 : World} {g : Nat} {E : List Int} (k : Kept (fun _ => False) w w1) (hg : w.heap.size ≤ g) (ht : w1.heap[g]? = some (.cells (iv E).toArray 3)) : ClsW w (w1.alloc (.cells #[] 3)) g E (.slice (some ⟨w1.heap.size, 0, none⟩) 0 0) 0 [] := by
  have K2 := Kept.alloc w1 (.cells #[] 3)
  have hlt : g < w1.heap.size := (Array.getElem?_eq_some_iff.1 ht).1
  refine ⟨k.trans K2 (fun _ f => f.elim), K2.heap ht (fun f => f), hg, ⟨rfl, .inr ⟨w1.heap.size, 0, #[], rfl, by omega, heap_alloc_new w1 _, Nat.le_refl _, by unfold maxLen; omega, rfl, rfl⟩⟩, rfl⟩
set_option maxRecDepth 20000 in
set_option maxHeartbeats 8000000 in
theorem nest_any (R : List Tn) (n : Nat) (hn : n = R.length) (a0 : Option Addr) (rc : Nat) (w : World) (hR : Rw w a0 R) (hr : n ≤ 2000000) (hOK : rfR R ≠ none) (hE : EndR R) : Calls Tryd.prog 15 #[.slice a0 n rc] w fun e w' => e = .returned (.int .i64 ((nsL R 0 0 0 [] : Nat) : Int)) ∧ Kept (fun _ => False) w w' := by
  have CC := hideL (closes_any R n hn a0 rc w hR (by omega) hOK hE)
  have HR := hideL hR
  have HN := hideL hn
  have HOK := hideL hOK
  have HE := hideL hE
  have HS0 := hideL (ns_zero R)
  have HB : Hid (R.length ≤ 2000000) := hideL (by omega)
  clear hR hn hOK hE
  generalize nsL R 0 0 0 [] = N at *
  go_enter Tryd.func15, Tryd.ntmps15
  go_wp2_with (go_at_call 27; refine CC.out.mono ?_; clear CC; rintro e W1 ⟨g, rfl, k1, hg, E, ht, hT⟩; have HW0 := hideL (nw_start k1 hg ht); have HT := hideL hT; clear k1 hg ht hT)
  generalize W1.alloc (.cells #[] 3) = W2 at *
  obtain ⟨sb, hsb⟩ : ∃ sb, sb = W1.heap.size := ⟨_, rfl⟩
  rw [← hsb] at HW0 ⊢
  clear hsb W1
  have HD0 : Hid (0 = ([] : List Nat).sum) := hideL rfl
  go_loopw [4, 5, 6, 7, 8] (fun mv tv dv vv jv wr => ∃ (i m t d k : Nat) (a : Option Addr) (c : Nat) (ws : List Nat), i ≤ n ∧ m ≤ 9000000000000 ∧ t ≤ i ∧ d ≤ 9000000000000 ∧ k ≤ i ∧ mv = .int .i64 m ∧ tv = .int .i64 t ∧ dv = .int .i64 d ∧ vv = .slice a k c ∧ jv = .int .i64 i ∧ Hid (d = ws.sum) ∧ Hid (NsS R N i m t ws) ∧ Hid (ClsW w wr g E (.slice a k c) k ws)) (fun _ _ _ _ jv _ => n - (intOf jv).toNat)
  case atStart => exact ⟨0, 0, 0, 0, 0, _, _, [], by omega, by omega, by omega, by omega, by omega, rfl, rfl, rfl, rfl, rfl, HD0, HS0, HW0⟩
  case round =>
    obtain ⟨i, m, t, d, k, a, c, ws, hi, hm, ht, hd, hk, rfl, rfl, rfl, rfl, rfl, HD, HS, HW⟩ := hrel
    clear HS0 HW0 HD0
    by_cases hlt : i < n
    · have hiz : (i : Int) < (n : Int) := by omega
      have HIL : Hid (i < R.length) := hideL (by rw [← HN.out]; exact hlt)
      have HRr := hideL (HR.out.later HW.out.kept)
      obtain ⟨g0, o0, e0, y0⟩ := rw_kind HRr.out HIL.out
      have hsv : g + 1 ≤ wr.heap.size := by have := HW.out.obs; omega
      subst e0
      obtain ⟨yk, hyk⟩ : ∃ yk, yk = (tkA R i).k := ⟨_, rfl⟩
      rw [← hyk] at y0
      have HY : Hid (∀ j : Nat, yk = (j : Int) → isK j (tkA R i) = true) := hideL (fun j e => by rw [hyk] at e; unfold isK; rw [e]; simp)
      have HZ : Hid (∀ j : Nat, yk ≠ (j : Int) → isK j (tkA R i) = false) := hideL (fun j e => by rw [hyk] at e; unfold isK; simpa using e)
      clear hyk
      by_cases q6 : yk = 6
      · subst q6
        have HS2 := hideL (ns_not HOK.out HIL.out HS.out (HY.out 6 rfl))
        clear HS HY HZ HRr
        go_wp2_with fail
        go_roundw
        case rel => exact ⟨i + 1, m, t + 1, d, k, a, c, ws, by omega, hm, by omega, hd, by omega, rfl, by go_num, rfl, rfl, by go_num, HD, HS2, HW⟩
        case measure => simp [intOf] <;> omega
      by_cases q8 : yk = 8
      · subst q8
        obtain ⟨e, hE1, hE2, hE3⟩ := HT.out.2 i HIL.out (HY.out 8 rfl)
        obtain ⟨S, hS⟩ : ∃ S, S = sufL (R.drop (e + 1)) := ⟨_, rfl⟩
        have hSb : S ≤ n := by have := suf_len (R.drop (e + 1)); rw [List.length_drop] at this; have := HN.out; omega
        have CS : Hid (Calls Tryd.prog 28 #[.slice (some ⟨g0, o0, none⟩) n rc, .int .i64 ((e : Int) + 1)] wr fun x w' => x = .returned (.int .i64 (S : Int)) ∧ w' = wr) := hideL (by
          have := suf_any R n HN.out _ rc wr HRr.out (by omega) (e + 1) (by omega)
          rw [← hS] at this
          exact this)
        have HS2 := hideL (ns_open HOK.out HB.out HIL.out HS.out (HY.out 8 rfl) S (by rw [hS]; exact hE3) (by have := HN.out; omega))
        have HD2 : Hid (d + (1 + t + S) = ((1 + t + S) :: ws).sum) := hideL (by rw [List.sum_cons, ← HD.out]; omega)
        have hd2 : d + (1 + t + S) ≤ 9000000000000 := by have h1 := HS2.out.sum; rw [← HD2.out] at h1; omega
        have x0 : wr.cell? ⟨g, i, none⟩ = some (.int .i64 (e : Int)) := by
          unfold World.cell?
          have := List.getElem?_eq_some_iff.1 hE1
          obtain ⟨hl, he⟩ := this
          have h3 := iv_at hl
          rw [he] at h3
          simp [HW.out.tab, h3]
        clear HS HY HZ HRr hS hE1 hE3
        have HO := hideL HW.out.stk
        go_wp2_with first
          | (go_at_call 28; refine CS.out.mono ?_; clear CS; rintro x W3 ⟨rfl, rfl⟩)
          | (at_builtin; refine wpList_pushO (base := g + 1) rfl _ _ rfl (.slice a k c) k _ ((1 + t + S : Nat) : Int) rfl HO hsv _ (by first | rfl | simp) rfl (by omega) ?_; intro a4 c4 W6 G6 K6; have HF6 := hideL (HW.out.push (1 + t + S) G6.out K6.out); clear G6 K6 HO HW)
        go_roundw
        case rel => exact ⟨i + 1, m, 0, d + (1 + t + S), k + 1, _, _, _, by omega, hm, by omega, hd2, by omega, rfl, rfl, by go_num, rfl, by go_num, HD2, HS2, HF6⟩
        case measure => simp [intOf] <;> omega
      by_cases q9 : yk = 9
      · subst q9
        obtain ⟨x, ws', rfl, hS2⟩ := ns_close HOK.out HIL.out HS.out (HY.out 9 rfl)
        have HS2 := hideL hS2
        have hds := HD.out
        rw [List.sum_cons] at hds
        obtain ⟨d', hd'⟩ : ∃ d', d' = ws'.sum := ⟨_, rfl⟩
        rw [← hd'] at hds
        have HD2 := hideL hd'
        obtain ⟨gg, cc, m', e1, rfl, hmc, z0, hW3⟩ := HW.out.cut
        have HW3 := hideL hW3
        injection e1 with e1 e2 e3
        subst e1
        subst e3
        subst hds
        have hmz : (m' : Int) < (m' : Int) + 1 := by omega
        have hmcz : (m' : Int) ≤ (c : Int) := by omega
        clear HS HY HZ HRr hS2 hd' hW3 e2 HW HD
        go_wp2_with fail
        go_roundw
        case rel => exact ⟨i + 1, m, t, d', m', _, _, _, by omega, hm, by omega, by omega, by omega, rfl, rfl, by go_num, rfl, by go_num, HD2, HS2, HW3⟩
        case measure => simp [intOf] <;> omega
      by_cases q10 : yk = 10
      · subst q10
        obtain ⟨S, hS⟩ : ∃ S, S = sufL (R.drop (i + 5)) := ⟨_, rfl⟩
        have hSb : S ≤ n := by have := suf_len (R.drop (i + 5)); rw [List.length_drop] at this; have := HN.out; omega
        have CS : Hid (Calls Tryd.prog 28 #[.slice (some ⟨g0, o0, none⟩) n rc, .int .i64 ((i : Int) + 5)] wr fun x w' => x = .returned (.int .i64 (S : Int)) ∧ w' = wr) := hideL (by
          have := suf_any R n HN.out _ rc wr HRr.out (by omega) (i + 5) (by omega)
          rw [← hS] at this
          exact this)
        obtain ⟨hS2, hl5⟩ := ns_span HOK.out HE.out HB.out HIL.out HS.out (.inl (HY.out 10 rfl))
        have hl5 : i + 5 ≤ n := by have := HN.out; omega
        rw [← hS, ← HD.out] at hS2
        have hmb := hS2.most
        by_cases hlm : (m : Int) < (d : Int) + (t : Int) + (S : Int)
        · have HS2 : Hid (NsS R N (i + 5) (d + t + S) 0 ws) := hideL (by rw [Nat.max_eq_right (by omega)] at hS2; exact hS2)
          have hmb2 : d + t + S ≤ 9000000000000 := by omega
          clear HS HY HZ HRr hS hS2 hmb
          go_wp2_with (go_at_call 28; refine CS.out.mono ?_; clear CS; rintro x W3 ⟨rfl, rfl⟩)
          go_roundw
          case rel => exact ⟨i + 5, d + t + S, 0, d, k, a, c, ws, by omega, hmb2, by omega, hd, by omega, by go_num, rfl, rfl, rfl, by go_num, HD, HS2, HW⟩
          case measure => simp [intOf] <;> omega
        · have HS2 : Hid (NsS R N (i + 5) m 0 ws) := hideL (by rw [Nat.max_eq_left (by omega)] at hS2; exact hS2)
          clear HS HY HZ HRr hS hS2 hmb
          go_wp2_with (go_at_call 28; refine CS.out.mono ?_; clear CS; rintro x W3 ⟨rfl, rfl⟩)
          go_roundw
          case rel => exact ⟨i + 5, m, 0, d, k, a, c, ws, by omega, hm, by omega, hd, by omega, rfl, rfl, rfl, rfl, by go_num, HD, HS2, HW⟩
          case measure => simp [intOf] <;> omega
      by_cases q12 : yk = 12
      · subst q12
        obtain ⟨S, hS⟩ : ∃ S, S = sufL (R.drop (i + 5)) := ⟨_, rfl⟩
        have hSb : S ≤ n := by have := suf_len (R.drop (i + 5)); rw [List.length_drop] at this; have := HN.out; omega
        have CS : Hid (Calls Tryd.prog 28 #[.slice (some ⟨g0, o0, none⟩) n rc, .int .i64 ((i : Int) + 5)] wr fun x w' => x = .returned (.int .i64 (S : Int)) ∧ w' = wr) := hideL (by
          have := suf_any R n HN.out _ rc wr HRr.out (by omega) (i + 5) (by omega)
          rw [← hS] at this
          exact this)
        obtain ⟨hS2, hl5⟩ := ns_span HOK.out HE.out HB.out HIL.out HS.out (.inr (HY.out 12 rfl))
        have hl5 : i + 5 ≤ n := by have := HN.out; omega
        rw [← hS, ← HD.out] at hS2
        have hmb := hS2.most
        by_cases hlm : (m : Int) < (d : Int) + (t : Int) + (S : Int)
        · have HS2 : Hid (NsS R N (i + 5) (d + t + S) 0 ws) := hideL (by rw [Nat.max_eq_right (by omega)] at hS2; exact hS2)
          have hmb2 : d + t + S ≤ 9000000000000 := by omega
          clear HS HY HZ HRr hS hS2 hmb
          go_wp2_with (go_at_call 28; refine CS.out.mono ?_; clear CS; rintro x W3 ⟨rfl, rfl⟩)
          go_roundw
          case rel => exact ⟨i + 5, d + t + S, 0, d, k, a, c, ws, by omega, hmb2, by omega, hd, by omega, by go_num, rfl, rfl, rfl, by go_num, HD, HS2, HW⟩
          case measure => simp [intOf] <;> omega
        · have HS2 : Hid (NsS R N (i + 5) m 0 ws) := hideL (by rw [Nat.max_eq_left (by omega)] at hS2; exact hS2)
          clear HS HY HZ HRr hS hS2 hmb
          go_wp2_with (go_at_call 28; refine CS.out.mono ?_; clear CS; rintro x W3 ⟨rfl, rfl⟩)
          go_roundw
          case rel => exact ⟨i + 5, m, 0, d, k, a, c, ws, by omega, hm, by omega, hd, by omega, rfl, rfl, rfl, rfl, by go_num, HD, HS2, HW⟩
          case measure => simp [intOf] <;> omega
      by_cases q1 : yk = 1
      · subst q1
        by_cases hlt2 : i + 1 < n
        · have hiz2 : (i : Int) + 1 < (n : Int) := by omega
          obtain ⟨g1, o1, e1, z0⟩ := rw_kind HRr.out (j := i + 1) (by rw [← HN.out]; exact hlt2)
          obtain ⟨rfl, rfl⟩ : g0 = g1 ∧ o0 = o1 := by injection e1 with e1; injection e1 with h1 h2 _; exact ⟨h1, h2⟩
          cases q14 : isK 14 (tkA R (i + 1)) with
          | true =>
            have b14 : ((tkA R (i + 1)).k == 14) = true := q14
            have HS2 := hideL (ns_colon HOK.out HIL.out HS.out 1 (.inl rfl) (HY.out 1 rfl) (by rw [← HN.out]; exact hlt2) q14)
            generalize (tkA R (i + 1)).k = zk at *
            clear HS HY HZ HRr q14 e1
            go_wp2_with fail
            go_roundw
            case rel => exact ⟨i + 2, m, t, d, k, a, c, ws, by omega, hm, by omega, hd, by omega, rfl, rfl, rfl, rfl, by go_num, HD, HS2, HW⟩
            case measure => simp [intOf] <;> omega
          | false =>
            have b14 : ((tkA R (i + 1)).k == 14) = false := q14
            have HNC : Hid (¬ (i + 1 < R.length ∧ isK 14 (tkA R (i + 1)) = true)) := hideL (fun h => by rw [q14] at h; cases h.2)
            generalize (tkA R (i + 1)).k = zk at *
            clear q14 e1
            obtain ⟨S, hS⟩ : ∃ S, S = sufL (R.drop (i + 1)) := ⟨_, rfl⟩
            have hSb : S ≤ n := by have := suf_len (R.drop (i + 1)); rw [List.length_drop] at this; have := HN.out; omega
            have CS : Hid (Calls Tryd.prog 28 #[.slice (some ⟨g0, o0, none⟩) n rc, .int .i64 ((i : Int) + 1)] wr fun x w' => x = .returned (.int .i64 (S : Int)) ∧ w' = wr) := hideL (by
              have := suf_any R n HN.out _ rc wr HRr.out (by omega) (i + 1) (by omega)
              rw [← hS] at this
              exact this)
            have hS2 := ns_leaf HOK.out HB.out HIL.out HS.out 1 (.inl rfl) (HY.out 1 rfl) HNC.out
            rw [← hS, ← HD.out] at hS2
            have hmb := hS2.most
            by_cases hlm : (m : Int) < (d : Int) + (t : Int) + (S : Int)
            · have HS2 : Hid (NsS R N (i + 1) (d + t + S) 0 ws) := hideL (by rw [Nat.max_eq_right (by omega)] at hS2; exact hS2)
              have hmb2 : d + t + S ≤ 9000000000000 := by omega
              clear HS HY HZ HRr hS hS2 hmb
              go_wp2_with (go_at_call 28; refine CS.out.mono ?_; clear CS; rintro x W3 ⟨rfl, rfl⟩)
              go_roundw
              case rel => exact ⟨i + 1, d + t + S, 0, d, k, a, c, ws, by omega, hmb2, by omega, hd, by omega, by go_num, rfl, rfl, rfl, by go_num, HD, HS2, HW⟩
              case measure => simp [intOf] <;> omega
            · have HS2 : Hid (NsS R N (i + 1) m 0 ws) := hideL (by rw [Nat.max_eq_left (by omega)] at hS2; exact hS2)
              clear HS HY HZ HRr hS hS2 hmb
              go_wp2_with (go_at_call 28; refine CS.out.mono ?_; clear CS; rintro x W3 ⟨rfl, rfl⟩)
              go_roundw
              case rel => exact ⟨i + 1, m, 0, d, k, a, c, ws, by omega, hm, by omega, hd, by omega, rfl, rfl, rfl, rfl, by go_num, HD, HS2, HW⟩
              case measure => simp [intOf] <;> omega
        · have hiz2 : ¬ (i : Int) + 1 < (n : Int) := by omega
          have HNC : Hid (¬ (i + 1 < R.length ∧ isK 14 (tkA R (i + 1)) = true)) := hideL (fun h => by have := HN.out; omega)
          obtain ⟨S, hS⟩ : ∃ S, S = sufL (R.drop (i + 1)) := ⟨_, rfl⟩
          have hSb : S ≤ n := by have := suf_len (R.drop (i + 1)); rw [List.length_drop] at this; have := HN.out; omega
          have CS : Hid (Calls Tryd.prog 28 #[.slice (some ⟨g0, o0, none⟩) n rc, .int .i64 ((i : Int) + 1)] wr fun x w' => x = .returned (.int .i64 (S : Int)) ∧ w' = wr) := hideL (by
            have := suf_any R n HN.out _ rc wr HRr.out (by omega) (i + 1) (by omega)
            rw [← hS] at this
            exact this)
          have hS2 := ns_leaf HOK.out HB.out HIL.out HS.out 1 (.inl rfl) (HY.out 1 rfl) HNC.out
          rw [← hS, ← HD.out] at hS2
          have hmb := hS2.most
          by_cases hlm : (m : Int) < (d : Int) + (t : Int) + (S : Int)
          · have HS2 : Hid (NsS R N (i + 1) (d + t + S) 0 ws) := hideL (by rw [Nat.max_eq_right (by omega)] at hS2; exact hS2)
            have hmb2 : d + t + S ≤ 9000000000000 := by omega
            clear HS HY HZ HRr hS hS2 hmb
            go_wp2_with (go_at_call 28; refine CS.out.mono ?_; clear CS; rintro x W3 ⟨rfl, rfl⟩)
            go_roundw
            case rel => exact ⟨i + 1, d + t + S, 0, d, k, a, c, ws, by omega, hmb2, by omega, hd, by omega, by go_num, rfl, rfl, rfl, by go_num, HD, HS2, HW⟩
            case measure => simp [intOf] <;> omega
          · have HS2 : Hid (NsS R N (i + 1) m 0 ws) := hideL (by rw [Nat.max_eq_left (by omega)] at hS2; exact hS2)
            clear HS HY HZ HRr hS hS2 hmb
            go_wp2_with (go_at_call 28; refine CS.out.mono ?_; clear CS; rintro x W3 ⟨rfl, rfl⟩)
            go_roundw
            case rel => exact ⟨i + 1, m, 0, d, k, a, c, ws, by omega, hm, by omega, hd, by omega, rfl, rfl, rfl, rfl, by go_num, HD, HS2, HW⟩
            case measure => simp [intOf] <;> omega
      by_cases q2 : yk = 2
      · subst q2
        by_cases hlt2 : i + 1 < n
        · have hiz2 : (i : Int) + 1 < (n : Int) := by omega
          obtain ⟨g1, o1, e1, z0⟩ := rw_kind HRr.out (j := i + 1) (by rw [← HN.out]; exact hlt2)
          obtain ⟨rfl, rfl⟩ : g0 = g1 ∧ o0 = o1 := by injection e1 with e1; injection e1 with h1 h2 _; exact ⟨h1, h2⟩
          cases q14 : isK 14 (tkA R (i + 1)) with
          | true =>
            have b14 : ((tkA R (i + 1)).k == 14) = true := q14
            have HS2 := hideL (ns_colon HOK.out HIL.out HS.out 2 (.inr (.inl rfl)) (HY.out 2 rfl) (by rw [← HN.out]; exact hlt2) q14)
            generalize (tkA R (i + 1)).k = zk at *
            clear HS HY HZ HRr q14 e1
            go_wp2_with fail
            go_roundw
            case rel => exact ⟨i + 2, m, t, d, k, a, c, ws, by omega, hm, by omega, hd, by omega, rfl, rfl, rfl, rfl, by go_num, HD, HS2, HW⟩
            case measure => simp [intOf] <;> omega
          | false =>
            have b14 : ((tkA R (i + 1)).k == 14) = false := q14
            have HNC : Hid (¬ (i + 1 < R.length ∧ isK 14 (tkA R (i + 1)) = true)) := hideL (fun h => by rw [q14] at h; cases h.2)
            generalize (tkA R (i + 1)).k = zk at *
            clear q14 e1
            obtain ⟨S, hS⟩ : ∃ S, S = sufL (R.drop (i + 1)) := ⟨_, rfl⟩
            have hSb : S ≤ n := by have := suf_len (R.drop (i + 1)); rw [List.length_drop] at this; have := HN.out; omega
            have CS : Hid (Calls Tryd.prog 28 #[.slice (some ⟨g0, o0, none⟩) n rc, .int .i64 ((i : Int) + 1)] wr fun x w' => x = .returned (.int .i64 (S : Int)) ∧ w' = wr) := hideL (by
              have := suf_any R n HN.out _ rc wr HRr.out (by omega) (i + 1) (by omega)
              rw [← hS] at this
              exact this)
            have hS2 := ns_leaf HOK.out HB.out HIL.out HS.out 2 (.inr (.inl rfl)) (HY.out 2 rfl) HNC.out
            rw [← hS, ← HD.out] at hS2
            have hmb := hS2.most
            by_cases hlm : (m : Int) < (d : Int) + (t : Int) + (S : Int)
            · have HS2 : Hid (NsS R N (i + 1) (d + t + S) 0 ws) := hideL (by rw [Nat.max_eq_right (by omega)] at hS2; exact hS2)
              have hmb2 : d + t + S ≤ 9000000000000 := by omega
              clear HS HY HZ HRr hS hS2 hmb
              go_wp2_with (go_at_call 28; refine CS.out.mono ?_; clear CS; rintro x W3 ⟨rfl, rfl⟩)
              go_roundw
              case rel => exact ⟨i + 1, d + t + S, 0, d, k, a, c, ws, by omega, hmb2, by omega, hd, by omega, by go_num, rfl, rfl, rfl, by go_num, HD, HS2, HW⟩
              case measure => simp [intOf] <;> omega
            · have HS2 : Hid (NsS R N (i + 1) m 0 ws) := hideL (by rw [Nat.max_eq_left (by omega)] at hS2; exact hS2)
              clear HS HY HZ HRr hS hS2 hmb
              go_wp2_with (go_at_call 28; refine CS.out.mono ?_; clear CS; rintro x W3 ⟨rfl, rfl⟩)
              go_roundw
              case rel => exact ⟨i + 1, m, 0, d, k, a, c, ws, by omega, hm, by omega, hd, by omega, rfl, rfl, rfl, rfl, by go_num, HD, HS2, HW⟩
              case measure => simp [intOf] <;> omega
        · have hiz2 : ¬ (i : Int) + 1 < (n : Int) := by omega
          have HNC : Hid (¬ (i + 1 < R.length ∧ isK 14 (tkA R (i + 1)) = true)) := hideL (fun h => by have := HN.out; omega)
          obtain ⟨S, hS⟩ : ∃ S, S = sufL (R.drop (i + 1)) := ⟨_, rfl⟩
          have hSb : S ≤ n := by have := suf_len (R.drop (i + 1)); rw [List.length_drop] at this; have := HN.out; omega
          have CS : Hid (Calls Tryd.prog 28 #[.slice (some ⟨g0, o0, none⟩) n rc, .int .i64 ((i : Int) + 1)] wr fun x w' => x = .returned (.int .i64 (S : Int)) ∧ w' = wr) := hideL (by
            have := suf_any R n HN.out _ rc wr HRr.out (by omega) (i + 1) (by omega)
            rw [← hS] at this
            exact this)
          have hS2 := ns_leaf HOK.out HB.out HIL.out HS.out 2 (.inr (.inl rfl)) (HY.out 2 rfl) HNC.out
          rw [← hS, ← HD.out] at hS2
          have hmb := hS2.most
          by_cases hlm : (m : Int) < (d : Int) + (t : Int) + (S : Int)
          · have HS2 : Hid (NsS R N (i + 1) (d + t + S) 0 ws) := hideL (by rw [Nat.max_eq_right (by omega)] at hS2; exact hS2)
            have hmb2 : d + t + S ≤ 9000000000000 := by omega
            clear HS HY HZ HRr hS hS2 hmb
            go_wp2_with (go_at_call 28; refine CS.out.mono ?_; clear CS; rintro x W3 ⟨rfl, rfl⟩)
            go_roundw
            case rel => exact ⟨i + 1, d + t + S, 0, d, k, a, c, ws, by omega, hmb2, by omega, hd, by omega, by go_num, rfl, rfl, rfl, by go_num, HD, HS2, HW⟩
            case measure => simp [intOf] <;> omega
          · have HS2 : Hid (NsS R N (i + 1) m 0 ws) := hideL (by rw [Nat.max_eq_left (by omega)] at hS2; exact hS2)
            clear HS HY HZ HRr hS hS2 hmb
            go_wp2_with (go_at_call 28; refine CS.out.mono ?_; clear CS; rintro x W3 ⟨rfl, rfl⟩)
            go_roundw
            case rel => exact ⟨i + 1, m, 0, d, k, a, c, ws, by omega, hm, by omega, hd, by omega, rfl, rfl, rfl, rfl, by go_num, HD, HS2, HW⟩
            case measure => simp [intOf] <;> omega
      by_cases q3 : yk = 3
      · subst q3
        by_cases hlt2 : i + 1 < n
        · have hiz2 : (i : Int) + 1 < (n : Int) := by omega
          obtain ⟨g1, o1, e1, z0⟩ := rw_kind HRr.out (j := i + 1) (by rw [← HN.out]; exact hlt2)
          obtain ⟨rfl, rfl⟩ : g0 = g1 ∧ o0 = o1 := by injection e1 with e1; injection e1 with h1 h2 _; exact ⟨h1, h2⟩
          cases q14 : isK 14 (tkA R (i + 1)) with
          | true =>
            have b14 : ((tkA R (i + 1)).k == 14) = true := q14
            have HS2 := hideL (ns_colon HOK.out HIL.out HS.out 3 (.inr (.inr rfl)) (HY.out 3 rfl) (by rw [← HN.out]; exact hlt2) q14)
            generalize (tkA R (i + 1)).k = zk at *
            clear HS HY HZ HRr q14 e1
            go_wp2_with fail
            go_roundw
            case rel => exact ⟨i + 2, m, t, d, k, a, c, ws, by omega, hm, by omega, hd, by omega, rfl, rfl, rfl, rfl, by go_num, HD, HS2, HW⟩
            case measure => simp [intOf] <;> omega
          | false =>
            have b14 : ((tkA R (i + 1)).k == 14) = false := q14
            have HNC : Hid (¬ (i + 1 < R.length ∧ isK 14 (tkA R (i + 1)) = true)) := hideL (fun h => by rw [q14] at h; cases h.2)
            generalize (tkA R (i + 1)).k = zk at *
            clear q14 e1
            obtain ⟨S, hS⟩ : ∃ S, S = sufL (R.drop (i + 1)) := ⟨_, rfl⟩
            have hSb : S ≤ n := by have := suf_len (R.drop (i + 1)); rw [List.length_drop] at this; have := HN.out; omega
            have CS : Hid (Calls Tryd.prog 28 #[.slice (some ⟨g0, o0, none⟩) n rc, .int .i64 ((i : Int) + 1)] wr fun x w' => x = .returned (.int .i64 (S : Int)) ∧ w' = wr) := hideL (by
              have := suf_any R n HN.out _ rc wr HRr.out (by omega) (i + 1) (by omega)
              rw [← hS] at this
              exact this)
            have hS2 := ns_leaf HOK.out HB.out HIL.out HS.out 3 (.inr (.inr rfl)) (HY.out 3 rfl) HNC.out
            rw [← hS, ← HD.out] at hS2
            have hmb := hS2.most
            by_cases hlm : (m : Int) < (d : Int) + (t : Int) + (S : Int)
            · have HS2 : Hid (NsS R N (i + 1) (d + t + S) 0 ws) := hideL (by rw [Nat.max_eq_right (by omega)] at hS2; exact hS2)
              have hmb2 : d + t + S ≤ 9000000000000 := by omega
              clear HS HY HZ HRr hS hS2 hmb
              go_wp2_with (go_at_call 28; refine CS.out.mono ?_; clear CS; rintro x W3 ⟨rfl, rfl⟩)
              go_roundw
              case rel => exact ⟨i + 1, d + t + S, 0, d, k, a, c, ws, by omega, hmb2, by omega, hd, by omega, by go_num, rfl, rfl, rfl, by go_num, HD, HS2, HW⟩
              case measure => simp [intOf] <;> omega
            · have HS2 : Hid (NsS R N (i + 1) m 0 ws) := hideL (by rw [Nat.max_eq_left (by omega)] at hS2; exact hS2)
              clear HS HY HZ HRr hS hS2 hmb
              go_wp2_with (go_at_call 28; refine CS.out.mono ?_; clear CS; rintro x W3 ⟨rfl, rfl⟩)
              go_roundw
              case rel => exact ⟨i + 1, m, 0, d, k, a, c, ws, by omega, hm, by omega, hd, by omega, rfl, rfl, rfl, rfl, by go_num, HD, HS2, HW⟩
              case measure => simp [intOf] <;> omega
        · have hiz2 : ¬ (i : Int) + 1 < (n : Int) := by omega
          have HNC : Hid (¬ (i + 1 < R.length ∧ isK 14 (tkA R (i + 1)) = true)) := hideL (fun h => by have := HN.out; omega)
          obtain ⟨S, hS⟩ : ∃ S, S = sufL (R.drop (i + 1)) := ⟨_, rfl⟩
          have hSb : S ≤ n := by have := suf_len (R.drop (i + 1)); rw [List.length_drop] at this; have := HN.out; omega
          have CS : Hid (Calls Tryd.prog 28 #[.slice (some ⟨g0, o0, none⟩) n rc, .int .i64 ((i : Int) + 1)] wr fun x w' => x = .returned (.int .i64 (S : Int)) ∧ w' = wr) := hideL (by
            have := suf_any R n HN.out _ rc wr HRr.out (by omega) (i + 1) (by omega)
            rw [← hS] at this
            exact this)
          have hS2 := ns_leaf HOK.out HB.out HIL.out HS.out 3 (.inr (.inr rfl)) (HY.out 3 rfl) HNC.out
          rw [← hS, ← HD.out] at hS2
          have hmb := hS2.most
          by_cases hlm : (m : Int) < (d : Int) + (t : Int) + (S : Int)
          · have HS2 : Hid (NsS R N (i + 1) (d + t + S) 0 ws) := hideL (by rw [Nat.max_eq_right (by omega)] at hS2; exact hS2)
            have hmb2 : d + t + S ≤ 9000000000000 := by omega
            clear HS HY HZ HRr hS hS2 hmb
            go_wp2_with (go_at_call 28; refine CS.out.mono ?_; clear CS; rintro x W3 ⟨rfl, rfl⟩)
            go_roundw
            case rel => exact ⟨i + 1, d + t + S, 0, d, k, a, c, ws, by omega, hmb2, by omega, hd, by omega, by go_num, rfl, rfl, rfl, by go_num, HD, HS2, HW⟩
            case measure => simp [intOf] <;> omega
          · have HS2 : Hid (NsS R N (i + 1) m 0 ws) := hideL (by rw [Nat.max_eq_left (by omega)] at hS2; exact hS2)
            clear HS HY HZ HRr hS hS2 hmb
            go_wp2_with (go_at_call 28; refine CS.out.mono ?_; clear CS; rintro x W3 ⟨rfl, rfl⟩)
            go_roundw
            case rel => exact ⟨i + 1, m, 0, d, k, a, c, ws, by omega, hm, by omega, hd, by omega, rfl, rfl, rfl, rfl, by go_num, HD, HS2, HW⟩
            case measure => simp [intOf] <;> omega
      have HS2 : Hid (NsS R N (i + 1) m t ws) := hideL (ns_else HOK.out HIL.out HS.out (by unfold ovB; rw [HZ.out 6 q6, HZ.out 8 q8, HZ.out 9 q9, HZ.out 10 q10, HZ.out 12 q12, HZ.out 1 q1, HZ.out 2 q2, HZ.out 3 q3]; rfl))
      have b6 : (yk == (6 : Int)) = false := by simpa using q6
      have b8 : (yk == (8 : Int)) = false := by simpa using q8
      have b9 : (yk == (9 : Int)) = false := by simpa using q9
      have b10 : (yk == (10 : Int)) = false := by simpa using q10
      have b12 : (yk == (12 : Int)) = false := by simpa using q12
      have b1 : (yk == (1 : Int)) = false := by simpa using q1
      have b2 : (yk == (2 : Int)) = false := by simpa using q2
      have b3 : (yk == (3 : Int)) = false := by simpa using q3
      clear HS HY HZ HRr q6 q8 q9 q10 q12 q1 q2 q3
      go_wp2_with fail
      go_roundw
      case rel => exact ⟨i + 1, m, t, d, k, a, c, ws, by omega, hm, by omega, hd, by omega, rfl, rfl, rfl, rfl, by go_num, HD, HS2, HW⟩
      case measure => simp [intOf] <;> omega
    · have hiz : ¬ (i : Int) < (n : Int) := by omega
      have hmN : m = N := HS.out.done (by rw [← HN.out]; omega)
      subst hmN
      clear HS
      go_wp2_with fail
      go_ret
      exact ⟨by first | rfl | simp, HW.out.kept⟩
end Go.Proofs.YtiemiphlfbaojaaDoor
