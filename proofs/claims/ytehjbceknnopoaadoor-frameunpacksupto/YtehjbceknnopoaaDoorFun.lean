import Derived.Test.YtehjbceknnopoaaDoorRup
namespace Go.Proofs.YtehjbceknnopoaaDoor
open Go.ChangeShapes Go.WideShapes Go.ChangeAt Go.RowKit

theorem lsR_codes : ∀ (x : Nat) (l : List Int) (e : Nat), lsR x l = .error e → e = 0 ∨ e = 1 ∨ e = 5 ∨ e = 6
  | 0, l, e, h => by cases h
  | x + 1, l, e, h => by
    rw [lsR] at h
    split at h
    · rename_i hd
      cases h
      exact decR_cod hd
    · split at h
      · rename_i hd
        cases h
        exact lsR_codes x _ _ hd
      · cases h
theorem unpR_codes {kind : Nat} {l : List Int} {e : Nat} (h : unpR kind l = .error e) : e = 0 ∨ e = 1 ∨ e = 4 ∨ e = 5 ∨ e = 6 := by
  unfold unpR at h
  split at h
  · cases h; omega
  split at h
  · cases h; omega
  split at h
  · cases h; omega
  · unfold listR at h
    split at h
    · rename_i hr
      cases h
      have := rdu_codes _ _ _ _ hr
      omega
    · split at h
      · rename_i hr
        cases h
        have := lsR_codes _ _ _ hr
        omega
      · split at h
        · cases h
        · cases h; omega
theorem num_tail {w : World} {a0 a1 a2 a3 a4 a5 a6 : Addr} (h : Errs7 w a0 a1 a2 a3 a4 a5 a6) : Calls Tryd.prog 18 #[.iface 103 (.pointer (some a4))] w fun e w' => e = .returned (.int .i64 5) ∧ w' = w := by
  have v0 := h.s0.var
  have v1 := h.s1.var
  have v2 := h.s2.var
  have v3 := h.s3.var
  have v4 := h.s4.var
  have e0 := err_neqF h.s4 h.s0 (by decide)
  have e1 := err_neqF h.s4 h.s1 (by decide)
  have e2 := err_neqF h.s4 h.s2 (by decide)
  have e3 := err_neqF h.s4 h.s3 (by decide)
  have e4 := err_eqF a4
  clear h
  go_enter Tryd.func18, Tryd.ntmps18
  go_wp2
  go_ret
  exact ⟨rfl, rfl⟩
theorem num_erL {w : World} {a0 a1 a2 a3 a4 a5 a6 : Addr} {er : Nat} (h : Errs7 w a0 a1 a2 a3 a4 a5 a6) (he : er = 0 ∨ er = 1 ∨ er = 4 ∨ er = 5 ∨ er = 6) : Calls Tryd.prog 18 #[erL a0 a1 a4 a5 a6 er] w fun e w' => e = .returned (.int .i64 ((er + 1 : Nat) : Int)) ∧ w' = w := by
  by_cases h4 : er = 4
  · subst h4
    exact num_tail h
  · rw [erL, if_neg h4]
    exact num_er h (by omega)
theorem erL_is (a0 a1 a4 a5 a6 : Addr) (er : Nat) : ∃ ad, erL a0 a1 a4 a5 a6 er = .iface 103 (.pointer (some ad)) := by
  unfold erL
  split
  · exact ⟨_, rfl⟩
  · exact erD_is a0 a1 a5 a6 er
theorem bencs_btot : ∀ D : List BkD, btot D ≤ (bencs D).length
  | [] => Nat.zero_le _
  | x :: D => by
    have h1 := bencs_btot D
    have h2 := benc_length x.t x.B
    rw [bencs_cons, List.length_append]
    simp only [btot, BkD.size]
    omega
/-- What comes of blocks, whatever they lie like. -/
def encV (d : List (Int × List Int)) : List Int := (d.map fun x => benc x.1 x.2).flatten
theorem bencs_encV (D : List BkD) : bencs D = encV (D.map bkv) := by
  induction D with
  | nil => rfl
  | cons x D ih => rw [bencs_cons, ih]; simp [encV, bkv]
theorem lsR_sound : ∀ (x : Nat) (l : List Int) (d : List (Int × List Int)) (r : List Int), IsBytes l → lsR x l = .ok (d, r) → l = encV d ++ r ∧ d.length = x ∧ ∀ y ∈ d, 0 < y.1
  | 0, l, d, r, _, h => by
    simp only [lsR, Except.ok.injEq, Prod.mk.injEq] at h
    obtain ⟨rfl, rfl⟩ := h
    exact ⟨rfl, rfl, fun y hy => by cases hy⟩
  | x + 1, l, d, r, hb, h => by
    rw [lsR] at h
    split at h
    · cases h
    · rename_i t b n hd
      split at h
      · cases h
      · rename_i d' r' hd'
        simp only [Except.ok.injEq, Prod.mk.injEq] at h
        obtain ⟨rfl, rfl⟩ := h
        obtain ⟨⟨tag, rfl, ht0, -, he⟩, -, -, -⟩ := enc_dec hb hd
        obtain ⟨h1, h2, h3⟩ := lsR_sound x (l.drop n) d' r' (fun y hy => hb y (List.mem_of_mem_drop hy)) hd'
        refine ⟨?_, by simp [h2], fun y hy => ?_⟩
        · conv => lhs; rw [← List.take_append_drop n l]
          rw [← he, h1]
          simp [encV]
        · rcases List.mem_cons.1 hy with rfl | hy
          · simp only; omega
          · exact h3 y hy
theorem unpR_sound {kind : Nat} {l : List Int} {d : List (Int × List Int)} (hb : IsBytes l) (h : unpR kind l = .ok d) : 0 < kind ∧ (∀ y ∈ d, 0 < y.1) ∧ ∀ D : List BkD, D.map bkv = d → penc kind D = l := by
  unfold unpR at h
  split at h
  · cases h
  split at h
  · cases h
  rename_i h10 hs
  have hs := Classical.not_not.1 hs
  split at h
  · cases h
  rename_i hk
  have hk0 : kind ≠ 0 := fun e => hk (.inl e)
  have hk5 : l.take 5 = cncd kind := Classical.not_not.1 fun e => hk (.inr e)
  have hbL : IsBytes ((l.take (l.length - 4)).drop 5) := fun y hy => hb y (List.mem_of_mem_take (List.mem_of_mem_drop hy))
  unfold listR at h
  split at h
  · cases h
  rename_i x k hr
  split at h
  · cases h
  rename_i d' r hl
  split at h
  case isFalse => cases h
  rename_i hr0
  simp only [Except.ok.injEq] at h
  subst h hr0
  obtain ⟨h1, h2, h3⟩ := lsR_sound x _ d' [] (fun y hy => hbL y (List.mem_of_mem_drop hy)) hl
  rw [List.append_nil] at h1
  have hf := rdu_form (fun y hy => hbL y (List.mem_of_mem_take hy)) hr
  have hkl := (rdu_le _ _ _ _ _ hr).2
  have hk10 : k ≤ 10 := by rw [List.length_take] at hkl; omega
  rw [List.take_take, Nat.min_eq_left hk10] at hf
  refine ⟨by omega, h3, fun D hD => ?_⟩
  have hDl : D.length = x := by rw [← h2, ← hD, List.length_map]
  have hp : phead kind D = l.take (l.length - 4) := by
    unfold phead
    rw [hDl, bencs_encV, hD, ← h1, ← hf, List.append_assoc, List.take_append_drop, ← hk5]
    conv => rhs; rw [← List.take_append_drop 5 (l.take (l.length - 4))]
    rw [List.take_take, Nat.min_eq_left (by omega)]
  unfold penc
  rw [hp, ← hs, List.take_append_drop]
theorem bksAt_nil (W : World) : BksAt W none [] := fun e => (e rfl).elim
set_option maxRecDepth 20000 in
set_option maxHeartbeats 4000000 in
theorem unpacks_walk (kind : Nat) (l : List Int) (a : Option Addr) (c : Nat) (w : World) (hk2 : kind < 256) (hB : BytesAt w a l) (hb : IsBytes l) (hc : l.length ≤ c) (hl : l.length ≤ 1073741824) (hT : TabAt w) {a0 a1 a2 a3 a4 a5 a6 : Addr} (hE : Errs7 w a0 a1 a2 a3 a4 a5 a6) :
    Calls Tryd.prog 6 #[.int .u8 kind, .slice a l.length c] w fun e w' => e = .returned (.bool true) ∧ Kept (fun _ => False) w w' := by
  have LV : Hid (Calls Tryd.prog 9 #[] w fun e W => e = .returned (.bool true) ∧ Hid (Kept (fun _ => False) w W)) := (lives2_any w hT).mono fun e W q => ⟨q.1, q.2⟩
  cases hu : unpR kind l with
  | error er =>
    have he := unpR_codes hu
    obtain ⟨ad, had⟩ := erL_is a0 a1 a4 a5 a6 er
    have UN : Hid (∀ W, Hid (Kept (fun _ => False) w W) → Calls Tryd.prog 19 #[.int .u8 kind, .slice a l.length c] W fun e W' => e = .returned (.tuple #[.slice none 0 0, .iface 103 (.pointer (some ad))]) ∧ Hid (Kept (fun _ => False) w W')) := by
      intro W q
      have r := unpack_any kind l a l.length c W hk2 rfl (bytes_keptF hB q.out) hb hc (by omega) (hT.kept q.out) (hE.kept q.out)
      rw [hu] at r
      refine r.mono ?_
      rintro e W' ⟨rfl, k⟩
      rw [had]
      exact ⟨rfl, q.out.trans k (fun _ f => f.elim)⟩
    have RU : Hid (∀ W, Hid (Kept (fun _ => False) w W) → Calls Tryd.prog 20 #[.int .u8 kind, .slice a l.length c] W fun e W' => e = .returned (.tuple #[.slice none 0 0, .int .i64 ((er + 1 : Nat) : Int)]) ∧ Hid (Kept (fun _ => False) w W')) := by
      intro W q
      have r := runpack_any kind l a l.length c W hk2 rfl (bytes_keptF hB q.out) hb hc (by omega)
      rw [hu] at r
      refine r.mono ?_
      rintro e W' ⟨rfl, k⟩
      exact ⟨rfl, q.out.trans k (fun _ f => f.elim)⟩
    have NM : Hid (∀ W, Hid (Kept (fun _ => False) w W) → Calls Tryd.prog 18 #[.iface 103 (.pointer (some ad))] W fun e W' => e = .returned (.int .i64 ((er + 1 : Nat) : Int)) ∧ W' = W) := by
      intro W q
      rw [← had]
      exact num_erL (hE.kept q.out) he
    have SB : Hid (∀ W, Hid (Kept (fun _ => False) w W) → Calls Tryd.prog 13 #[.slice none 0 0, .slice none 0 0] W fun e W' => e = .returned (.bool true) ∧ Hid (Kept (fun _ => False) w W')) := by
      intro W q
      refine (same_true [] [] none none 0 0 0 0 W (bksAt_nil W) (bksAt_nil W) (fun x hx => by cases hx) (fun x hx => by cases hx) rfl rfl rfl (by decide)).mono ?_
      rintro e W' ⟨rfl, k⟩
      exact ⟨rfl, q.out.trans k (fun _ f => f.elim)⟩
    generalize er + 1 = e1 at RU NM
    generalize l.length = n at UN RU ⊢
    clear hB hb hT hE hu he had
    go_enter Tryd.func6, Tryd.ntmps6
    go_wp2_with (first | (go_at_call 9; refine LV.out.mono ?_; rintro e W2 ⟨rfl, K2⟩) | (go_at_call 19; refine (UN.out W2 K2).mono ?_; rintro e W3 ⟨rfl, K3⟩) | (go_at_call 20; refine (RU.out W3 K3).mono ?_; rintro e W4 ⟨rfl, K4⟩) | (go_at_call 18; refine (NM.out W4 K4).mono ?_; rintro e W5 ⟨rfl, e5⟩; subst e5) | (go_at_call 13; refine (SB.out _ K4).mono ?_; rintro e W6 ⟨rfl, K6⟩))
    go_ret
    exact ⟨by first | rfl | simp, K6.out⟩
  | ok d =>
    have UN : Hid (∀ W, Hid (Kept (fun _ => False) w W) → Calls Tryd.prog 19 #[.int .u8 kind, .slice a l.length c] W fun e W' => ∃ a' c' D, e = .returned (.tuple #[.slice a' d.length c', .nilIface]) ∧ Hid (D.map bkv = d ∧ Bl w W' (.slice a' d.length c') D)) := by
      intro W q
      have r := unpack_any kind l a l.length c W hk2 rfl (bytes_keptF hB q.out) hb hc (by omega) (hT.kept q.out) (hE.kept q.out)
      rw [hu] at r
      refine r.mono ?_
      rintro e W' ⟨a', c', D, rfl, h1, h2⟩
      have h2 : D.map bkv = d := h2
      have h3 : d.length = D.length := by rw [← h2, List.length_map]
      rw [h3]
      exact ⟨a', c', D, rfl, h2, h1.from q.out⟩
    have RU : Hid (∀ W a1' c1' D1, Hid (D1.map bkv = d ∧ Bl w W (.slice a1' d.length c1') D1) → Calls Tryd.prog 20 #[.int .u8 kind, .slice a l.length c] W fun e W' => ∃ a' c' D, e = .returned (.tuple #[.slice a' d.length c', .int .i64 0]) ∧ Hid ((D1.map bkv = d ∧ Bl w W' (.slice a1' d.length c1') D1) ∧ D.map bkv = d ∧ Bl w W' (.slice a' d.length c') D)) := by
      intro W a1' c1' D1 q
      have r := runpack_any kind l a l.length c W hk2 rfl (bytes_keptF hB q.out.2.kept) hb hc (by omega)
      rw [hu] at r
      refine r.mono ?_
      rintro e W' ⟨a', c', D, rfl, h1, h2⟩
      have h3 : d.length = D.length := by rw [← h2, List.length_map]
      refine ⟨a', c', D, by rw [h3], ⟨q.out.1, q.out.2.same h1.kept⟩, h2, ?_⟩
      rw [h3]
      exact h1.from q.out.2.kept
    have NN := hideC num_nil
    have SB : Hid (∀ W a1' c1' D1 a' c' D, Hid ((D1.map bkv = d ∧ Bl w W (.slice a1' d.length c1') D1) ∧ D.map bkv = d ∧ Bl w W (.slice a' d.length c') D) → Calls Tryd.prog 13 #[.slice a1' d.length c1', .slice a' d.length c'] W fun e W' => e = .returned (.bool true) ∧ Hid (Kept (fun _ => False) w W')) := by
      intro W a1' c1' D1 a' c' D q
      obtain ⟨⟨q1, q2⟩, q3, q4⟩ := q.out
      have l1 : d.length = D1.length := by rw [← q1, List.length_map]
      have l2 : d.length = D.length := by rw [← q3, List.length_map]
      obtain ⟨x1, y1, e1, hb1⟩ := q2.at
      simp only [Value.slice.injEq] at e1
      obtain ⟨rfl, _, rfl⟩ := e1
      obtain ⟨x2, y2, e2, hb2⟩ := q4.at
      simp only [Value.slice.injEq] at e2
      obtain ⟨rfl, _, rfl⟩ := e2
      have hD : d.length ≤ 1099511627776 := by
        rcases q2.row.2 with ⟨-, e⟩ | ⟨g, cap, cur, e, _, _, h1, h2, _⟩
        · omega
        · have hs := unpR_sound hb hu
          have hp := congrArg List.length (hs.2.2 D1 q1)
          have hph := penc_length kind D1
          have hbb := bencs_btot D1
          have hbc := btot_count D1
          omega
      refine (same_true D1 D a1' a' c1' c' d.length d.length W hb1 hb2 q2.each q4.each (q1.trans q3.symm) l1 l2 hD).mono ?_
      rintro e W' ⟨rfl, k⟩
      exact ⟨rfl, q2.kept.trans k (fun _ f => f.elim)⟩
    generalize d.length = nd at UN RU SB
    generalize l.length = n at UN RU ⊢
    clear hB hb hT hE hu
    go_enter Tryd.func6, Tryd.ntmps6
    go_wp2_with (first | (go_at_call 9; refine LV.out.mono ?_; rintro e W2 ⟨rfl, K2⟩) | (go_at_call 19; refine (UN.out W2 K2).mono ?_; rintro e W3 ⟨a3', c3', D3, rfl, K3⟩) | (go_at_call 20; refine (RU.out W3 _ _ _ K3).mono ?_; rintro e W4 ⟨a4', c4', D4, rfl, K4⟩) | (go_at_call 18; refine (NN.out _).mono ?_; rintro e W5 ⟨rfl, e5⟩; subst e5) | (go_at_call 13; refine (SB.out _ _ _ _ _ _ _ K4).mono ?_; rintro e W6 ⟨rfl, K6⟩))
    go_ret
    exact ⟨by first | rfl | simp, K6.out⟩
end Go.Proofs.YtehjbceknnopoaaDoor
