import Derived.Test.YtoglgicmnhklbaaDoorDca
namespace Go.Proofs.YtoglgicmnhklbaaDoor
open Go.ChangeShapes Go.WideShapes Go.ChangeAt Go.RowKit

theorem bytes_drop1 {w : World} {b off : Nat} {l : List Int} (h : BytesAt w (some ⟨b, off, none⟩) l) : BytesAt w (some ⟨b, off + 1, none⟩) (l.drop 1) := by
  intro hne
  obtain ⟨b', off', e, hc⟩ := h (by intro e; rw [e] at hne; simp at hne)
  simp only [Option.some.injEq, Addr.mk.injEq, and_true] at e
  obtain ⟨rfl, rfl⟩ := e
  refine ⟨b, off + 1, rfl, fun k hk => ?_⟩
  rw [List.length_drop] at hk
  have := hc (1 + k) (by omega)
  rw [List.getElem?_drop, Nat.add_assoc]
  exact this
/-- From where to where a block's body lies: or the error (0: too short, 1: no good number, 5: no tag). -/
def bodyR (l : List Int) : Except Nat (Nat × Nat) :=
  if l = [] then .error 0 else if l[0]?.getD 0 = 0 then .error 5 else
    match rdu 0 0 ((l.drop 1).take 10) with
    | .error e => .error e
    | .ok (x, k) => if l.length < 1 + k + 4 + x then .error 0 else .ok (1 + k, 1 + k + x)
def erB (a0 a1 a5 : Addr) (e : Nat) : Value := if e = 5 then errV a5 else errOf a0 a1 e
def bodyV (a0 a1 a5 : Addr) : Except Nat (Nat × Nat) → Value
  | .ok (p, q) => .tuple #[.int .i64 p, .int .i64 q, .nilIface]
  | .error e => .tuple #[.int .i64 0, .int .i64 0, erB a0 a1 a5 e]
theorem rdu_codes : ∀ (l : List Int) (i acc e : Nat), rdu i acc l = .error e → e = 0 ∨ e = 1 := by
  intro l
  induction l with
  | nil => intro i acc e h; simp [rdu] at h; omega
  | cons c r ih =>
    intro i acc e h
    rw [rdu] at h
    split at h
    · simp only [Except.error.injEq] at h; omega
    · split at h
      · split at h
        · simp only [Except.error.injEq] at h; omega
        · cases h
      · exact ih _ _ _ h
set_option maxRecDepth 20000 in
set_option maxHeartbeats 2000000 in
theorem body_any4 (l : List Int) (a : Option Addr) (c : Nat) (w : World) {a0 a1 a5 a6 : Addr} (hB : BytesAt w a l) (hb : IsBytes l) (hc : l.length ≤ c) (hl : l.length ≤ 281474976710656) (hE : Errs4 w a0 a1 a5 a6) :
    Calls Tryd.prog 35 #[.slice a l.length c] w fun e w' => e = .returned (bodyV a0 a1 a5 (bodyR l)) ∧ Kept (fun _ => False) w w' := by
  have g0 := hE.s0.var
  have g5 := hE.s5.var
  by_cases hl0 : l = []
  · have ev : bodyV a0 a1 a5 (bodyR l) = .tuple #[.int .i64 0, .int .i64 0, .iface 98 (.pointer (some a0))] := by rw [bodyR, if_pos hl0]; rfl
    rw [ev]
    subst hl0
    clear ev hB hb hE
    go_enter Tryd.func35, Tryd.ntmps35
    go_wp2
    go_quiet (fail)
    go_wp2
    go_ret3
    exact ⟨rfl, Kept.drewN _ _⟩
  obtain ⟨b, off, rfl, hcl⟩ := hB hl0
  have hpos : 0 < l.length := List.length_pos_iff.2 hl0
  have hc0 := hcl 0 hpos
  rw [Nat.add_zero] at hc0
  obtain ⟨t, ht0, ht1, _⟩ := hb.at hpos
  rw [ht0] at hc0
  by_cases htz : t = 0
  · subst htz
    have ev : bodyV a0 a1 a5 (bodyR l) = .tuple #[.int .i64 0, .int .i64 0, .iface 98 (.pointer (some a5))] := by rw [bodyR, if_neg hl0, if_pos (by rw [ht0]; rfl)]; rfl
    rw [ev]
    have z0 : ((0 : Nat) : Int) = 0 := rfl
    rw [z0] at hc0
    obtain ⟨n, hn⟩ : ∃ n, n = l.length := ⟨_, rfl⟩
    rw [← hn] at hpos hc hl ⊢
    clear ev hB hb hE hcl ht0 hl0 hn
    go_enter Tryd.func35, Tryd.ntmps35
    go_wp2
    go_quiet (fail)
    go_wp2
    go_ret3
    exact ⟨rfl, Kept.drewN _ _⟩
  have htn : l[0]?.getD 0 ≠ 0 := by rw [ht0]; omega
  have hlen1 : (l.drop 1).length = l.length - 1 := List.length_drop ..
  have hb1 : IsBytes (l.drop 1) := fun x hx => hb x (List.mem_of_mem_drop hx)
  have hbR : bodyR l = match rdu 0 0 ((l.drop 1).take 10) with
    | .error e => .error e
    | .ok (x, k) => if l.length < 1 + k + 4 + x then .error 0 else .ok (1 + k, 1 + k + x) := by rw [bodyR, if_neg hl0, if_neg htn]
  have LN : ∀ a' c', BytesAt w a' (l.drop 1) → l.length - 1 ≤ c' → ∀ W, Hid (Kept (fun _ => False) w W) → Calls Tryd.prog 41 #[.slice a' (l.length - 1) c'] W fun e W' => e = .returned (leadV a0 a1 (rdu 0 0 ((l.drop 1).take 10))) ∧ Hid (Kept (fun _ => False) w W') := by
    intro a' c' h1 h2 W q
    have r := lead_any (l.drop 1) a' c' a0 a1 W (bytes_keptF h1 q.out) hb1 (by omega) (by omega) (hE.kept q.out).s0.var (hE.kept q.out).s1.var
    rw [hlen1] at r
    exact r.mono fun e W' q' => ⟨q'.1, q.out.trans q'.2 (fun _ f => f.elim)⟩
  have K0 : Hid (Kept (fun _ => False) w w) := Kept.refl _ _
  have htI : (t : Int) ≠ 0 := by omega
  have hG0 : Hid (∀ W, Kept (fun _ => False) w W → W.cell? ⟨2, 0, none⟩ = some (.iface 98 (.pointer (some a0)))) := fun W k => k.cell g0 (fun f => f)
  have LN1 : Hid (∀ W, Hid (Kept (fun _ => False) w W) → Calls Tryd.prog 41 #[.slice (some ⟨b, off + 1, none⟩) (l.length - 1) (c - 1)] W fun e W' => e = .returned (leadV a0 a1 (rdu 0 0 ((l.drop 1).take 10))) ∧ Hid (Kept (fun _ => False) w W')) := LN _ _ (bytes_drop1 hB) (by omega)
  have LN2 : Hid (l.length = 1 → ∀ W, Hid (Kept (fun _ => False) w W) → Calls Tryd.prog 41 #[.slice (some ⟨b, off, none⟩) 0 0] W fun e W' => e = .returned (leadV a0 a1 (rdu 0 0 ((l.drop 1).take 10))) ∧ Hid (Kept (fun _ => False) w W')) := by
    intro h1
    have r := LN (some ⟨b, off, none⟩) 0 (fun hne => (hne (List.length_eq_zero_iff.1 (by omega))).elim) (by omega)
    rw [h1] at r
    exact r
  have hrl := rdu_lt ((l.drop 1).take 10) 0 0
  have hrk := rdu_le ((l.drop 1).take 10) 0 0
  have htl : ((l.drop 1).take 10).length ≤ l.length - 1 ∧ ((l.drop 1).take 10).length ≤ 10 := by rw [List.length_take, hlen1]; omega
  have hbt : ∀ x ∈ (l.drop 1).take 10, 0 ≤ x ∧ x ≤ 255 := fun x hx => hb1 x (List.mem_of_mem_take hx)
  rw [hbR]
  clear hbR LN
  cases hr : rdu 0 0 ((l.drop 1).take 10) with
  | error er =>
    rw [hr] at LN1 LN2
    have he := rdu_codes _ _ _ _ hr
    obtain ⟨ad, had⟩ : ∃ ad, errOf a0 a1 er = .iface 98 (.pointer (some ad)) := by unfold errOf errV; split <;> exact ⟨_, rfl⟩
    have ev : bodyV a0 a1 a5 (.error er) = .tuple #[.int .i64 0, .int .i64 0, .iface 98 (.pointer (some ad))] := by
      show Value.tuple #[.int .i64 0, .int .i64 0, erB a0 a1 a5 er] = _
      rw [erB, if_neg (by omega), had]
    have el : leadV a0 a1 (.error er) = .tuple #[.int .u64 0, .int .i64 0, .iface 98 (.pointer (some ad))] := by
      show Value.tuple #[.int .u64 0, .int .i64 0, errOf a0 a1 er] = _
      rw [had]
    simp only [ev]
    rw [el] at LN1 LN2
    obtain ⟨n, hn⟩ : ∃ n, n = l.length := ⟨_, rfl⟩
    rw [← hn] at hpos hc hl LN1 LN2 ⊢
    clear ev el had he hr hrl hrk htl hbt hb1 hlen1 htn hcl hB hb hE hl0 hn g5 ht0
    by_cases hc1 : c = 1
    · obtain rfl : n = 1 := by omega
      subst hc1
      have LN3 := hideC (LN2.out rfl)
      clear LN1 LN2
      go_enter Tryd.func35, Tryd.ntmps35
      go_wp2_with (go_at_call 41; refine (LN3.out w K0).mono ?_; rintro e W2 ⟨rfl, K2⟩)
      go_ret3
      exact ⟨rfl, K2.out⟩
    · clear LN2
      go_enter Tryd.func35, Tryd.ntmps35
      go_wp2_with (go_at_call 41; refine (LN1.out w K0).mono ?_; rintro e W2 ⟨rfl, K2⟩)
      go_ret3
      exact ⟨rfl, K2.out⟩
  | ok xk =>
    obtain ⟨x, k⟩ := xk
    rw [hr] at LN1 LN2
    have hx := hrl x k (by omega) (by decide) hbt hr
    have hk := hrk x k hr
    have el : leadV a0 a1 (.ok (x, k)) = .tuple #[.int .u64 x, .int .i64 k, .nilIface] := rfl
    rw [el] at LN1
    have hc1 : ¬ c = 1 := by omega
    simp only
    obtain ⟨n, hn⟩ : ∃ n, n = l.length := ⟨_, rfl⟩
    rw [← hn] at hpos hc hl LN1 ⊢
    have hkn : k ≤ n - 1 := by omega
    have hk10 : k ≤ 10 := by omega
    have hk1 : 1 ≤ k := by omega
    clear el hr hrl hrk htl hbt hb1 hlen1 htn hcl hB hb hE hl0 hn g5 ht0 LN2 hk
    by_cases hs : n < 1 + k + 4 + x
    · have ev : bodyV a0 a1 a5 (if n < 1 + k + 4 + x then .error 0 else .ok (1 + k, 1 + k + x)) = .tuple #[.int .i64 0, .int .i64 0, .iface 98 (.pointer (some a0))] := by rw [if_pos hs]; rfl
      rw [ev]
      clear ev
      by_cases hroom : n < 1 + k + 4
      · have i1 : (n : Int) - (1 + (k : Int)) - 4 < 0 := by omega
        go_enter Tryd.func35, Tryd.ntmps35
        go_wp2_with (go_at_call 41; refine (LN1.out w K0).mono ?_; rintro e W2 ⟨rfl, K2⟩; have G2 := hG0.out W2 K2.out)
        go_quiet (fail)
        go_wp2
        go_ret3
        exact ⟨rfl, K2.out.trans (Kept.drewN _ _) (fun _ f => f.elim)⟩
      · have i1 : ¬ ((n : Int) - (1 + (k : Int)) - 4 < 0) := by omega
        have i2 : (n : Int) - (1 + (k : Int)) - 4 < (x : Int) := by omega
        go_enter Tryd.func35, Tryd.ntmps35
        go_wp2_with (go_at_call 41; refine (LN1.out w K0).mono ?_; rintro e W2 ⟨rfl, K2⟩; have G2 := hG0.out W2 K2.out)
        go_quiet (fail)
        go_wp2
        go_ret3
        exact ⟨rfl, K2.out.trans (Kept.drewN _ _) (fun _ f => f.elim)⟩
    · have ev : bodyV a0 a1 a5 (if n < 1 + k + 4 + x then .error 0 else .ok (1 + k, 1 + k + x)) = .tuple #[.int .i64 (1 + (k : Int)), .int .i64 (1 + (k : Int) + x), .nilIface] := by
        rw [if_neg hs]
        show Value.tuple #[.int .i64 ((1 + k : Nat) : Int), .int .i64 ((1 + k + x : Nat) : Int), .nilIface] = _
        rw [show ((1 + k : Nat) : Int) = 1 + (k : Int) by omega, show ((1 + k + x : Nat) : Int) = 1 + (k : Int) + x by omega]
      rw [ev]
      clear ev
      have i1 : ¬ ((n : Int) - (1 + (k : Int)) - 4 < 0) := by omega
      have i2 : ¬ ((n : Int) - (1 + (k : Int)) - 4 < (x : Int)) := by omega
      go_enter Tryd.func35, Tryd.ntmps35
      go_wp2_with (go_at_call 41; refine (LN1.out w K0).mono ?_; rintro e W2 ⟨rfl, K2⟩)
      go_ret3
      exact ⟨rfl, K2.out⟩
end Go.Proofs.YtoglgicmnhklbaaDoor
