import Derived.Test.YtacmmclamkhpcaaDoorAus
namespace Go.Proofs.YtacmmclamkhpcaaDoor
open Go.ChangeShapes Go.WideShapes Go.ChangeAt Go.RowKit

theorem led_eq (f : Nat) : ∀ (k : Nat) (R : List Nat) (hk : k < R.length), (∀ j (h : j < k), R[j] = f) → R[k] ≠ f → led f R = k := by
  intro k
  induction k with
  | zero =>
    intro R hk _ hne
    cases R with
    | nil => simp at hk
    | cons a r =>
      unfold led
      rw [List.takeWhile_cons, if_neg (by simpa using hne)]
      rfl
  | succ k ih =>
    intro R hk hall hne
    cases R with
    | nil => simp at hk
    | cons a r =>
      have h0 : a = f := hall 0 (by omega)
      have := ih r (by simpa using hk) (fun j h => hall (j + 1) (by omega)) (by simpa using hne)
      unfold led at this ⊢
      rw [List.takeWhile_cons, if_pos (by simpa using h0), List.length_cons, this]
/-- A slice's length. -/
def lenOf : Value → Nat
  | .slice _ n _ => n
  | _ => 0
set_option maxRecDepth 20000 in
set_option maxHeartbeats 4000000 in
theorem trimmed_any (w0 W : World) (g c x f r : Nat) (L : List Nat) (hr : r = L.length) (hG : Gro w0 W 3 1 (.slice (some ⟨g, 0, none⟩) (r + 1) c) (r + 1) (iv (nz (x :: L)))) (hb : r ≤ 1099511627000) (hx : x ≤ 1099511627000) (_hf : f ≤ 1099511627000) (hcap : r + 1 ≤ c) (hr1 : 1 ≤ r) :
    Calls Tryd.prog 62 #[.slice (some ⟨g, 0, none⟩) (r + 1) c, .int .i64 (f : Nat)] W fun e w' => (∃ a' c', e = .returned (.slice a' (trm f x L).length c') ∧ NsAt w' a' (nz (trm f x L)) ∧ (trm f x L).length ≤ c') ∧ Kept (fun _ => False) w0 w' := by
  have HG := hideG hG
  have HR := hideG hr
  have y0 := hG.at (j := 0) (u := .int .i64 (x : Nat)) (by unfold iv nz; simp)
  have HC : Hid (∀ W' j (h : j < L.length), Kept (fun _ => False) W W' → W'.cell? ⟨g, 1 + j, none⟩ = some (.int .i64 (L[j] : Nat))) := hideG (fun W' j h k => k.cell (hG.at (j := 1 + j) (by unfold iv nz; rw [Nat.add_comm]; simp [h])) (fun f => f))
  obtain ⟨Z, hZ⟩ : ∃ Z, Z = trm f x L := ⟨_, rfl⟩
  rw [← hZ]
  have HZ := hideG hZ
  have hc2 : 1 < c := by omega
  have hc3 : ¬ (c ≤ 1) := by omega
  have hc4 : c - 1 ≠ 0 := by omega
  clear hG hr hZ
  go_enter Tryd.func62, Tryd.ntmps62
  go_wp2_with (go_quiet (fail))
  go_loopw [6] (fun v wr => ∃ m : Nat, m ≤ r ∧ v = .slice (some ⟨g, 1, none⟩) m (c - 1) ∧ Hid (rtr f L = rtr f (L.take m)) ∧ Hid (Kept (fun _ => False) W wr)) (fun v _ => lenOf v)
  case atStart => exact ⟨r, Nat.le_refl _, rfl, hideG (by rw [HR.out, List.take_length]), hideG (Kept.drewA _ _)⟩
  case round =>
    obtain ⟨m, hm, rfl, HT, HK⟩ := hrel
    rcases Nat.eq_zero_or_pos m with hm0 | hm0
    · subst hm0
      have eZ : Z = [] := by rw [HZ.out]; unfold trm; rw [HT.out, List.take_zero, rtr_nil, if_pos rfl]
      subst eZ
      clear y0 HC
      go_wp2
      go_ret
      exact ⟨⟨none, 0, rfl, fun h => absurd rfl h, Nat.le_refl _⟩, HG.out.kept.trans HK.out (fun _ f => f.elim)⟩
    · have hml : m - 1 < L.length := by rw [← HR.out]; omega
      have z0 := HC.out wr (m - 1) hml HK.out
      have p1 : (m : Int) - 1 = ((m - 1 : Nat) : Int) := by omega
      have p0 : (0 : Int) < (m : Int) := by omega
      have p2 : ((m - 1 : Nat) : Int) < (m : Int) := by omega
      have HTk : Hid (L.take m = L.take (m - 1) ++ [L[m - 1]]) := hideG (by
        have := List.take_succ_eq_append_getElem hml
        rwa [show m - 1 + 1 = m by omega] at this)
      by_cases he : L[m - 1] = f
      · rw [he] at z0
        have HT2 : Hid (rtr f L = rtr f (L.take (m - 1))) := hideG (by rw [HT.out, HTk.out, rtr_snoc, if_pos he])
        clear he HTk y0
        go_wp2
        go_roundw
        case rel => exact ⟨m - 1, by omega, rfl, HT2, HK⟩
        case measure => simp [lenOf]; omega
      · have HT2 : Hid (rtr f L = L.take m) := hideG (by rw [HT.out, HTk.out, rtr_snoc, if_neg he])
        clear HT HTk y0 p1 p2
        have hmL : m ≤ L.length := by rw [← HR.out]; exact hm
        have HNe : Hid (∀ (h : m - 1 < L.length), L[m - 1] ≠ f) := hideG (fun _ => he)
        have q0 : ((L[m - 1] : Nat) : Int) ≠ (f : Int) := by omega
        generalize L[m - 1] = y at *
        have q1 : ((y : Int) == (f : Int)) = false := by simpa using q0
        have q2 : ((m : Int) == 0) = false := by simp; omega
        go_wp2
        go_loopw [7] (fun v wq => ∃ k : Nat, k < m ∧ v = .int .i64 k ∧ Hid (∀ j (h : j < k) (h2 : j < L.length), L[j] = f) ∧ Hid (Kept (fun _ => False) W wq)) (fun v _ => m - (intOf v).toNat)
        case atStart => exact ⟨0, hm0, rfl, hideG (fun j h => absurd h (Nat.not_lt_zero j)), HK⟩
        case round =>
          obtain ⟨k, hk, rfl, HA, HKq⟩ := hrel
          have hkL : k < L.length := by omega
          have y0 := HC.out wr k hkL HKq.out
          have p3 : (k : Int) < (m : Int) := by omega
          clear z0 q0 q1 HK
          by_cases hke : L[k] = f
          · rw [hke] at y0
            have hkm : k + 1 < m := by
              rcases Nat.lt_or_ge (k + 1) m with h | h
              · exact h
              · exfalso
                have : k = m - 1 := by omega
                subst this
                exact HNe.out hkL hke
            have HA2 : Hid (∀ j (h : j < k + 1) (h2 : j < L.length), L[j] = f) := hideG (fun j h h2 => by
              rcases Nat.lt_or_ge j k with h3 | h3
              · exact HA.out j h3 h2
              · obtain rfl : j = k := by omega
                exact hke)
            clear hke
            go_wp2
            go_roundw
            case rel => exact ⟨k + 1, hkm, by go_num, HA2, HKq⟩
            case measure => simp [intOf]; omega
          · have hlk : led f (L.take m) = k := led_eq f k (L.take m) (by rw [List.length_take]; omega) (fun j h => by rw [List.getElem_take]; exact HA.out j h (by omega)) (by rw [List.getElem_take]; exact hke)
            have eZ : Z = (x + k) :: (L.take m).drop k := by
              rw [HZ.out]
              unfold trm
              rw [HT2.out, if_neg (by intro e; have h9 := congrArg List.length e; rw [List.length_take, List.length_nil] at h9; omega), hlk]
            have HZl : Hid (Z.length = m + 1 - k) := hideG (by rw [eZ, List.length_cons, List.length_drop, List.length_take]; omega)
            obtain ⟨S1, S2⟩ := (HG.out.later HKq.out).set k (.int .i64 ((x : Int) + (k : Int)))
            have c0 := (HG.out.later HKq.out).at (j := k) (u := .int .i64 (((x :: L)[k]'(by simp; omega) : Nat) : Int)) (nz_at (by simp; omega))
            have HN : Hid (NsAt (wr.setCell ⟨g, k, none⟩ (.int .i64 ((x : Int) + (k : Int)))) (some ⟨g, k, none⟩) (nz Z)) := hideG (by
              intro _
              have hlen : k < (iv (nz (x :: L))).length := by rw [iv_len, nz_len, List.length_cons]; omega
              subst eZ
              refine ⟨g, k, rfl, fun j hj => ?_⟩
              have hj2 := hj
              rw [nz_len, HZl.out] at hj2
              refine S1.at ?_
              cases j with
              | zero =>
                rw [Nat.add_zero, List.getElem?_set_self hlen]
                unfold nz
                simp
              | succ i =>
                rw [List.getElem?_set_ne (by omega), show k + (i + 1) = (k + i) + 1 by omega, nz_at (by rw [List.length_cons]; omega)]
                unfold nz
                simp)
            have HK9 := hideG S1.kept
            generalize ((x :: L)[k]'(by simp; omega)) = cv at *
            have k1 : (k : Int) ≤ (m : Int) + 1 := by omega
            have k2 : k < c := by omega
            have k3 : ¬ (c ≤ k) := by omega
            have q9 : (((L[k] : Nat) : Int) == (f : Int)) = false := by simp; omega
            generalize L[k] = yk at *
            clear hlk eZ HA S1 hke
            go_wp2
            go_ret
            exact ⟨⟨some ⟨g, k, none⟩, c - k, by rw [HZl.out]; rfl, HN.out, by rw [HZl.out]; omega⟩, HK9.out⟩
end Go.Proofs.YtacmmclamkhpcaaDoor
