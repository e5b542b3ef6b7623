import Derived.Test.YtehjbceknnopoaaDoorRup
import Derived.Test.YtehjbceknnopoaaDoorFwh
namespace Go.Proofs.YtehjbceknnopoaaDoor
open Go.ChangeShapes Go.WideShapes Go.ChangeAt Go.RowKit

theorem lsR_codes : ∀ (x : Nat) (l : List Int) (e : Nat), lsR x l = .error e → e = 0 ∨ e = 1 ∨ e = 5 ∨ e = 6
  | 0, l, e, h => by cases h
  | x + 1, l, e, h => by
    rw [lsR] at h
    split at h
    · rename_i hd
      cases h
      exact decR_cod hd
    · split at h
      · rename_i hd
        cases h
        exact lsR_codes x _ _ hd
      · cases h
theorem unpR_codes {kind : Nat} {l : List Int} {e : Nat} (h : unpR kind l = .error e) : e = 0 ∨ e = 1 ∨ e = 4 ∨ e = 5 ∨ e = 6 := by
  unfold unpR at h
  split at h
  · cases h; omega
  split at h
  · cases h; omega
  split at h
  · cases h; omega
  · unfold listR at h
    split at h
    · rename_i hr
      cases h
      have := rdu_codes _ _ _ _ hr
      omega
    · split at h
      · rename_i hr
        cases h
        have := lsR_codes _ _ _ hr
        omega
      · split at h
        · cases h
        · cases h; omega
theorem num_tail {w : World} {a0 a1 a2 a3 a4 a5 a6 : Addr} (h : Errs7 w a0 a1 a2 a3 a4 a5 a6) : Calls Tryd.prog 18 #[.iface 103 (.pointer (some a4))] w fun e w' => e = .returned (.int .i64 5) ∧ w' = w := by
  have v0 := h.s0.var
  have v1 := h.s1.var
  have v2 := h.s2.var
  have v3 := h.s3.var
  have v4 := h.s4.var
  have e0 := err_neqF h.s4 h.s0 (by decide)
  have e1 := err_neqF h.s4 h.s1 (by decide)
  have e2 := err_neqF h.s4 h.s2 (by decide)
  have e3 := err_neqF h.s4 h.s3 (by decide)
  have e4 := err_eqF a4
  clear h
  go_enter Tryd.func18, Tryd.ntmps18
  go_wp2
  go_ret
  exact ⟨rfl, rfl⟩
theorem num_erL {w : World} {a0 a1 a2 a3 a4 a5 a6 : Addr} {er : Nat} (h : Errs7 w a0 a1 a2 a3 a4 a5 a6) (he : er = 0 ∨ er = 1 ∨ er = 4 ∨ er = 5 ∨ er = 6) : Calls Tryd.prog 18 #[erL a0 a1 a4 a5 a6 er] w fun e w' => e = .returned (.int .i64 ((er + 1 : Nat) : Int)) ∧ w' = w := by
  by_cases h4 : er = 4
  · subst h4
    exact num_tail h
  · rw [erL, if_neg h4]
    exact num_er h (by omega)
theorem erL_is (a0 a1 a4 a5 a6 : Addr) (er : Nat) : ∃ ad, erL a0 a1 a4 a5 a6 er = .iface 103 (.pointer (some ad)) := by
  unfold erL
  split
  · exact ⟨_, rfl⟩
  · exact erD_is a0 a1 a5 a6 er
theorem bencs_btot : ∀ D : List BkD, btot D ≤ (bencs D).length
  | [] => Nat.zero_le _
  | x :: D => by
    have h1 := bencs_btot D
    have h2 := benc_length x.t x.B
    rw [bencs_cons, List.length_append]
    simp only [btot, BkD.size]
    omega
/-- What comes of blocks, whatever they lie like. -/
def encV (d : List (Int × List Int)) : List Int := (d.map fun x => benc x.1 x.2).flatten
theorem bencs_encV (D : List BkD) : bencs D = encV (D.map bkv) := by
  induction D with
  | nil => rfl
  | cons x D ih => rw [bencs_cons, ih]; simp [encV, bkv]
theorem lsR_sound : ∀ (x : Nat) (l : List Int) (d : List (Int × List Int)) (r : List Int), IsBytes l → lsR x l = .ok (d, r) → l = encV d ++ r ∧ d.length = x ∧ ∀ y ∈ d, 0 < y.1
  | 0, l, d, r, _, h => by
    simp only [lsR, Except.ok.injEq, Prod.mk.injEq] at h
    obtain ⟨rfl, rfl⟩ := h
    exact ⟨rfl, rfl, fun y hy => by cases hy⟩
  | x + 1, l, d, r, hb, h => by
    rw [lsR] at h
    split at h
    · cases h
    · rename_i t b n hd
      split at h
      · cases h
      · rename_i d' r' hd'
        simp only [Except.ok.injEq, Prod.mk.injEq] at h
        obtain ⟨rfl, rfl⟩ := h
        obtain ⟨⟨tag, rfl, ht0, -, he⟩, -, -, -⟩ := enc_dec hb hd
        obtain ⟨h1, h2, h3⟩ := lsR_sound x (l.drop n) d' r' (fun y hy => hb y (List.mem_of_mem_drop hy)) hd'
        refine ⟨?_, by simp [h2], fun y hy => ?_⟩
        · conv => lhs; rw [← List.take_append_drop n l]
          rw [← he, h1]
          simp [encV]
        · rcases List.mem_cons.1 hy with rfl | hy
          · simp only; omega
          · exact h3 y hy
theorem unpR_sound {kind : Nat} {l : List Int} {d : List (Int × List Int)} (hb : IsBytes l) (h : unpR kind l = .ok d) : 0 < kind ∧ (∀ y ∈ d, 0 < y.1) ∧ ∀ D : List BkD, D.map bkv = d → penc kind D = l := by
  unfold unpR at h
  split at h
  · cases h
  split at h
  · cases h
  rename_i h10 hs
  have hs := Classical.not_not.1 hs
  split at h
  · cases h
  rename_i hk
  have hk0 : kind ≠ 0 := fun e => hk (.inl e)
  have hk5 : l.take 5 = cncd kind := Classical.not_not.1 fun e => hk (.inr e)
  have hbL : IsBytes ((l.take (l.length - 4)).drop 5) := fun y hy => hb y (List.mem_of_mem_take (List.mem_of_mem_drop hy))
  unfold listR at h
  split at h
  · cases h
  rename_i x k hr
  split at h
  · cases h
  rename_i d' r hl
  split at h
  case isFalse => cases h
  rename_i hr0
  simp only [Except.ok.injEq] at h
  subst h hr0
  obtain ⟨h1, h2, h3⟩ := lsR_sound x _ d' [] (fun y hy => hbL y (List.mem_of_mem_drop hy)) hl
  rw [List.append_nil] at h1
  have hf := rdu_form (fun y hy => hbL y (List.mem_of_mem_take hy)) hr
  have hkl := (rdu_le _ _ _ _ _ hr).2
  have hk10 : k ≤ 10 := by rw [List.length_take] at hkl; omega
  rw [List.take_take, Nat.min_eq_left hk10] at hf
  refine ⟨by omega, h3, fun D hD => ?_⟩
  have hDl : D.length = x := by rw [← h2, ← hD, List.length_map]
  have hp : phead kind D = l.take (l.length - 4) := by
    unfold phead
    rw [hDl, bencs_encV, hD, ← h1, ← hf, List.append_assoc, List.take_append_drop, ← hk5]
    conv => rhs; rw [← List.take_append_drop 5 (l.take (l.length - 4))]
    rw [List.take_take, Nat.min_eq_left (by omega)]
  unfold penc
  rw [hp, ← hs, List.take_append_drop]
end Go.Proofs.YtehjbceknnopoaaDoor
