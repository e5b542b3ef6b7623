import Derived.Test.YtohnkamobmkhkaaDoorVfa
import Derived.Test.YtohnkamobmkhkaaDoorMnm
import Derived.Test.YtohnkamobmkhkaaDoorIzb
import Derived.BigQuiet
namespace Go.Proofs.YtohnkamobmkhkaaDoor
open Go.ChangeShapes Go.WideShapes Go.ChangeAt Go.RowKit

/-! The project's tables. -/
def amB (i n : Int) : Bool := decide (0 ≤ i) && decide (i < n)
theorem amB_iff {i n : Int} : amB i n = true ↔ 0 ≤ i ∧ i < n := by simp [amB]
set_option maxRecDepth 20000 in
theorem among_any (i n : Int) (w : World) :
    Calls Tryd.prog 59 #[.int .i64 i, .int .i64 n] w fun e w' => e = .returned (.bool (amB i n)) ∧ w' = w := by
  unfold amB
  by_cases h0 : 0 ≤ i
  · by_cases h1 : i < n
    · go_enter Tryd.func59, Tryd.ntmps59
      go_wp2
      go_ret
      exact ⟨by simp [h0, h1], rfl⟩
    · go_enter Tryd.func59, Tryd.ntmps59
      go_wp2
      go_ret
      exact ⟨by simp [h1], rfl⟩
  · go_enter Tryd.func59, Tryd.ntmps59
    go_wp2
    go_ret
    exact ⟨by rw [decide_eq_false (by omega : ¬ 0 ≤ i)]; rfl, rfl⟩
set_option maxRecDepth 20000 in
set_option maxHeartbeats 1000000 in
theorem goodAvgs_any (l : List Int) (a : Option Addr) (c : Nat) (w : World) (h : IntsAt w a l) (hl : l.length ≤ 1099511627776) (v : Bool) (hv : v = true ↔ AvOk l) :
    Calls Tryd.prog 39 #[.slice a l.length c] w fun e w' => e = .returned (.bool v) ∧ w' = w := by
  by_cases h1 : 1 ≤ l.length
  · by_cases h2 : l.length ≤ 16
    · have HM := hideI (min_any l a c w h hl (by intro e; rw [e] at h1; simp at h1))
      have HV : Hid (v = !(l.any fun x => decide (x < 0))) := hideI (by
        rw [Bool.eq_iff_iff, hv]
        unfold AvOk
        simp [h1, h2])
      obtain ⟨nl, hnl⟩ : ∃ nl, nl = l.length := ⟨_, rfl⟩
      rw [← hnl] at HM h1 h2 ⊢
      have g1 : (1 : Int) ≤ (nl : Int) := by omega
      have g2 : (nl : Int) ≤ 16 := by omega
      clear hnl h hl hv
      go_enter Tryd.func39, Tryd.ntmps39
      go_wp2_with (go_at_call 58; refine HM.out.mono ?_; clear HM; rintro e W ⟨⟨m, rfl, hm⟩, rfl⟩; have HMM := hideI hm; clear hm)
      go_ret
      refine ⟨ret_bool ?_, rfl⟩
      rw [HV.out, ← HMM.out]
      by_cases hm : m < 0
      · rw [decide_eq_true hm, decide_eq_false (by omega)]; rfl
      · rw [decide_eq_false hm, decide_eq_true (by omega)]; rfl
    · have hf : v = false := isB_f hv (fun e => h2 e.2.1)
      subst hf
      obtain ⟨nl, hnl⟩ : ∃ nl, nl = l.length := ⟨_, rfl⟩
      rw [← hnl] at h1 h2 ⊢
      have g1 : (1 : Int) ≤ (nl : Int) := by omega
      have g2 : ¬ (nl : Int) ≤ 16 := by omega
      clear hnl h hl hv
      go_enter Tryd.func39, Tryd.ntmps39
      go_wp2
      go_ret
      exact ⟨rfl, rfl⟩
  · have hf : v = false := isB_f hv (fun e => h1 e.1)
    subst hf
    obtain ⟨nl, hnl⟩ : ∃ nl, nl = l.length := ⟨_, rfl⟩
    rw [← hnl] at h1 ⊢
    have g1 : ¬ (1 : Int) ≤ (nl : Int) := by omega
    clear hnl h hl hv
    go_enter Tryd.func39, Tryd.ntmps39
    go_wp2
    go_ret
    exact ⟨rfl, rfl⟩
theorem all_snoc {α : Type} {P : α → Prop} {l : List α} {j : Nat} (h : j < l.length) (ha : ∀ x ∈ l.take j, P x) (hf : P l[j]) : ∀ x ∈ l.take (j + 1), P x := by
  intro x hx
  rw [List.take_succ_eq_append_getElem h, List.mem_append] at hx
  rcases hx with e | e
  · exact ha x e
  · simp at e; rw [e]; exact hf
set_option maxRecDepth 20000 in
set_option maxHeartbeats 1000000 in
theorem goodOffs_any (l : List Int) (a : Option Addr) (c : Nat) (w : World) (h : IntsAt w a l) (hl : l.length ≤ 9223372036854775806) (v : Bool) (hv : v = true ↔ ∀ o ∈ l, OsOk o) :
    Calls Tryd.prog 61 #[.slice a l.length c] w fun e w' => e = .returned (.bool v) ∧ w' = w := by
  have HH := hideI h
  have HV := hideI hv
  have HA := fun (i : Int) (W : World) => hideI (among_any i 2147483647 W)
  obtain ⟨nl, hnl⟩ : ∃ nl, nl = l.length := ⟨_, rfl⟩
  rw [← hnl] at hl ⊢
  have HNL := hideI hnl
  clear h hv hnl
  go_enter Tryd.func61, Tryd.ntmps61
  go_wp2
  go_loop [7] (fun i => ∃ k : Nat, k ≤ nl ∧ i = .int .i64 k ∧ Hid (∀ o ∈ l.take k, OsOk o)) (fun i => nl - (intOf i).toNat)
  case atStart => exact ⟨0, Nat.zero_le _, rfl, hideI (by simp)⟩
  case round =>
    obtain ⟨k, hk, rfl, HK⟩ := hrel
    by_cases hlt : k < nl
    · have hkl : k < l.length := by rw [← HNL.out]; exact hlt
      have hki : (k : Int) < (nl : Int) := by omega
      obtain ⟨b, off, rfl, hc⟩ := HH.out.get hkl
      rw [List.getElem?_eq_getElem hkl, Option.getD_some] at hc
      have HS : Hid (OsOk l[k] → ∀ o ∈ l.take (k + 1), OsOk o) := hideI (fun e => all_snoc hkl HK.out e)
      have HB : Hid (¬ OsOk l[k] → v = false) := hideI (fun e => isB_f HV.out (fun f => e (f _ (List.getElem_mem hkl))))
      generalize l[k] = x at *
      have HAx := fun W => (HA x W)
      clear HA
      cases hb : amB x 2147483647 with
      | true =>
        rw [hb] at HAx
        have HS2 := hideI (HS.out (amB_iff.1 hb))
        clear hb HS HB HK
        go_wp2_with (go_at_call 59; refine (HAx _).out.mono ?_; rintro e W ⟨rfl, rfl⟩)
        go_round
        case rel => exact ⟨k + 1, hlt, by go_num, HS2⟩
        case measure => simp [intOf]; omega
      | false =>
        rw [hb] at HAx
        have hf := HB.out (fun e => by rw [amB_iff.2 e] at hb; cases hb)
        subst hf
        clear hb HS HB HK HV
        go_wp2_with (go_at_call 59; refine (HAx _).out.mono ?_; rintro e W ⟨rfl, rfl⟩)
        go_ret
        exact ⟨rfl, rfl⟩
    · have hki : ¬ (k : Int) < (nl : Int) := by omega
      have ht := isB_t HV.out (by have e := HK.out; rw [List.take_of_length_le (by rw [← HNL.out]; omega)] at e; exact e)
      subst ht
      clear HV
      go_wp2
      go_ret
      exact ⟨rfl, rfl⟩
end Go.Proofs.YtohnkamobmkhkaaDoor
