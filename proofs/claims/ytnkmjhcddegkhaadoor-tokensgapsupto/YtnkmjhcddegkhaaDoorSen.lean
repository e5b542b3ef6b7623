import Derived.Test.YtnkmjhcddegkhaaDoorSvx
import Derived.Test.YtnkmjhcddegkhaaDoorShl
import Derived.Deep.QuietTactic
import Derived.BigQuiet
namespace Go.Proofs.YtnkmjhcddegkhaaDoor
open Go.ChangeShapes Go.WideShapes Go.ChangeAt Go.RowKit

theorem hasSfx (l e : List UInt8) (w : World) (hl : l.length ≤ 281474976710656) : Calls Tryd.prog 49 #[.string (bq l), .string (bq e)] w fun r w' => r = .returned (.bool (sfx l e)) ∧ w' = w :=
  Tryd.strings_HasSuffix (bq l) (bq e) w (by rw [bq_size]; omega)
theorem cutSfx (l e : List UInt8) (w : World) (hl : l.length ≤ 281474976710656) : Calls Tryd.prog 46 #[.string (bq l), .string (bq e)] w fun r w' => r = .returned (.tuple #[.string (bq (Lib.trimSuffix l e)), .bool (sfx l e)]) ∧ w' = w :=
  Tryd.strings_CutSuffix (bq l) (bq e) w (by rw [bq_size]; omega)
theorem trimSfx (l e : List UInt8) (w : World) (hl : l.length ≤ 281474976710656) : Calls Tryd.prog 20 #[.string (bq l), .string (bq e)] w fun r w' => r = .returned (.string (bq (Lib.trimSuffix l e))) ∧ w' = w :=
  Tryd.strings_TrimSuffix (bq l) (bq e) w (by rw [bq_size]; omega)
theorem clone_any (l : List UInt8) (w : World) (hl : l.length ≤ 281474976710656) : Calls Tryd.prog 15 #[.string (bq l)] w fun r w' => r = .returned (.string (bq l)) ∧ Kept (fun _ => False) w w' := by
  have HC := hideV (Tryd.stringslite_Clone (bq l) w (by rw [bq_size]; omega))
  generalize bq l = s at HC ⊢
  go_enter Tryd.func15, Tryd.ntmps15
  go_wp2_with (go_at_call 29; refine HC.out.mono ?_; rintro e W ⟨rfl, hb⟩)
  go_ret
  exact ⟨rfl, Kept.of_below hb⟩
/-- One of these endings. -/
def anyS (l : List UInt8) (E : List (List UInt8)) : Bool := E.any (fun e => sfx l e)
theorem anyS_at (l : List UInt8) (E : List (List UInt8)) (k : Nat) (h : k < E.length) : anyS l (E.take (k + 1)) = (anyS l (E.take k) || sfx l E[k]) := by
  unfold anyS
  rw [List.take_succ_eq_append_getElem h, List.any_append, List.any_cons, List.any_nil, Bool.or_false]
set_option maxRecDepth 20000 in
set_option maxHeartbeats 2000000 in
theorem endsWith_any (l : List UInt8) (E : List (List UInt8)) (g n : Nat) (w : World) (hl : l.length ≤ 281474976710656) (hn : n = E.length) (hE : E.length ≤ 1000) (hc : ∀ k (h : k < E.length), w.cell? ⟨g, k, none⟩ = some (.string (bq E[k]))) :
    Calls Tryd.prog 50 #[.string (bq l), .slice (some ⟨g, 0, none⟩) n n] w fun e w' => e = .returned (.bool (anyS l E)) ∧ w' = w := by
  have HC := hideV hc
  have HNE := hideV hn
  have hn9 : n ≤ 1000 := by omega
  have HS := hideV (fun e w => hasSfx l e w hl)
  clear hc hn hE
  go_enter Tryd.func50, Tryd.ntmps50
  go_wp2
  go_loopw [9] (fun i wr => ∃ (k : Nat), k ≤ n ∧ i = .int .i64 k ∧ Hid (anyS l (E.take k) = false) ∧ wr = w) (fun i _ => n - (intOf i).toNat)
  case atStart => exact ⟨0, by omega, rfl, rfl, rfl⟩
  case round =>
    obtain ⟨k, hk, rfl, HA, rfl⟩ := hrel
    by_cases hlt : k < n
    · have hlt2 : k < E.length := by rw [← HNE.out]; exact hlt
      have x0 := HC.out k hlt2
      have HN := hideV (anyS_at l E k hlt2)
      have HM : Hid (sfx l E[k] = true → anyS l E = true) := hideV (fun h => List.any_eq_true.2 ⟨E[k], List.getElem_mem _, h⟩)
      have HW := hideV (HS.out E[k] wr)
      have hki : (k : Int) < (n : Int) := by omega
      generalize sfx l E[k] = b at HN HM HW
      generalize bq E[k] = s at x0 HW
      clear HC HS hlt2
      cases b with
      | true =>
        have HQ := hideV (HM.out rfl)
        clear HN HM HA
        go_wp2_with (go_at_call 49; refine HW.out.mono ?_; clear HW; rintro e W ⟨rfl, rfl⟩)
        go_ret
        exact ⟨congrArg (fun b => Ending.returned (.bool b)) HQ.out.symm, rfl⟩
      | false =>
        have HQ : Hid (anyS l (E.take (k + 1)) = false) := hideV (by rw [HN.out, HA.out]; rfl)
        clear HN HM HA
        go_wp2_with (go_at_call 49; refine HW.out.mono ?_; clear HW; rintro e W ⟨rfl, rfl⟩)
        go_roundw
        case rel => exact ⟨k + 1, by omega, by go_num, HQ, trivial⟩
        case measure => simp [intOf]; omega
    · obtain rfl : k = n := by omega
      have HQ : Hid (anyS l E = false) := hideV (by have := HA.out; rwa [List.take_of_length_le (by rw [HNE.out]; exact Nat.le_refl _)] at this)
      clear HC HA HS
      go_wp2
      go_ret
      exact ⟨congrArg (fun b => Ending.returned (.bool b)) HQ.out.symm, rfl⟩
/-- The endings laid just now. -/
theorem ends_new (l : List UInt8) (E : List (List UInt8)) (w : World) (hl : l.length ≤ 281474976710656) (hE : E.length ≤ 1000) (n : Nat) (hn : n = E.length) (C : Array Value) (hC : C = (E.map (fun e => Value.string (bq e))).toArray) :
    Calls Tryd.prog 50 #[.string (bq l), .slice (some ⟨w.heap.size, 0, none⟩) n n] (w.alloc (.cells C 9)) fun e w' => e = .returned (.bool (anyS l E)) ∧ Kept (fun _ => False) w w' := by
  subst hC
  refine (endsWith_any l E w.heap.size n _ hl hn hE (fun k h => ?_)).mono ?_
  · rw [World.cell?_alloc_new, List.getElem?_toArray, List.getElem?_map, List.getElem?_eq_getElem h]; rfl
  · rintro e W ⟨rfl, rfl⟩
    exact ⟨rfl, Kept.alloc _ _⟩
theorem small_any (c : Int) (w : World) : Calls Tryd.prog 31 #[.int .u8 c] w fun e w' => e = .returned (.bool (decide (97 ≤ c) && decide (c ≤ 122))) ∧ w' = w := by
  by_cases h1 : 97 ≤ c
  · go_enter Tryd.func31, Tryd.ntmps31
    go_wp2
    go_ret
    exact ⟨congrArg (fun b => Ending.returned (.bool b)) (by rw [decide_eq_true h1, Bool.true_and]), rfl⟩
  · go_enter Tryd.func31, Tryd.ntmps31
    go_wp2
    go_ret
    exact ⟨congrArg (fun b => Ending.returned (.bool b)) (by rw [decide_eq_false (by omega : ¬ (97 : Int) ≤ c), Bool.false_and]), rfl⟩
theorem allS_at (l : List UInt8) (k : Nat) (h : k < l.length) : (l.take (k + 1)).all isSm = ((l.take k).all isSm && isSm l[k]) := by
  rw [List.take_succ_eq_append_getElem h, List.all_append, List.all_cons, List.all_nil, Bool.and_true]
theorem sm_int (c : UInt8) : (decide ((97 : Int) ≤ (c.toNat : Int)) && decide ((c.toNat : Int) ≤ 122)) = isSm c := by
  unfold isSm
  congr 1
  · exact decide_eq_decide.2 (by omega)
  · exact decide_eq_decide.2 (by omega)
set_option maxRecDepth 20000 in
set_option maxHeartbeats 2000000 in
theorem allSmall_any (l : List UInt8) (w : World) (hl : l.length ≤ 281474976710656) :
    Calls Tryd.prog 21 #[.string (bq l)] w fun e w' => e = .returned (.bool (l.all isSm)) ∧ w' = w := by
  obtain ⟨s, hs⟩ : ∃ s, s = bq l := ⟨_, rfl⟩
  have hz : s.size = l.length := by rw [hs]; exact bq_size l
  have hz' : (s.size : Int) = (l.length : Int) := by rw [hz]
  have HX : Hid (∀ k (h : k < l.length) (h2 : k < s.size), s[k] = l[k]) := hideV (fun k h h2 => by subst hs; rfl)
  rw [← hs]
  clear hs
  go_enter Tryd.func21, Tryd.ntmps21
  go_wp2
  go_loopw [6] (fun i wr => ∃ (k : Nat), k ≤ l.length ∧ i = .int .i64 k ∧ Hid ((l.take k).all isSm = true) ∧ wr = w) (fun i _ => l.length - (intOf i).toNat)
  case atStart => exact ⟨0, by omega, rfl, rfl, rfl⟩
  case round =>
    obtain ⟨k, hk, rfl, HA, rfl⟩ := hrel
    by_cases hlt : k < l.length
    · have hlt2 : k < s.size := by omega
      have hc := HX.out k hlt hlt2
      have HN := hideV (allS_at l k hlt)
      have HM : Hid (isSm l[k] = false → l.all isSm = false) := hideV (fun h => List.all_eq_false.2 ⟨l[k], List.getElem_mem _, by rw [h]; decide⟩)
      have HW := hideV (small_any (l[k].toNat : Int) wr)
      rw [sm_int] at HW
      have hc3 : s[k].toNat = l[k].toNat := by rw [hc]
      generalize l[k] = c at HN HM HW hc3
      clear HX hc
      cases hb : isSm c with
      | false =>
        rw [hb] at HM HW
        have HQ := hideV (HM.out rfl)
        clear HN HM HA hb
        go_wp2_with (go_at_call 31; refine HW.out.mono ?_; clear HW; rintro e W ⟨rfl, rfl⟩)
        go_ret
        exact ⟨congrArg (fun b => Ending.returned (.bool b)) HQ.out.symm, rfl⟩
      | true =>
        rw [hb] at HN HW
        have HQ : Hid ((l.take (k + 1)).all isSm = true) := hideV (by rw [HN.out, HA.out]; rfl)
        clear HN HM HA hb
        go_wp2_with (go_at_call 31; refine HW.out.mono ?_; clear HW; rintro e W ⟨rfl, rfl⟩)
        go_roundw
        case rel => exact ⟨k + 1, by omega, by go_num, HQ, trivial⟩
        case measure => simp [intOf]; omega
    · obtain rfl : k = l.length := by omega
      have HQ : Hid (l.all isSm = true) := hideV (by have := HA.out; rwa [List.take_of_length_le (Nat.le_refl _)] at this)
      clear HX HA
      go_wp2
      go_ret
      exact ⟨congrArg (fun b => Ending.returned (.bool b)) HQ.out.symm, rfl⟩
end Go.Proofs.YtnkmjhcddegkhaaDoor
