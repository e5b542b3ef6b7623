import Derived.Test.YtnkmjhcddegkhaaDoorSvw
namespace Go.Proofs.YtnkmjhcddegkhaaDoor
open Go.ChangeShapes Go.WideShapes Go.ChangeAt Go.RowKit

theorem any_at (v : List Bool) (k : Nat) (h : k < v.length) : (v.take (k + 1)).any id = ((v.take k).any id || v[k]) := by
  rw [List.take_succ_eq_append_getElem h, List.any_append, List.any_cons, List.any_nil, Bool.or_false]; rfl
theorem vmap_at (v : List Bool) (k : Nat) (h : k < v.length) : (v.map Value.bool)[k]? = some (.bool v[k]) := by
  rw [List.getElem?_map, List.getElem?_eq_getElem h]; rfl
set_option maxRecDepth 20000 in
set_option maxHeartbeats 2000000 in
theorem index_any (v : List Bool) (g n : Nat) (w0 w : World) (hn : n = v.length) (hl : n ≤ 281474976710656) (hG : Gro w0 w 4 1 (.slice (some ⟨g, 0, none⟩) n n) n (v.map Value.bool)) :
    Calls Tryd.prog 62 #[.slice (some ⟨g, 0, none⟩) n n, .bool true] w fun e w' => (∃ i : Int, e = .returned (.int .i64 i) ∧ decide (0 ≤ i) = v.any id) ∧ w' = w := by
  have HC : Hid (∀ k (h : k < v.length), w.cell? ⟨g, k, none⟩ = some (.bool v[k])) := hideV (fun k h => hG.at (vmap_at v k h))
  clear hG
  go_enter Tryd.func62, Tryd.ntmps62
  go_wp2
  go_loopw [8] (fun i wr => ∃ (k : Nat), k ≤ n ∧ i = .int .i64 k ∧ Hid ((v.take k).any id = false) ∧ wr = w) (fun i _ => n - (intOf i).toNat)
  case atStart => exact ⟨0, by omega, rfl, rfl, rfl⟩
  case round =>
    obtain ⟨k, hk, rfl, HA, rfl⟩ := hrel
    by_cases hlt : k < n
    · have hlt2 : k < v.length := by omega
      have x0 := HC.out k hlt2
      have HN := hideV (any_at v k hlt2)
      have HM : Hid (v[k] = true → v.any id = true) := hideV (fun h => List.any_eq_true.2 ⟨v[k], List.getElem_mem _, h⟩)
      have hki : (k : Int) < (n : Int) := by omega
      generalize v[k] = b at x0 HN HM
      cases b with
      | true =>
        have HQ := hideV (HM.out rfl)
        clear HN HM HC
        go_wp2
        go_ret
        exact ⟨⟨_, rfl, by rw [HQ.out]; exact decide_eq_true (by omega)⟩, rfl⟩
      | false =>
        have HQ : Hid ((v.take (k + 1)).any id = false) := hideV (by rw [HN.out, HA.out]; rfl)
        clear HN HM HC HA
        go_wp2
        go_roundw
        case rel => exact ⟨k + 1, by omega, by go_num, HQ, trivial⟩
        case measure => simp [intOf]; omega
    · obtain rfl : k = n := by omega
      have HQ : Hid (v.any id = false) := hideV (by have := HA.out; rwa [List.take_of_length_le (by omega)] at this)
      clear HC HA
      go_wp2
      go_ret
      exact ⟨⟨_, rfl, by rw [HQ.out]; rfl⟩, rfl⟩
set_option maxRecDepth 20000 in
set_option maxHeartbeats 2000000 in
theorem contains_any (v : List Bool) (g n : Nat) (w0 w : World) (hn : n = v.length) (hl : n ≤ 281474976710656) (hG : Gro w0 w 4 1 (.slice (some ⟨g, 0, none⟩) n n) n (v.map Value.bool)) :
    Calls Tryd.prog 57 #[.slice (some ⟨g, 0, none⟩) n n, .bool true] w fun e w' => e = .returned (.bool (v.any id)) ∧ w' = w := by
  have HI : Hid (Calls Tryd.prog 62 #[.slice (some ⟨g, 0, none⟩) n n, .bool true] w fun e w' => (∃ i : Int, e = .returned (.int .i64 i) ∧ Hid (decide (0 ≤ i) = v.any id)) ∧ w' = w) := hideV (index_any v g n w0 w hn hl hG)
  clear hG hn hl
  generalize v.any id = B at HI ⊢
  cases B with
  | true =>
    go_enter Tryd.func57, Tryd.ntmps57
    go_wp2_with (go_at_call 62; refine HI.out.mono ?_; clear HI; rintro e W ⟨⟨i, rfl, hB⟩, rfl⟩; have hB2 : (0 : Int) ≤ i := of_decide_eq_true hB.out)
    go_ret
    exact ⟨rfl, rfl⟩
  | false =>
    go_enter Tryd.func57, Tryd.ntmps57
    go_wp2_with (go_at_call 62; refine HI.out.mono ?_; clear HI; rintro e W ⟨⟨i, rfl, hB⟩, rfl⟩; have hB2 : ¬ (0 : Int) ≤ i := of_decide_eq_false hB.out)
    go_ret
    exact ⟨congrArg (fun b => Ending.returned (.bool b)) (decide_eq_false (by omega)), rfl⟩
set_option maxRecDepth 20000 in
set_option maxHeartbeats 2000000 in
theorem hasVowel_any (l : List UInt8) (w : World) (hl : l.length ≤ 281474976710656) :
    Calls Tryd.prog 47 #[.string (bq l)] w fun e w' => e = .returned (.bool (hasV l)) ∧ Kept (fun _ => False) w w' := by
  have HV := hideV (vowels_any l w hl)
  have HC : Hid (∀ g w', Gro w w' 4 1 (.slice (some ⟨g, 0, none⟩) l.length l.length) l.length ((vwl l).map Value.bool) → Calls Tryd.prog 57 #[.slice (some ⟨g, 0, none⟩) l.length l.length, .bool true] w' fun e w2 => e = .returned (.bool (hasV l)) ∧ w2 = w') := hideV (fun g w' h => contains_any (vwl l) g l.length w w' (vwl_len l).symm hl h)
  generalize hasV l = B at HC ⊢
  go_enter Tryd.func47, Tryd.ntmps47
  go_wp2_with (first
    | (go_at_call 55; refine HV.out.mono ?_; rintro e W ⟨g, rfl, G⟩; have K := hideV G.kept; have G := hideV G)
    | (go_at_call 57; refine (HC.out _ _ G.out).mono ?_; rintro e W2 ⟨rfl, rfl⟩))
  go_ret
  exact ⟨rfl, K.out⟩
set_option maxRecDepth 20000 in
set_option maxHeartbeats 2000000 in
theorem measure_any (l : List UInt8) (w : World) (hl : l.length ≤ 281474976710656) :
    Calls Tryd.prog 45 #[.string (bq l)] w fun e w' => e = .returned (.int .i64 (meas l)) ∧ Kept (fun _ => False) w w' := by
  have HV := hideV (vowels_any l w hl)
  obtain ⟨M, hM⟩ : ∃ M, M = meas l := ⟨_, rfl⟩
  have HM := hideV hM
  rw [← hM]
  clear hM
  go_enter Tryd.func45, Tryd.ntmps45
  go_wp2_with (go_at_call 55; refine HV.out.mono ?_; clear HV; rintro e W ⟨g, rfl, G⟩; have K := hideV G.kept; have G := hideV G)
  have HC : Hid (∀ k (h : k < (vwl l).length), W.cell? ⟨g, k, none⟩ = some (.bool (vwl l)[k])) := hideV (fun k h => G.out.at (vmap_at (vwl l) k h))
  clear G
  have HL := vwl_len l
  generalize hv : vwl l = v at HC HL
  have HM2 : Hid (M = mea v) := hideV (by rw [← hv]; exact HM.out)
  clear HM hv
  go_loopw [3, 5] (fun m i wr => ∃ (k mm : Nat), (k ≤ l.length ∨ k = 1) ∧ 1 ≤ k ∧ mm ≤ k ∧ i = .int .i64 k ∧ m = .int .i64 mm ∧ Hid (mm = meaK v k) ∧ wr = W) (fun _ i _ => l.length + 1 - (intOf i).toNat)
  case atStart => exact ⟨1, 0, by omega, by omega, by omega, rfl, rfl, hideV (meaK_one v).symm, rfl⟩
  case round =>
    obtain ⟨k, mm, hk, hk1, hmk, rfl, rfl, HK, rfl⟩ := hrel
    by_cases hlt : k < l.length
    · obtain ⟨j, rfl⟩ : ∃ j, k = j + 1 := ⟨k - 1, by omega⟩
      have x0 := HC.out j (by omega)
      have x1 := HC.out (j + 1) (by omega)
      have HN := hideV (meaK_next v j (by omega))
      rw [← HK.out] at HN
      generalize v[j]'(by omega) = a at x0 HN
      generalize v[j + 1]'(by omega) = b at x1 HN
      have z1 : (0 : Int) ≤ (j : Int) + 1 - 1 := by omega
      have z2 : (j : Int) + 1 - 1 = (j : Int) := by omega
      have z3 : ((j + 1 : Nat) : Int) < (l.length : Int) := by omega
      have z4 : ((j + 1 : Nat) : Int) - 1 = (j : Int) := by omega
      have z5 : (j : Int) < (l.length : Int) := by omega
      have z6 : wrap64 (j : Int) = (j : Int) := by unfold wrap64; omega
      clear HC HK
      cases a with
      | false =>
        have HQ : Hid (mm = meaK v (j + 2)) := hideV (by rw [HN.out]; rfl)
        clear HN
        go_wp2
        go_roundw
        case rel => exact ⟨j + 2, mm, by omega, by omega, by omega, by go_num, rfl, HQ, trivial⟩
        case measure => simp [intOf]; omega
      | true =>
        cases b with
        | true =>
          have HQ : Hid (mm = meaK v (j + 2)) := hideV (by rw [HN.out]; rfl)
          clear HN
          go_wp2
          go_roundw
          case rel => exact ⟨j + 2, mm, by omega, by omega, by omega, by go_num, rfl, HQ, trivial⟩
          case measure => simp [intOf]; omega
        | false =>
          have HQ : Hid (mm + 1 = meaK v (j + 2)) := hideV (by rw [HN.out]; rfl)
          clear HN
          go_wp2
          go_roundw
          case rel => exact ⟨j + 2, mm + 1, by omega, by omega, by omega, by go_num, by go_num, HQ, trivial⟩
          case measure => simp [intOf]; omega
    · have HQ : Hid (mm = M) := hideV (by rw [HK.out, HM2.out]; unfold meaK; rw [List.take_of_length_le (by omega)])
      have hlt2 : ¬ (k : Int) < (l.length : Int) := by omega
      have e := HQ.out
      subst e
      go_wp2
      go_ret
      exact ⟨rfl, K.out⟩
end Go.Proofs.YtnkmjhcddegkhaaDoor
