import Derived.Test.YtmfdoohnladohaaRst
import Derived.Test.YtmfdoohnladohaaPle
namespace Go.Proofs.Ytmfdoohnladohaa
open Go.ChangeShapes Go.WideShapes Go.ChangeAt Go.RowKit

theorem fm_at (l : List UInt8) (k : Nat) (h : k < (vwl l).length) (h2 : k < (bq (fm l)).size) : (bq (fm l))[k].toNat = (vc (vwl l)[k]).toNat := by
  show ((fm l)[k]'(by rw [bq_size] at h2; exact h2)).toNat = _
  unfold fm
  rw [List.getElem_map]
set_option maxRecDepth 20000 in
set_option maxHeartbeats 2000000 in
theorem rmeasure_any (l : List UInt8) (w : World) (hl : l.length ≤ 140737488355328) :
    Calls Try.prog 33 #[.string (bq l)] w fun e w' => e = .returned (.int .i64 (meas l)) ∧ Kept (fun _ => False) w w' := by
  have HV := hideV (rform_any l w hl)
  obtain ⟨M, hM⟩ : ∃ M, M = meas l := ⟨_, rfl⟩
  have HM := hideV hM
  rw [← hM]
  clear hM
  have HX := hideV (fm_at l)
  have hz : (bq (fm l)).size = l.length := by rw [bq_size, fm_len]
  have hz' : ((bq (fm l)).size : Int) = (l.length : Int) := by rw [hz]
  generalize bq (fm l) = f at *
  have HL := vwl_len l
  generalize hv : vwl l = v at HX HL
  have HM2 : Hid (M = mea v) := hideV (by rw [← hv]; exact HM.out)
  clear HM hv
  go_enter Try.func33, Try.ntmps33
  go_wp2_with (go_at_call 49; refine HV.out.mono ?_; clear HV; rintro e W ⟨rfl, K⟩)
  have K := hideV K
  go_loopw [4, 5] (fun m i wr => ∃ (k mm : Nat), (k ≤ l.length ∨ k = 1) ∧ 1 ≤ k ∧ mm ≤ k ∧ i = .int .i64 k ∧ m = .int .i64 mm ∧ Hid (mm = meaK v k) ∧ wr = W) (fun _ i _ => l.length + 1 - (intOf i).toNat)
  case atStart => exact ⟨1, 0, by omega, by omega, by omega, rfl, rfl, hideV (meaK_one v).symm, rfl⟩
  case round =>
    obtain ⟨k, mm, hk, hk1, hmk, rfl, rfl, HK, rfl⟩ := hrel
    by_cases hlt : k < l.length
    · obtain ⟨j, rfl⟩ : ∃ j, k = j + 1 := ⟨k - 1, by omega⟩
      have b0 : j < f.size := by omega
      have b1 : j + 1 < f.size := by omega
      have x0 := HX.out j (by omega) b0
      have x1 := HX.out (j + 1) (by omega) b1
      have HN := hideV (meaK_next v j (by omega))
      rw [← HK.out] at HN
      generalize v[j]'(by omega) = a at x0 HN
      generalize v[j + 1]'(by omega) = b at x1 HN
      have z1 : (0 : Int) ≤ (j : Int) + 1 - 1 := by omega
      have z2 : (j : Int) + 1 - 1 = (j : Int) := by omega
      have z3 : ((j + 1 : Nat) : Int) < (l.length : Int) := by omega
      have z4 : ((j + 1 : Nat) : Int) - 1 = (j : Int) := by omega
      have z5 : (j : Int) < (l.length : Int) := by omega
      have z6 : wrap64 (j : Int) = (j : Int) := by unfold wrap64; omega
      have z7 : (j : Int) + 1 < (l.length : Int) := by omega
      clear HX HK
      cases a with
      | false =>
        have HQ : Hid (mm = meaK v (j + 2)) := hideV (by rw [HN.out]; rfl)
        have x2 : f[j].toNat = 99 := x0
        clear HN x0
        go_wp2
        go_roundw
        case rel => exact ⟨j + 2, mm, by omega, by omega, by omega, by go_num, rfl, HQ, trivial⟩
        case measure => simp [intOf]; omega
      | true =>
        have x2 : f[j].toNat = 118 := x0
        cases b with
        | true =>
          have HQ : Hid (mm = meaK v (j + 2)) := hideV (by rw [HN.out]; rfl)
          have x3 : f[j + 1].toNat = 118 := x1
          clear HN x0 x1
          go_wp2
          go_roundw
          case rel => exact ⟨j + 2, mm, by omega, by omega, by omega, by go_num, rfl, HQ, trivial⟩
          case measure => simp [intOf]; omega
        | false =>
          have HQ : Hid (mm + 1 = meaK v (j + 2)) := hideV (by rw [HN.out]; rfl)
          have x3 : f[j + 1].toNat = 99 := x1
          clear HN x0 x1
          go_wp2
          go_roundw
          case rel => exact ⟨j + 2, mm + 1, by omega, by omega, by omega, by go_num, by go_num, HQ, trivial⟩
          case measure => simp [intOf]; omega
    · have HQ : Hid (mm = M) := hideV (by rw [HK.out, HM2.out]; unfold meaK; rw [List.take_of_length_le (by omega)])
      have hlt2 : ¬ (k : Int) < (l.length : Int) := by omega
      have e := HQ.out
      subst e
      go_wp2
      go_ret
      exact ⟨rfl, K.out⟩
set_option maxRecDepth 20000 in
set_option maxHeartbeats 2000000 in
theorem rvowelled_any (l : List UInt8) (w : World) (hl : l.length ≤ 140737488355328) :
    Calls Try.prog 34 #[.string (bq l)] w fun e w' => e = .returned (.bool (hasV l)) ∧ Kept (fun _ => False) w w' := by
  have HV := hideV (rform_any l w hl)
  have HX := hideV (fm_at l)
  have hz : (bq (fm l)).size = l.length := by rw [bq_size, fm_len]
  have hz' : ((bq (fm l)).size : Int) = (l.length : Int) := by rw [hz]
  generalize bq (fm l) = f at *
  have HL := vwl_len l
  have hB : hasV l = (vwl l).any id := rfl
  rw [hB]
  generalize vwl l = v at *
  clear hB
  obtain ⟨B, hB⟩ : ∃ B, B = v.any id := ⟨_, rfl⟩
  rw [← hB]
  have HB := hideV hB
  clear hB
  go_enter Try.func34, Try.ntmps34
  go_wp2_with (go_at_call 49; refine HV.out.mono ?_; clear HV; rintro e W ⟨rfl, K⟩)
  have K := hideV K
  go_loopw [4] (fun i wr => ∃ (k : Nat), k ≤ l.length ∧ i = .int .i64 k ∧ Hid ((v.take k).any id = false) ∧ wr = W) (fun i _ => l.length - (intOf i).toNat)
  case atStart => exact ⟨0, by omega, rfl, rfl, rfl⟩
  case round =>
    obtain ⟨k, hk, rfl, HA, rfl⟩ := hrel
    by_cases hlt : k < l.length
    · have hlt2 : k < v.length := by omega
      have b0 : k < f.size := by omega
      have x0 := HX.out k hlt2 b0
      have HN := hideV (any_at v k hlt2)
      have HM : Hid (v[k] = true → true = B) := hideV (fun h => by rw [HB.out]; exact (List.any_eq_true.2 ⟨v[k], List.getElem_mem _, h⟩).symm)
      have hki : (k : Int) < (l.length : Int) := by omega
      generalize v[k] = b at x0 HN HM
      cases b with
      | true =>
        have HQ := hideV (HM.out rfl)
        have x2 : f[k].toNat = 118 := x0
        clear HN HM HX x0
        go_wp2
        go_ret
        exact ⟨retb HQ.out, K.out⟩
      | false =>
        have HQ : Hid ((v.take (k + 1)).any id = false) := hideV (by rw [HN.out, HA.out]; rfl)
        have x2 : f[k].toNat = 99 := x0
        clear HN HM HX HA x0
        go_wp2
        go_roundw
        case rel => exact ⟨k + 1, by omega, by go_num, HQ, trivial⟩
        case measure => simp [intOf]; omega
    · have HQ : Hid (false = B) := hideV (by have := HA.out; rw [List.take_of_length_le (by omega)] at this; rw [HB.out, this])
      have hki : ¬ (k : Int) < (l.length : Int) := by omega
      clear HX HA
      go_wp2
      go_ret
      exact ⟨retb HQ.out, K.out⟩
set_option maxRecDepth 20000 in
set_option maxHeartbeats 2000000 in
theorem rends_any (l e : List UInt8) (w : World) (hl : l.length ≤ 281474976710656) (he : e.length ≤ 1000) :
    Calls Try.prog 14 #[.string (bq l), .string (bq e)] w fun r w' => r = .returned (.bool (sfx l e)) ∧ w' = w := by
  have z1 : ((bq l).size : Int) = (l.length : Int) := by rw [bq_size]
  have z2 : ((bq e).size : Int) = (e.length : Int) := by rw [bq_size]
  have z3 : (bq l).size = l.length := bq_size l
  by_cases h : e.length ≤ l.length
  · obtain ⟨r, hr⟩ : ∃ r, r = l.length - e.length := ⟨_, rfl⟩
    have x1 := ends_raw l e r h hr
    have r1 : (l.length : Int) - (e.length : Int) = (r : Int) := by omega
    have r2 : r ≤ l.length := by omega
    have r3 : IntKind.i64.wrap (r : Int) = (r : Int) := by rw [IntKind.wrap_i64]; omega
    have r4 : (e.length : Int) ≤ (l.length : Int) := by omega
    generalize sfx l e = B at *
    generalize bq l = s at *
    generalize bq e = t at *
    clear h hr
    go_enter Try.func14, Try.ntmps14
    go_wp2
    go_ret
    exact ⟨rfl, rfl⟩
  · rw [sfx_long l e h]
    have r4 : ¬ (e.length : Int) ≤ (l.length : Int) := by omega
    generalize bq l = s at *
    generalize bq e = t at *
    clear h
    go_enter Try.func14, Try.ntmps14
    go_wp2
    go_ret
    exact ⟨rfl, rfl⟩
end Go.Proofs.Ytmfdoohnladohaa
