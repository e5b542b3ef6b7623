import Derived.Test.YtidgofpmnlddaaaGreatDoorPda
namespace Go.Proofs.YtidgofpmnlddaaaGreatDoor
open Go.ChangeShapes Go.WideShapes Go.ChangeAt Go.RowKit

theorem bitLen_gt (n k : Nat) : k < bitLen n ↔ 2 ^ k ≤ n := by
  have := bitLen_le_iff n k
  omega
theorem shr_pos {n k : Nat} : n / 2 ^ k ≠ 0 ↔ k < bitLen n := by
  rw [bitLen_gt, Ne, Nat.div_eq_zero_iff]
  have := Nat.two_pow_pos k
  omega
theorem shr_cast (X q : Nat) : (X : Int) / (2 : Int) ^ q = ((X / 2 ^ q : Nat) : Int) := by rw [Int.natCast_ediv, Int.natCast_pow]; rfl
theorem shr_yes {X q : Nat} (h : q < bitLen X) : ((X : Int) / (2 : Int) ^ q != 0) = true := by
  rw [shr_cast, bne_iff_ne]
  have := shr_pos.2 h
  omega
theorem shr_no {X q : Nat} (h : ¬ q < bitLen X) : ((X : Int) / (2 : Int) ^ q != 0) = false := by
  rw [shr_cast, bne_eq_false_iff_eq]
  have := mt shr_pos.1 h
  omega
set_option maxRecDepth 20000 in
set_option maxHeartbeats 2000000 in
theorem dwid_any (l : List Int) (a : Option Addr) (c : Nat) (w : World) (hA : IntsAt w a l) (h0 : ∀ x ∈ l, 0 ≤ x) (hI : IsInts l) (hl : l.length ≤ 1099511627776) :
    Calls Tryz.prog 77 #[.slice a l.length c] w fun e w' => e = .returned (.int .i64 ((bitLen (orl l) : Nat) : Int)) ∧ w' = w := by
  have HA := hideP hA
  have H0 := hideP h0
  have HI := hideP hI
  obtain ⟨n, hn⟩ : ∃ n, n = l.length := ⟨_, rfl⟩
  rw [← hn] at hl ⊢
  have HN := hideP hn
  clear hA h0 hI hn
  go_enter Tryz.func77, Tryz.ntmps77
  go_wp2
  go_loop [3, 8] (fun v3 v8 => ∃ (j wd : Nat), j ≤ n ∧ wd ≤ 63 ∧ v8 = .int .i64 j ∧ v3 = .int .i64 wd ∧ Hid (wd = bitLen (orl (l.take j)))) (fun _ v8 => n - (intOf v8).toNat)
  case atStart => exact ⟨0, 0, by omega, by omega, rfl, rfl, hideP rfl⟩
  case round =>
    obtain ⟨j, wd, hj, hwd, rfl, rfl, HW⟩ := hrel
    by_cases hlt : j < n
    · have hjj : (j : Int) < (n : Int) := by omega
      have hjl : j < l.length := by rw [← HN.out]; exact hlt
      obtain ⟨b, off, rfl, hc⟩ := HA.out.get (k := j) hjl
      have hmem : l[j]?.getD 0 ∈ l := by rw [List.getElem?_eq_getElem hjl]; exact List.getElem_mem hjl
      have hx0 := H0.out _ hmem
      have hx1 := HI.out _ hmem
      have HS : Hid (bitLen (orl (l.take (j + 1))) = max wd (bitLen (l[j]?.getD 0).toNat)) := hideP (by
        rw [List.take_add_one, List.getElem?_eq_getElem hjl, HW.out]
        simp only [Option.toList_some, Option.getD_some]
        rw [orl_snoc, bitLen_or])
      generalize l[j]?.getD 0 = x at *
      obtain ⟨X, rfl⟩ := Int.eq_ofNat_of_zero_le hx0
      have hX : X < 2 ^ 63 := by omega
      have hB : bitLen X ≤ 63 := (bitLen_le_iff X 63).2 hX
      rw [Int.toNat_natCast] at HS
      go_wp2
      go_loop [3] (fun v3 => ∃ q : Nat, q ≤ 63 ∧ v3 = .int .i64 q ∧ Hid (wd ≤ q) ∧ Hid (q ≤ max wd (bitLen X))) (fun v3 => 63 - (intOf v3).toNat)
      case atStart => exact ⟨wd, hwd, rfl, hideP (Nat.le_refl _), hideP (Nat.le_max_left ..)⟩
      case round =>
        obtain ⟨q, hq, rfl, HQ1, HQ2⟩ := hrel
        by_cases hb : q < bitLen X
        · have hqq : (q : Int) < 63 := by omega
          have hs := shr_yes hb
          go_wp2
          go_round
          case rel => exact ⟨q + 1, by omega, by go_num, hideP (by have := HQ1.out; omega), hideP (by omega)⟩
          case measure => simp [intOf]; omega
        · have HE : Hid (q = bitLen (orl (l.take (j + 1)))) := hideP (by rw [HS.out]; have := HQ1.out; have := HQ2.out; omega)
          by_cases hq63 : q < 63
          · have hqq : (q : Int) < 63 := by omega
            have hs := shr_no hb
            go_wp2
            go_round
            case rel => exact ⟨j + 1, q, by omega, hq, by go_num, rfl, HE⟩
            case measure => simp [intOf]; omega
          · have hqq : ¬ (q : Int) < 63 := by omega
            go_wp2
            go_round
            case rel => exact ⟨j + 1, q, by omega, hq, by go_num, rfl, HE⟩
            case measure => simp [intOf]; omega
    · have hjj : ¬ (j : Int) < (n : Int) := by omega
      have HE : Hid (wd = bitLen (orl l)) := hideP (by rw [HW.out, List.take_of_length_le (by rw [← HN.out]; omega)])
      go_wp2
      go_ret
      exact ⟨by rw [HE.out]; rfl, rfl⟩
end Go.Proofs.YtidgofpmnlddaaaGreatDoor
