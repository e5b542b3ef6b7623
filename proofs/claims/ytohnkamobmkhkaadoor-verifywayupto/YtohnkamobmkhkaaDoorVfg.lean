import Derived.Test.YtohnkamobmkhkaaDoorVff
import Derived.Test.YtohnkamobmkhkaaDoorIzg
namespace Go.Proofs.YtohnkamobmkhkaaDoor
open Go.ChangeShapes Go.WideShapes Go.ChangeAt Go.RowKit

/-! The project's code: what is taken, the one OpEnd, the operands. -/
structure TkT (w : World) : Prop where
  at_ : ∀ k : Nat, k < 17 → w.cell? ⟨24, k, none⟩ = some (.int .u64 (tkL.getD k 0 : Nat))
theorem TkT.kept {w w' : World} (h : TkT w) (k : Kept (fun _ => False) w w') : TkT w' := ⟨fun i hi => k.cell (h.at_ i hi) (fun f => f)⟩
set_option maxRecDepth 20000 in
set_option maxHeartbeats 2000000 in
theorem taken_any (x : In) (w : World) (hT : TkT w) (hx : 0 ≤ x.op ∧ x.op < 17) :
    Calls Tryd.prog 46 #[.agg #[.int .i64 x.op, .int .u64 x.a, .int .u64 x.b]] w fun e w' => e = .returned (.int .u64 (tkN x : Nat)) ∧ Kept (fun _ => False) w w' := by
  obtain ⟨op, a, b⟩ := x
  simp only at hx ⊢
  obtain ⟨k, rfl⟩ : ∃ k : Nat, op = k := ⟨op.toNat, by omega⟩
  have hk : k < 17 := by omega
  have HKA := hideI (Kept.alloc w (.cells #[.int .i64 (k : Int), .int .u64 (a : Int), .int .u64 (b : Int)] 56))
  have x1 := (hT.kept HKA.out).at_ k hk
  by_cases h14 : k = 14
  · subst h14
    have e : tkN ⟨((14 : Nat) : Int), a, b⟩ = a := rfl
    rw [e]
    clear hT x1 hk hx
    go_enter Tryd.func46, Tryd.ntmps46
    go_wp2
    go_ret
    exact ⟨rfl, HKA.out⟩
  · have e : tkN ⟨(k : Int), a, b⟩ = tkL.getD k 0 := by
      unfold tkN
      rw [if_neg (by simp only; omega)]
      simp only [Int.toNat_natCast]
    rw [e]
    have hk1 : ¬ (k : Int) = 14 := by omega
    have hk2 : ((k : Int) == 14) = false := by rw [beq_eq_false_iff_ne]; exact hk1
    generalize tkL.getD k 0 = n at *
    clear hT e h14
    go_enter Tryd.func46, Tryd.ntmps46
    go_wp2
    go_ret
    exact ⟨rfl, HKA.out⟩
set_option maxRecDepth 20000 in
set_option maxHeartbeats 2000000 in
theorem ends1_any (x : In) (w : World) :
    Calls Tryd.prog 44 #[.agg #[.int .i64 x.op, .int .u64 x.a, .int .u64 x.b]] w fun e w' => e = .returned (.bool (decide (x.op = 0))) ∧ Kept (fun _ => False) w w' := by
  obtain ⟨op, a, b⟩ := x
  simp only
  have HKA := hideI (Kept.alloc w (.cells #[.int .i64 op, .int .u64 (a : Int), .int .u64 (b : Int)] 56))
  go_enter Tryd.func44, Tryd.ntmps44
  go_wp2
  go_ret
  exact ⟨ret_bool (by by_cases h : op = 0 <;> simp [h]), HKA.out⟩
set_option maxRecDepth 20000 in
set_option maxHeartbeats 4000000 in
theorem ixEnd_any (L : List In) (a : Option Addr) (c : Nat) (W : World) (hP : InsAt W a L) (hl : L.length ≤ 1099511627776) :
    Calls Tryd.prog 43 #[.slice a L.length c, .func (.func 44) #[] #[]] W fun e w' => e = .returned (.int .i64 (fE L)) ∧ Kept (fun _ => False) W w' := by
  have HP := hideI hP
  obtain ⟨n, hn⟩ : ∃ n, n = L.length := ⟨_, rfl⟩
  have HN := hideI hn
  rw [← hn] at hl ⊢
  clear hP hn
  go_enter Tryd.func43, Tryd.ntmps43
  go_wp2
  go_loopw [8] (fun s8 wr => ∃ k : Nat, k ≤ n ∧ s8 = .int .i64 k ∧ Hid (∀ i (hi : i < L.length), i < k → L[i].op ≠ 0) ∧ Hid (Kept (fun _ => False) W wr)) (fun s8 _ => n - (intOf s8).toNat)
  case atStart => exact ⟨0, by omega, rfl, hideI (fun i _ h => by omega), hideI (Kept.refl _ _)⟩
  case round =>
    obtain ⟨k, hk, rfl, HL, HK⟩ := hrel
    by_cases hlt : k < n
    · have hkl : k < L.length := by rw [← HN.out]; exact hlt
      obtain ⟨b, off, rfl, hc⟩ := HP.out (by intro e; rw [e] at hkl; simp at hkl)
      obtain ⟨x0, x1, x2⟩ := hc k hkl
      have y0 := HK.out.cell x0 (fun f => f)
      have y1 := HK.out.cell x1 (fun f => f)
      have y2 := HK.out.cell x2 (fun f => f)
      have HS : Hid (L[k].op ≠ 0 → ∀ i (hi : i < L.length), i < k + 1 → L[i].op ≠ 0) := hideI (fun e i hi hik => by
        by_cases hkj : i = k
        · subst hkj; exact e
        · exact HL.out i hi (by omega))
      have HE : Hid (L[k].op = 0 → fE L = k) := hideI (fun e => fE_some hkl e (fun i hi hik => HL.out i hi hik))
      generalize L[k] = x at *
      have CL := hideI (ends1_any x wr)
      have hkk : (k : Int) < (n : Int) := by omega
      clear x0 x1 x2 hc HL
      obtain ⟨op, xa, xb⟩ := x
      simp only at y0 y1 y2 HS HE CL
      by_cases h0 : op = 0
      · have hdd : decide (op = 0) = true := decide_eq_true h0
        have HE2 := hideI (HE.out h0)
        rw [hdd] at CL
        clear hdd HE HS h0
        go_wp2_with (go_at_call 44; refine CL.out.mono ?_; clear CL; rintro e W2 ⟨rfl, k2⟩; have HK2 := hideI (HK.out.trans k2 (fun _ f => f.elim)); clear k2)
        go_ret
        exact ⟨by rw [HE2.out]; rfl, HK2.out⟩
      · have hdd : decide (op = 0) = false := decide_eq_false h0
        have HS2 := hideI (HS.out h0)
        rw [hdd] at CL
        clear hdd HE HS h0
        go_wp2_with (go_at_call 44; refine CL.out.mono ?_; clear CL; rintro e W2 ⟨rfl, k2⟩; have HK2 := hideI (HK.out.trans k2 (fun _ f => f.elim)); clear k2)
        go_roundw
        case rel => exact ⟨k + 1, hlt, by go_num, HS2, HK2⟩
        case measure => simp [intOf]; omega
    · have hkk : ¬ (k : Int) < (n : Int) := by omega
      go_wp2
      go_ret
      refine ⟨?_, HK.out⟩
      rw [fE_none (fun i hi => HL.out i hi (by have := HN.out; omega))]
      rfl
set_option maxRecDepth 20000 in
set_option maxHeartbeats 4000000 in
theorem endsOnce_any (L : List In) (a : Option Addr) (c : Nat) (w : World) (hP : InsAt w a L) (hl : L.length ≤ 1099511627776) (v : Bool) (hv : v = true ↔ EnOk L) :
    Calls Tryd.prog 25 #[.slice a L.length c] w fun e w' => e = .returned (.bool v) ∧ Kept (fun _ => False) w w' := by
  have HC := hideI (ixEnd_any L a c w hP hl)
  have HV : Hid (v = true ↔ 0 ≤ fE L ∧ fE L = (L.length : Int) - 1) := hideI (by rw [hv, fE_iff])
  obtain ⟨n, hn⟩ : ∃ n, n = L.length := ⟨_, rfl⟩
  rw [← hn] at HC HV hl ⊢
  clear hP hn hv
  generalize fE L = z at *
  by_cases h0 : 0 ≤ z
  · by_cases h1 : z = (n : Int) - 1
    · have ht := isB_t HV.out ⟨h0, h1⟩
      subst ht
      subst h1
      clear HV
      go_enter Tryd.func25, Tryd.ntmps25
      go_wp2_with (go_at_call 43; refine HC.out.mono ?_; clear HC; rintro e W ⟨rfl, K⟩; have HK := hideI K; clear K)
      go_ret
      exact ⟨by simp, HK.out⟩
    · have hf := isB_f HV.out (fun e => h1 e.2)
      subst hf
      clear HV
      go_enter Tryd.func25, Tryd.ntmps25
      go_wp2_with (go_at_call 43; refine HC.out.mono ?_; clear HC; rintro e W ⟨rfl, K⟩; have HK := hideI K; clear K)
      go_ret
      exact ⟨by simp [h1], HK.out⟩
  · have hf := isB_f HV.out (fun e => h0 e.1)
    subst hf
    clear HV
    go_enter Tryd.func25, Tryd.ntmps25
    go_wp2_with (go_at_call 43; refine HC.out.mono ?_; clear HC; rintro e W ⟨rfl, K⟩; have HK := hideI K; clear K)
    go_ret
    exact ⟨rfl, HK.out⟩
end Go.Proofs.YtohnkamobmkhkaaDoor
