import Derived.Test.YtcanbhbhdgogoaaDoorDrd
namespace Go.Proofs.YtcanbhbhdgogoaaDoor
open Go.ChangeShapes Go.WideShapes Go.ChangeAt Go.RowKit

theorem EsAt.kept {w w' : World} {a : Option Addr} {l : List En} (h : EsAt w a l) (k : Kept (fun _ => False) w w') : EsAt w' a l := by
  intro hne
  obtain ⟨b, off, e, hc⟩ := h hne
  refine ⟨b, off, e, fun j hj => ?_⟩
  obtain ⟨x0, x1, x2, x3, x4⟩ := hc j hj
  exact ⟨k.cell x0 (fun f => f), k.cell x1 (fun f => f), k.cell x2 (fun f => f), k.cell x3 (fun f => f), k.cell x4 (fun f => f)⟩
def n4V (d t p s : Int) : Value := .agg #[.int .i64 d, .int .i64 t, .int .i64 p, .int .i64 s]
set_option maxRecDepth 20000 in
theorem numbersOf_any (k : ByteArray) (d t p s : Int) (w : World) : Calls Tryd.prog 42 #[.agg #[.string k, .int .i64 d, .int .i64 t, .int .i64 p, .int .i64 s]] w fun e w' => e = .returned (n4V d t p s) ∧ Kept (fun _ => False) w w' := by
  go_enter Tryd.func42, Tryd.ntmps42
  go_wp2
  refine bodyPost_ret (v := n4V d t p s) (by simp [results, Tryd.results42, go_sem, n4V]) rfl ⟨rfl, ?_⟩
  exact (Kept.alloc _ _).trans (Kept.alloc _ _) (fun _ f => f.elim)
theorem shr_go {a b : List UInt8} {n : Nat} (h1 : n < a.length) (h2 : n < b.length) (h : a[n] = b[n]) : shr (a.drop n) (b.drop n) = shr (a.drop (n + 1)) (b.drop (n + 1)) + 1 := by
  rw [List.drop_eq_getElem_cons h1, List.drop_eq_getElem_cons h2, shr, if_pos h]
theorem shr_end {a b : List UInt8} {n : Nat} (h1 : n < a.length) (h2 : n < b.length) (h : ¬ a[n] = b[n]) : shr (a.drop n) (b.drop n) = 0 := by
  rw [List.drop_eq_getElem_cons h1, List.drop_eq_getElem_cons h2, shr, if_neg h]
theorem shr_endA {a b : List UInt8} {n : Nat} (h1 : ¬ n < a.length) : shr (a.drop n) (b.drop n) = 0 := by
  rw [List.drop_eq_nil_of_le (by omega), shr_nil]
theorem shr_endB {a b : List UInt8} {n : Nat} (h1 : ¬ n < b.length) : shr (a.drop n) (b.drop n) = 0 := by
  have e : b.drop n = [] := List.drop_eq_nil_of_le (by omega)
  rw [e]
  cases a.drop n <;> rfl
set_option maxRecDepth 20000 in
set_option maxHeartbeats 4000000 in
theorem shared_any (a b : ByteArray) (w : World) (ha : a.size ≤ 1099511627776) : Calls Tryd.prog 65 #[.string a, .string b] w fun e w' => e = .returned (.int .i64 (shr a.data.toList b.data.toList : Nat)) ∧ Kept (fun _ => False) w w' := by
  have ga : ∀ n (h : n < a.size), a[n] = a.data.toList[n]'(by rw [bsz]; exact h) := fun n h => rfl
  have gb : ∀ n (h : n < b.size), b[n] = b.data.toList[n]'(by rw [bsz]; exact h) := fun n h => rfl
  have HA := hideQ ga
  have HB := hideQ gb
  have la := bsz a
  have lb := bsz b
  have HLA := hideQ la
  have HLB := hideQ lb
  clear ga gb la lb
  obtain ⟨S, hS⟩ : ∃ S, S = shr a.data.toList b.data.toList := ⟨_, rfl⟩
  rw [← hS]
  have HS := hideQ hS
  clear hS
  go_enter Tryd.func65, Tryd.ntmps65
  go_wp2
  go_loopw [5] (fun v5 wr => ∃ (n : Nat), n ≤ a.size ∧ v5 = .int .i64 n ∧ Hid (S = n + shr (a.data.toList.drop n) (b.data.toList.drop n)) ∧ Hid (Kept (fun _ => False) w wr)) (fun v5 _ => a.size - (intOf v5).toNat)
  case atStart => exact ⟨0, by omega, rfl, hideQ (by rw [HS.out]; simp), Kept.refl _ _⟩
  case round =>
    obtain ⟨n, hn, rfl, HF, HK⟩ := hrel
    by_cases h1 : n < a.size
    · have d1 : decide ((n : Int) < (a.size : Int)) = true := decide_eq_true (by omega)
      have d1n : decide (n < a.size) = true := decide_eq_true h1
      by_cases h2 : n < b.size
      · have d2 : decide ((n : Int) < (b.size : Int)) = true := decide_eq_true (by omega)
        have d2n : decide (n < b.size) = true := decide_eq_true h2
        by_cases h3 : a[n] = b[n]
        · have HG : Hid (S = (n + 1) + shr (a.data.toList.drop (n + 1)) (b.data.toList.drop (n + 1))) := hideQ (by
            rw [HF.out, shr_go (by rw [HLA.out]; exact h1) (by rw [HLB.out]; exact h2) (by rw [← HA.out n h1, ← HB.out n h2]; exact h3)]
            omega)
          have d3 : (((a[n].toNat : Nat) : Int) == ((b[n].toNat : Nat) : Int)) = true := by rw [h3]; simp
          clear HF h3
          go_wp2_with fail
          go_quiet (fail)
          go_wp2
          go_roundw
          case rel => exact ⟨n + 1, by omega, by go_num, HG, hideQ (HK.out.trans (Kept.drewN _ _) (fun _ f => f.elim))⟩
          case measure => simp [intOf]; omega
        · have HG : Hid (S = n) := hideQ (by
            rw [HF.out, shr_end (by rw [HLA.out]; exact h1) (by rw [HLB.out]; exact h2) (by rw [← HA.out n h1, ← HB.out n h2]; exact h3)]
            rfl)
          have d3 : (((a[n].toNat : Nat) : Int) == ((b[n].toNat : Nat) : Int)) = false := by
            rw [beq_eq_false_iff_ne]
            intro e
            exact h3 (UInt8.toNat_inj.1 (by omega))
          clear HF h3
          go_wp2_with fail
          go_quiet (fail)
          go_wp2
          go_ret
          exact ⟨by rw [HG.out]; rfl, HK.out.trans (Kept.drewN _ _) (fun _ f => f.elim)⟩
      · have d2 : decide ((n : Int) < (b.size : Int)) = false := decide_eq_false (by omega)
        have d2n : decide (n < b.size) = false := decide_eq_false h2
        have HG : Hid (S = n) := hideQ (by rw [HF.out, shr_endB (by rw [HLB.out]; exact h2)]; rfl)
        clear HF
        go_wp2_with fail
        go_quiet (fail)
        go_wp2
        go_ret
        exact ⟨by rw [HG.out]; rfl, HK.out.trans (Kept.drewN _ _) (fun _ f => f.elim)⟩
    · have d1 : decide ((n : Int) < (a.size : Int)) = false := decide_eq_false (by omega)
      have d1n : decide (n < a.size) = false := decide_eq_false h1
      have HG : Hid (S = n) := hideQ (by rw [HF.out, shr_endA (by rw [HLA.out]; exact h1)]; rfl)
      clear HF
      go_wp2_with fail
      go_quiet (fail)
      go_wp2
      go_ret
      exact ⟨by rw [HG.out]; rfl, HK.out.trans (Kept.drewN _ _) (fun _ f => f.elim)⟩
end Go.Proofs.YtcanbhbhdgogoaaDoor
