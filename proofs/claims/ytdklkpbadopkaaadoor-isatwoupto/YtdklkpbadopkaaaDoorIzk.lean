import Derived.Test.YtdklkpbadopkaaaDoorIzi
import Derived.Test.YtdklkpbadopkaaaDoorAnyz
namespace Go.Proofs.YtdklkpbadopkaaaDoor
open Go.ChangeShapes Go.WideShapes Go.ChangeAt Go.RowKit

/-- Does a byte of a term stand for itself? -/
def plB (c : UInt8) : Bool := decide (32 ≤ c.toNat) && decide (c.toNat ≤ 126) && decide (c.toNat ≠ 34) && decide (c.toNat ≠ 92)
def hxL : List UInt8 := [48, 49, 50, 51, 52, 53, 54, 55, 56, 57, 97, 98, 99, 100, 101, 102]
def hxB (n : Nat) : UInt8 := hxL.getD n 0
/-- A byte of a term as it is written. -/
def ltB (c : UInt8) : List UInt8 := if plB c then [c] else [92, hxB (c.toNat / 16), hxB (c.toNat % 16)]
theorem ltB_len (c : UInt8) : (ltB c).length ≤ 3 := by unfold ltB; split <;> simp
set_option maxRecDepth 20000 in
set_option maxHeartbeats 2000000 in
theorem isPlain_any (c : UInt8) (w : World) :
    Calls Tryd.prog 69 #[.int .u8 (c.toNat : Int)] w fun e w' => e = .returned (.bool (plB c)) ∧ w' = w := by
  unfold plB
  have hb : c.toNat < 256 := c.toNat_lt
  generalize c.toNat = n at *
  by_cases h1 : 32 ≤ n
  · by_cases h2 : n ≤ 126
    · by_cases h3 : n = 34
      · subst h3
        rw [show ((34 : Nat) : Int) = 34 from rfl]
        go_enter Tryd.func69, Tryd.ntmps69
        go_wp2
        go_ret
        exact ⟨rfl, rfl⟩
      · by_cases h4 : n = 92
        · subst h4
          rw [show ((92 : Nat) : Int) = 92 from rfl]
          go_enter Tryd.func69, Tryd.ntmps69
          go_wp2
          go_ret
          exact ⟨rfl, rfl⟩
        · have e1 : ((n : Int) != 34) = true := by rw [bne_iff_ne]; omega
          have e2 : ((n : Int) != 92) = true := by rw [bne_iff_ne]; omega
          have e3 : ((n : Int) == 34) = false := by rw [beq_eq_false_iff_ne]; omega
          have e4 : ((n : Int) == 92) = false := by rw [beq_eq_false_iff_ne]; omega
          go_enter Tryd.func69, Tryd.ntmps69
          go_wp2
          go_ret
          exact ⟨by simp [h1, h2, h3, h4], rfl⟩
    · go_enter Tryd.func69, Tryd.ntmps69
      go_wp2
      go_ret
      exact ⟨by simp, rfl⟩
  · go_enter Tryd.func69, Tryd.ntmps69
    go_wp2
    go_ret
    exact ⟨by simp, rfl⟩
theorem hx_get (k : Nat) (h : k < 16) (hs : k < (⟨#[48, 49, 50, 51, 52, 53, 54, 55, 56, 57, 97, 98, 99, 100, 101, 102]⟩ : ByteArray).size) : (⟨#[48, 49, 50, 51, 52, 53, 54, 55, 56, 57, 97, 98, 99, 100, 101, 102]⟩ : ByteArray)[k] = hxB k := by
  have q : ∀ k : Fin 16, (⟨#[48, 49, 50, 51, 52, 53, 54, 55, 56, 57, 97, 98, 99, 100, 101, 102]⟩ : ByteArray)[k.val]'(by have := k.isLt; exact this) = hxB k.val := by decide +kernel
  exact q ⟨k, h⟩
theorem hx_idx (k : Nat) (h : k < 16) (W : World) : (Instr.index 9 (.string ⟨#[48, 49, 50, 51, 52, 53, 54, 55, 56, 57, 97, 98, 99, 100, 101, 102]⟩) (.int .u8 (k : Int))).run Tryd.prog W = .ok (.int .u8 ((hxB k).toNat : Int)) W := by
  have hs : (⟨#[48, 49, 50, 51, 52, 53, 54, 55, 56, 57, 97, 98, 99, 100, 101, 102]⟩ : ByteArray).size = 16 := rfl
  rw [run_index_string _ _ _ _ _ Tryd.underlying9, dif_pos ⟨by omega, by rw [hs]; omega⟩]
  have e : (k : Int).toNat = k := by omega
  simp only [e]
  rw [hx_get k h]
set_option maxRecDepth 20000 in
set_option maxHeartbeats 4000000 in
theorem letter_any {w : World} {b : Nat} {p v : Value} {l : List UInt8} (c : UInt8) (h : Bw w b p v l) (hl : l.length + 10 ≤ 140737488355328) :
    Calls Tryd.prog 44 #[.pointer (some ⟨b, 0, none⟩), .int .u8 (c.toNat : Int)] w fun e w' => e = .returned (.tuple #[]) ∧ ∃ p' v', Bw w' b p' v' (l ++ ltB c) ∧ Kept (BG w b) w w' := by
  have HP := fun w => hideI (isPlain_any c w)
  have HLT := hideI (show ltB c = if plB c then [c] else [92, hxB (c.toNat / 16), hxB (c.toNat % 16)] from rfl)
  cases hpl : plB c with
  | true =>
    rw [hpl] at HP HLT
    have HB := hideI (wbyteI c _ rfl h (by omega))
    clear h hpl
    go_enter Tryd.func44, Tryd.ntmps44
    go_wp2_with (first
      | (go_at_call 69; refine (HP _).out.mono ?_; rintro e W1 ⟨rfl, rfl⟩)
      | (go_at_call 43; refine HB.out.mono ?_; clear HB; rintro e W2 ⟨rfl, v2, hB2, K2⟩; have HB2 := hideI hB2; have HK2 := hideI K2; clear hB2 K2))
    go_end0
    refine ⟨rfl, .pointer (some ⟨b, 0, none⟩), v2, ?_, HK2.out⟩
    rw [HLT.out]
    exact HB2.out
  | false =>
    rw [hpl] at HP HLT
    have HB := hideI (wbyteI 92 92 rfl h (by omega))
    have hb : c.toNat < 256 := c.toNat_lt
    clear h hpl
    generalize c.toNat = n at *
    go_enter Tryd.func44, Tryd.ntmps44
    go_wp2_with (first
      | (go_at_call 69; refine (HP _).out.mono ?_; rintro e W1 ⟨rfl, rfl⟩)
      | (go_at_call 43; refine HB.out.mono ?_; clear HB; rintro e W2 ⟨rfl, v2, hB2, K2⟩; have HB2 := hideI hB2; have HK2 := hideI K2; clear hB2 K2))
    have hn16 : n / 16 < 16 := by omega
    have HX := fun W => hideI (hx_idx (n / 16) hn16 W)
    have HX2 := fun W => hideI (hx_idx (n % 16) (by omega) W)
    have HB3 := hideI (HB2.out.later (Kept.drew _))
    have HB4 := hideI (wbyteI (hxB (n / 16)) _ rfl HB3.out (by simp; omega))
    refine wp_region_held (S := AnyZ) (by kernel_rfl) ?_
    change wpAnyH _ _ _ _ _ _ _ _ (World.drew _)
    refine takeZ (i := 0) (d := 11) (v := (.pointer (some ⟨b, 0, none⟩))) rfl rfl (by kernel_rfl) (by kernel_rfl) (by kernel_rfl) (fun _ _ _ h => h) (Or.inl ⟨by rfl, fun W hW => ?_⟩) (anyZ _) ?_
    · (go_simp)
    simp only [Act.put, List.setIfInBounds_toArray, List.set_cons_zero, List.set_cons_succ]
    refine takeZ (i := 1) (d := 12) (v := (.pointer (some ⟨b, 0, none⟩))) rfl rfl (by kernel_rfl) (by kernel_rfl) (by kernel_rfl) (fun _ _ _ h => h) (Or.inl ⟨by rfl, fun W hW => ?_⟩) (anyZ _) ?_
    · (go_simp)
    simp only [Act.put, List.setIfInBounds_toArray, List.set_cons_zero, List.set_cons_succ]
    refine takeZ (i := 2) (d := 13) (v := (.pointer (some ⟨b, 0, none⟩))) rfl rfl (by kernel_rfl) (by kernel_rfl) (by kernel_rfl) (fun _ _ _ h => h) (Or.inl ⟨by rfl, fun W hW => ?_⟩) (anyZ _) ?_
    · (go_simp)
    simp only [Act.put, List.setIfInBounds_toArray, List.set_cons_zero, List.set_cons_succ]
    refine takeZ (i := 3) (d := 14) (v := (.int .u8 (n : Int))) rfl rfl (by kernel_rfl) (by kernel_rfl) (by kernel_rfl) (fun _ _ _ h => h) (Or.inl ⟨by rfl, fun W hW => ?_⟩) (anyZ _) ?_
    · (go_simp)
    simp only [Act.put, List.setIfInBounds_toArray, List.set_cons_zero, List.set_cons_succ]
    refine takeZ (i := 4) (d := 15) (v := (.int .u8 ((n / 16 : Nat) : Int))) rfl rfl (by kernel_rfl) (by kernel_rfl) (by kernel_rfl) (fun _ _ _ h => h) (Or.inl ⟨by rfl, fun W hW => ?_⟩) (anyZ _) ?_
    · (go_simp)
    simp only [Act.put, List.setIfInBounds_toArray, List.set_cons_zero, List.set_cons_succ]
    refine takeZ (i := 5) (d := 16) (v := (.int .u8 ((hxB (n / 16)).toNat : Int))) rfl rfl (by kernel_rfl) (by kernel_rfl) (by kernel_rfl) (fun _ _ _ h => h) (Or.inl ⟨by rfl, fun W hW => ?_⟩) (anyZ _) ?_
    · (go_simp; rw [dif_pos (show 0 ≤ (n : Int) / 16 ∧ (n : Int) / 16 < 16 by omega)]; have e : ((n : Int) / 16).toNat = n / 16 := (by omega); simp only [e, Result.andThen]; rw [hx_get (n / 16) hn16])
    simp only [Act.put, List.setIfInBounds_toArray, List.set_cons_zero, List.set_cons_succ]
    refine wpAnyH_all (rs := [6]) (by kernel_rfl) (by simp) ?_
    intro i hi
    obtain rfl : i = 6 := by simpa using hi
    unfold wpOp
    go_simp
    refine Or.inl (HB4.out.mono ?_)
    rintro e W5 ⟨rfl, v5, hB5, K5⟩
    have HB5 := hideI hB5
    have HK5 := hideI K5
    clear hB5 K5
    refine ⟨anyZ _, ?_⟩
    refine wpAnyH_done (by kernel_rfl) ?_ _
    have e15 : bits .and .u8 (n : Int) 15 = ((n % 16 : Nat) : Int) := by
      have q : ∀ k : Fin 256, bits .and .u8 ((k.val : Nat) : Int) 15 = ((k.val % 16 : Nat) : Int) := by decide +kernel
      exact q ⟨n, hb⟩
    have hm16 : n % 16 < 16 := by omega
    generalize n % 16 = m at *
    have hix := (fun W => (HX2 W).out)
    clear HX HX2
    have HB6 := hideI (wbyteI (hxB m) ((hxB m).toNat : Int) rfl HB5.out (by simp; omega))
    go_wp2_with (go_at_call 43; refine HB6.out.mono ?_; clear HB6; rintro e W7 ⟨rfl, v7, hB7, K7⟩; have HB7 := hideI hB7; have HK7 := hideI K7; clear hB7 K7)
    go_end0
    refine ⟨rfl, .pointer (some ⟨b, 0, none⟩), v7, ?_, BG.trans (BG.trans (BG.trans HK2.out (BG.quiet b (Kept.drew W2))) HK5.out) HK7.out⟩
    rw [HLT.out]
    simpa using HB7.out
end Go.Proofs.YtdklkpbadopkaaaDoor
