import Derived.Test.YtohnkamobmkhkaaDoorVfc
import Derived.Deep.RegionWith
namespace Go.Proofs.YtohnkamobmkhkaaDoor
open Go.ChangeShapes Go.WideShapes Go.ChangeAt Go.RowKit

theorem LfAt.fd {w : World} {a : Option Addr} {cu : List Lf} (h : LfAt w a cu) {i : Nat} (hi : i < cu.length) : ∃ b off, a = some ⟨b, off, none⟩ ∧ w.cell? ⟨b, off + i * 2, none⟩ = some (.int .i64 (fdA cu i)) := by
  obtain ⟨b, off, e, hc⟩ := h (by intro e; rw [e] at hi; simp at hi)
  refine ⟨b, off, e, ?_⟩
  rw [(hc i hi).1]
  simp [fdA, hi]
set_option maxRecDepth 20000 in
set_option maxHeartbeats 8000000 in
theorem ofOne_any (cu : List Lf) (cs : List Int) (aC aL : Option Addr) (cC cL : Nat) (w : World) (hC : LfAt w aC cu) (hL : IntsAt w aL cs) (hll : cs.length ≤ 67108864) (v : Bool) (hv : v = true ↔ ∀ i ∈ cs, CsOk cu (cs[0]?.getD 0) i) :
    Calls Tryd.prog 60 #[.slice aC cu.length cC, .slice aL cs.length cL] w fun e w' => e = .returned (.bool v) ∧ Kept (fun _ => False) w w' := by
  have HC := hideI hC
  have HL := hideI hL
  have HV := hideI hv
  have HA := fun (i n : Int) (W : World) => hideI (among_any i n W)
  obtain ⟨nC, hnC⟩ : ∃ nC, nC = cu.length := ⟨_, rfl⟩
  obtain ⟨nl, hnl⟩ : ∃ nl, nl = cs.length := ⟨_, rfl⟩
  rw [← hnC, ← hnl]
  rw [← hnl] at hll
  have HNC := hideI hnC
  have HNL := hideI hnl
  obtain ⟨c0, hc0⟩ : ∃ c0, c0 = cs[0]?.getD 0 := ⟨_, rfl⟩
  rw [← hc0] at HV
  have HC0 := hideI hc0
  clear hC hL hv hnC hnl hc0
  go_enter Tryd.func60, Tryd.ntmps60
  go_wp2
  go_loopw [9] (fun v9 wr => ∃ k : Nat, k ≤ nl ∧ v9 = .int .i64 k ∧ Hid (∀ i ∈ cs.take k, CsOk cu c0 i) ∧ Hid (Kept (fun _ => False) w wr)) (fun v9 _ => nl - (intOf v9).toNat)
  case atStart => exact ⟨0, Nat.zero_le _, rfl, hideI (by simp), hideI (Kept.refl _ _)⟩
  case round =>
    obtain ⟨k, hk, rfl, HAl, HK⟩ := hrel
    by_cases hlt : k < nl
    · have hkl : k < cs.length := by rw [← HNL.out]; exact hlt
      have hki : (k : Int) < (nl : Int) := by omega
      obtain ⟨b, off, ea, hc⟩ := HL.out.get hkl
      obtain ⟨b', off', ea', hc1⟩ := HL.out.get (k := 0) (by omega)
      subst ea
      cases ea'
      rw [List.getElem?_eq_getElem hkl, Option.getD_some] at hc
      rw [← HC0.out, Nat.add_zero] at hc1
      have hc := HK.out.cell hc (fun f => f)
      have hc1 := HK.out.cell hc1 (fun f => f)
      have HS : Hid (CsOk cu c0 cs[k] → ∀ i ∈ cs.take (k + 1), CsOk cu c0 i) := hideI (fun e => all_snoc hkl HAl.out e)
      have HB : Hid (¬ CsOk cu c0 cs[k] → v = false) := hideI (fun e => isB_f HV.out (fun f => e (f _ (List.getElem_mem hkl))))
      have HZ : Hid (0 ≤ cs[k] ∧ cs[k] < cu.length → 0 ≤ c0 ∧ c0 < cu.length) := hideI (fun e => by
        by_cases hk0 : k = 0
        · subst hk0
          have : c0 = cs[0] := by rw [HC0.out, List.getElem?_eq_getElem hkl]; rfl
          rw [this]; exact e
        · have h0l : 0 < cs.length := by omega
          have e0 : c0 = cs[0] := by rw [HC0.out, List.getElem?_eq_getElem h0l]; rfl
          have := HAl.out cs[0] (by rw [List.mem_take_iff_getElem]; exact ⟨0, by omega, rfl⟩)
          rw [← e0] at this
          exact ⟨this.1, this.2.1⟩)
      generalize cs[k] = x at *
      have HAx := fun W => (HA x nC W)
      have HKd := fun W (h : Kept (fun _ => False) wr W) => (Kept.trans HK.out h (fun _ f => f.elim))
      clear HA
      cases hb : amB x nC with
      | false =>
        rw [hb] at HAx
        have hf := HB.out (fun e => by rw [amB_iff.2 ⟨e.1, by rw [HNC.out]; exact e.2.1⟩] at hb; cases hb)
        subst hf
        clear hb HS HB HAl HV HZ hc1
        go_wp2
        go_quiet ((go_at_call 59; exact Calls.quiet_of_same (HAx _).out))
        go_wp2
        go_ret
        exact ⟨rfl, HK.out.trans (Kept.drewN _ _) (fun _ f => f.elim)⟩
      | true =>
        rw [hb] at HAx
        have ham := amB_iff.1 hb
        rw [HNC.out] at ham
        obtain ⟨z1, z2⟩ := HZ.out ham
        obtain ⟨i, rfl⟩ : ∃ i : Nat, x = i := ⟨x.toNat, by omega⟩
        obtain ⟨i0, rfl⟩ : ∃ i0 : Nat, c0 = i0 := ⟨c0.toNat, by omega⟩
        obtain ⟨cb, co, ec, d1⟩ := HC.out.fd (i := i) (by omega)
        obtain ⟨cb', co', ec', d2⟩ := HC.out.fd (i := i0) (by omega)
        subst ec
        cases ec'
        have d1 := HK.out.cell d1 (fun f => f)
        have d2 := HK.out.cell d2 (fun f => f)
        have hin : i < nC := by rw [HNC.out]; omega
        have hin0 : i0 < nC := by rw [HNC.out]; omega
        have hii : (i : Int) < (nC : Int) := by omega
        have hii0 : (i0 : Int) < (nC : Int) := by omega
        have HS1 : Hid (fdA cu i = fdA cu i0 → ∀ i ∈ cs.take (k + 1), CsOk cu i0 i) := hideI (fun e => HS.out ⟨ham.1, ham.2, e⟩)
        have HB1 : Hid (¬ fdA cu i = fdA cu i0 → v = false) := hideI (fun e => HB.out (fun f => e f.2.2))
        clear hb HS HB HAl ham HZ z1 z2
        generalize fdA cu i = f1 at *
        generalize fdA cu i0 = f2 at *
        by_cases hff : f1 = f2
        · have HS2 := hideI (HS1.out hff)
          subst hff
          clear HS1 HB1
          have hne : ((f1 : Int) != f1) = false := by simp
          go_wp2
          go_quiet ((go_at_call 59; exact Calls.quiet_of_same (HAx _).out))
          go_wp2
          go_roundw
          case rel => exact ⟨k + 1, hlt, by go_num, HS2, hideI (HK.out.trans (Kept.drewN _ _) (fun _ f => f.elim))⟩
          case measure => simp [intOf]; omega
        · have hf := HB1.out hff
          subst hf
          have hne : (f1 != f2) = true := by rw [bne_iff_ne]; exact hff
          clear HS1 HB1 HV
          go_wp2
          go_quiet ((go_at_call 59; exact Calls.quiet_of_same (HAx _).out))
          go_wp2
          go_ret
          exact ⟨rfl, HK.out.trans (Kept.drewN _ _) (fun _ f => f.elim)⟩
    · have hki : ¬ (k : Int) < (nl : Int) := by omega
      have ht := isB_t HV.out (by have e := HAl.out; rw [List.take_of_length_le (by rw [← HNL.out]; omega)] at e; exact e)
      subst ht
      clear HV
      go_wp2
      go_ret
      exact ⟨rfl, HK.out⟩
end Go.Proofs.YtohnkamobmkhkaaDoor
