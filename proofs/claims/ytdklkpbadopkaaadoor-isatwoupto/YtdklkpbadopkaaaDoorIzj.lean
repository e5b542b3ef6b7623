import Derived.Test.YtdklkpbadopkaaaDoorIzi
namespace Go.Proofs.YtdklkpbadopkaaaDoor
open Go.ChangeShapes Go.WideShapes Go.ChangeAt Go.RowKit

/-- An instruction's line. -/
def cdB (x : In) : List UInt8 := lnB (nmN x.op) (opsI x)
theorem OpT.bg {w w1 : World} {b : Nat} (h : OpT w) (k : Kept (BG w b) w w1) (hb : 17 < b) : OpT w1 := h.keptF k (fun f => by rcases f with e | ⟨e, _⟩ <;> omega)
theorem cdB_len {x : In} (h : x.Ok) : (cdB x).length ≤ 49 := by
  have h1 := nmN_len x.op
  have h2 := nus_len (opsI x) (fun v hv => by
    have : v ∈ [x.a, x.b] := List.mem_of_mem_take hv
    simp at this
    rcases this with e | e
    · rw [e]; exact h.ha
    · rw [e]; exact h.hb)
  have h3 := opsI_len x
  have h4 := arN_le x.op
  rw [cdB, lnB, List.length_append, List.length_append]
  simp only [List.length_cons, List.length_nil]
  omega
set_option maxRecDepth 20000 in
set_option maxHeartbeats 4000000 in
theorem instr_any {w : World} {b : Nat} {p v : Value} {l : List UInt8} (x : In) (hO : x.Ok) (hi : isO x.op = true) (h : Bw w b p v l) (hl : l.length + 60 ≤ 140737488355328) (hT : OpT w) (hP : Pw w) (hg : 26 < b) (hg2 : 17 < b) :
    Calls Tryd.prog 19 #[.pointer (some ⟨b, 0, none⟩), inV x] w fun e w' => e = .returned (.tuple #[]) ∧ ∃ p' v', Bw w' b p' v' (l ++ cdB x) ∧ Kept (BG w b) w w' := by
  have HO := hideI hO
  have HI := hideI hi
  have h17 := isO_iff.1 hi
  have hnl := arN_le x.op
  have HXL := hideI (opsI_len x)
  have HAT : Hid (∀ j (hj : j < arN x.op) (hl : j < (opsI x).length), (opsI x)[j] = if j = 0 then x.a else x.b) := hideI (fun j hj hl => opsI_at hj hl)
  have HCD : Hid (cdB x = nmN x.op ++ ((opsI x).map nuB).flatten ++ [10]) := hideI rfl
  have hnm := nmN_len x.op
  generalize opsI x = ops at *
  generalize cdB x = cdx at *
  obtain ⟨op, a, c⟩ := x
  unfold inV
  simp only at *
  obtain ⟨k, rfl⟩ : ∃ k : Nat, op = k := ⟨op.toNat, by omega⟩
  have hk17 : k < 17 := by omega
  have KA := Kept.alloc w (.cells #[.int .i64 (k : Int), .int .u64 a, .int .u64 c] 48)
  have HBX : Hid ((w.alloc (.cells #[.int .i64 (k : Int), .int .u64 a, .int .u64 c] 48)).heap[w.heap.size]? = some (.cells #[.int .i64 (k : Int), .int .u64 a, .int .u64 c] 48 (0, 0))) := hideI (heap_alloc_new w _)
  have hbw := h.lt
  have HBw := hideI (h.later KA)
  have HTA := hideI (hT.kept KA)
  have HPA := hideI (hP.kept KA)
  have HKA := hideI (BG.quiet b KA)
  obtain ⟨s, hs⟩ : ∃ s : ByteArray, s = ⟨(nmN (k : Int)).toArray⟩ := ⟨_, rfl⟩
  have HSz : Hid (s.size ≤ 6 ∧ s.data.toList = nmN (k : Int)) := hideI (by rw [hs]; exact ⟨by show (nmN (k : Int)).toArray.size ≤ 6; simpa using hnm, by simp⟩)
  have x1 := ((HTA.out.kept (Kept.drew _)).nm k hk17)
  rw [← hs] at x1
  have HBd := hideI (HBw.out.later (Kept.drew _))
  have HS := hideI (wstrI s HBd.out (by have := HSz.out.1; omega))
  clear hO hi h hT hP KA hs hnm
  go_enter Tryd.func19, Tryd.ntmps19
  go_wp2_with fail
  go_region_with (go_at_call 41; refine HS.out.mono ?_; clear HS; rintro e W1 ⟨⟨r, rfl⟩, v1, hB1, K1⟩; have HB1 := hideI hB1; have HK1 := hideI (BG.trans (BG.trans HKA.out (BG.quiet b (Kept.drew _))) K1); have HX1 := hideI (BG.box K1 ((Kept.drew _).heap HBX.out (fun f => f)) (by omega) (by decide)); obtain ⟨y0, y1, y2, -⟩ := cell_row3 HX1.out; have HT1 := hideI ((HTA.out.kept (Kept.drew _)).bg K1 hg2); have HP1 := hideI (BG.pw K1 hg (HPA.out.kept (Kept.drew _))); clear hB1 K1)
  all_goals go_wp2_with (go_at_call 46; refine (operands_any (k : Int) a c W1 HT1.out HI.out).mono ?_; rintro e W2 ⟨⟨g, hgs, rfl, -, -, hG2⟩, K2⟩; have HG2 := hideI hG2; have HB2 := hideI (HB1.out.later K2); have HK2 := hideI (BG.trans HK1.out (BG.quiet b K2)); have HP2 := hideI (HP1.out.kept K2); clear hG2 K2)
  have hgb : g ≠ b := by have := HB1.out.lt; omega
  clear y0 y1 y2 HX1 HBX HTA HPA HBw HBd HKA HT1 HP1 HK1
  generalize arN (k : Int) = n at *
  go_loopw [18] (fun v18 wr => ∃ (j : Nat) (pp vv : Value), j ≤ n ∧ v18 = .int .i64 j ∧ Hid (Bw wr b pp vv ((l ++ s.data.toList) ++ ((ops.take j).map nuB).flatten)) ∧ Hid (Kept (BG W2 b) W2 wr)) (fun v18 _ => n - (intOf v18).toNat)
  case atStart => exact ⟨0, _, v1, by omega, rfl, hideI (by simpa using HB2.out), hideI (Kept.refl _ _)⟩
  case round =>
    obtain ⟨j, pp, vv, hj, rfl, HB, HK⟩ := hrel
    have HL : Hid (((l ++ s.data.toList) ++ ((ops.take j).map nuB).flatten).length + 10 ≤ l.length + 60) := hideI (by
      have h1 := nus_len (ops.take j) (fun x hx => by
        obtain ⟨i, hi, rfl⟩ := List.mem_iff_getElem.1 (List.mem_of_mem_take hx)
        rw [HAT.out i (by rw [← HXL.out]; exact hi) hi]
        split
        · exact HO.out.ha
        · exact HO.out.hb)
      have h2 : (ops.take j).length ≤ n := by rw [List.length_take]; omega
      have h3 : s.data.toList.length ≤ 6 := by rw [Array.length_toList]; exact HSz.out.1
      rw [List.length_append, List.length_append]
      omega)
    by_cases hlt2 : j < n
    · have hji : (j : Int) < (n : Int) := by omega
      have hjl : j < ops.length := by rw [HXL.out]; exact hlt2
      have HSN := hideI (nu_snoc hjl)
      have hv : ops[j] < 18446744073709551616 := by
        rw [HAT.out j hlt2 hjl]
        split
        · exact HO.out.ha
        · exact HO.out.hb
      obtain ⟨b0, b1, -⟩ := cell_row2 (BG.box HK.out HG2.out hgb (by decide))
      have hcell : wr.cell? ⟨g, j, none⟩ = some (.int .u64 (ops[j] : Nat)) := by
        rw [HAT.out j hlt2 hjl]
        have hn2 : j < 2 := by omega
        match j, hn2 with
        | 0, _ => exact b0
        | 1, _ => exact b1
      generalize ops[j] = u at *
      have hl1 : ((l ++ s.data.toList) ++ ((ops.take j).map nuB).flatten).length + 30 ≤ 140737488355328 := by
        have h1 := nus_len (ops.take j) (fun x hx => by
          obtain ⟨i, hi, rfl⟩ := List.mem_iff_getElem.1 (List.mem_of_mem_take hx)
          rw [HAT.out i (by rw [← HXL.out]; exact hi) hi]
          split
          · exact HO.out.ha
          · exact HO.out.hb)
        have h2 : (ops.take j).length ≤ 1 := by rw [List.length_take]; omega
        have h3 : s.data.toList.length ≤ 6 := by rw [Array.length_toList]; exact HSz.out.1
        rw [List.length_append, List.length_append]
        omega
      have HU := hideI (number_any u hv HB.out hl1 (BG.pw HK.out hg HP2.out) hg)
      clear hv hl1 b0 b1 HAT HL
      go_wp2_with (go_at_call 42; refine HU.out.mono ?_; clear HU; rintro e W3 ⟨rfl, p3, v3, hB3, K3⟩; have HB3 := hideI hB3; have HK3 := hideI (BG.trans HK.out K3); clear hB3 K3)
      go_roundw
      case rel => exact ⟨j + 1, _, _, hlt2, by go_num, hideI (by rw [HSN.out]; simpa [List.append_assoc] using HB3.out), HK3⟩
      case measure => simp [intOf]; omega
    · obtain rfl : j = n := by omega
      have hT : ops.take j = ops := List.take_of_length_le (by rw [HXL.out]; exact Nat.le_refl _)
      rw [hT] at HB HL
      have HWb := hideI (wbyteI 10 10 rfl HB.out (by have := HL.out; omega))
      go_wp2_with (go_at_call 43; refine HWb.out.mono ?_; clear HWb; rintro e W5 ⟨rfl, v5, hB5, K5⟩)
      go_end0
      refine ⟨rfl, .pointer (some ⟨b, 0, none⟩), v5, ?_, BG.trans (BG.trans HK2.out HK.out) K5⟩
      rw [HCD.out, ← HSz.out.2]
      simpa [List.append_assoc] using hB5
end Go.Proofs.YtdklkpbadopkaaaDoor
