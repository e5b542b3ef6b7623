import Derived.Test.YtdklkpbadopkaaaDoorIzc
namespace Go.Proofs.YtdklkpbadopkaaaDoor
open Go.ChangeShapes Go.WideShapes Go.ChangeAt Go.RowKit

theorem opsI_at {x : In} {j : Nat} (hj : j < arN x.op) (hl : j < (opsI x).length) : (opsI x)[j] = if j = 0 then x.a else x.b := by
  have := arN_le x.op
  have e : (opsI x)[j]? = some (if j = 0 then x.a else x.b) := by
    unfold opsI
    rw [List.getElem?_take, if_pos hj]
    match j with
    | 0 => rfl
    | 1 => rfl
    | j + 2 => omega
  rw [List.getElem?_eq_getElem hl] at e
  exact Option.some.inj e
theorem ops_snoc {l : List Nat} {j : Nat} (h : j < l.length) : ((l.take (j + 1)).map uvb).flatten = ((l.take j).map uvb).flatten ++ uvb l[j] := by
  rw [List.take_succ_eq_append_getElem h, List.map_append, List.flatten_append]; simp
set_option maxRecDepth 20000 in
set_option maxHeartbeats 8000000 in
/-- put: the bytes of an instruction of the table are written. -/
theorem put_any (bw : Nat) (v : Value) (xs : List Int) (x : In) (w : World) (hW : Wr w bw v xs) (hO : x.Ok) (hi : isO x.op = true) (hT : OpT w) (hg : ¬ WF bw v 17) (hr : xs.length + 21 ≤ 140737488355328) :
    Calls Tryd.prog 36 #[.pointer (some ⟨bw, 0, none⟩), inV x] w fun e w' => e = .returned (.tuple #[]) ∧ ∃ v', Wr w' bw v' (xs ++ ib x) ∧ WStep w w' bw v v' := by
  have hlt := hT.lt
  have HO := hideI hO
  have HI := hideI hi
  have h17 := isO_iff.1 hi
  have hnl := arN_le x.op
  have HXL := hideI (opsI_len x)
  have HAT : Hid (∀ j (hj : j < arN x.op) (hl : j < (opsI x).length), (opsI x)[j] = if j = 0 then x.a else x.b) := hideI (fun j hj hl => opsI_at hj hl)
  have HIB : Hid (ib x = x.op :: ((opsI x).map uvb).flatten) := hideI rfl
  generalize opsI x = ops at *
  generalize ib x = ibx at *
  obtain ⟨op, a, b⟩ := x
  unfold inV
  simp only at *
  have hop : IntKind.u8.wrap op = op := by rw [IntKind.wrap_u8]; omega
  have KA := Kept.alloc w (.cells #[.int .i64 op, .int .u64 a, .int .u64 b] 48)
  have HBX : Hid ((w.alloc (.cells #[.int .i64 op, .int .u64 a, .int .u64 b] 48)).heap[w.heap.size]? = some (.cells #[.int .i64 op, .int .u64 a, .int .u64 b] 48 (0, 0))) := hideI (heap_alloc_new w _)
  have hbx : ¬ WF bw v w.heap.size := by
    intro f
    rcases f with f | f
    · have := hW.lt; omega
    · have := (hW.own.lt _ f).2; omega
  have HWx := hideI (hW.kept KA (fun _ _ f => f))
  have HKA := hideI KA
  have HTx := hideI (hT.kept KA)
  have HG := hideI hg
  have HBy := hideI (byte_any bw v xs op _ HWx.out (by omega))
  clear hO hi hW hT hg KA
  go_enter Tryd.func36, Tryd.ntmps36
  go_wp2_with (first
    | (go_at_call 63; refine HBy.out.mono ?_; clear HBy; rintro e W1 ⟨rfl, v1, hW1, S1⟩; have HW1 := hideI hW1; have HS1 := hideI S1; have HT1 := hideI (HTx.out.keptF S1.kept HG.out); have HB1 := hideI (S1.kept.heap HBX.out hbx); have y0 : W1.cell? ⟨w.heap.size, 0, none⟩ = some (.int .i64 op) := (by simp [World.cell?, HB1.out]); have y1 : W1.cell? ⟨w.heap.size, 1, none⟩ = some (.int .u64 a) := (by simp [World.cell?, HB1.out]); have y2 : W1.cell? ⟨w.heap.size, 2, none⟩ = some (.int .u64 b) := (by simp [World.cell?, HB1.out]); clear hW1 S1)
    | (go_at_call 46; refine (operands_any op a b W1 HT1.out HI.out).mono ?_; rintro e W2 ⟨⟨g, hgs, rfl, c0, c1, -⟩, K2⟩; have HW2 := hideI (HW1.out.kept K2 (fun _ _ f => f)); have HK2 := hideI K2; clear K2))
  have hgn : ¬ WF bw v1 g := by
    intro f
    rcases f with f | f
    · have := HW1.out.lt; omega
    · have := (HW1.out.own.lt _ f).2; omega
  have HSA : Hid (WStep w W2 bw v v1) := hideI ((WStep.trans ⟨HKA.out.mono (fun _ f => f.elim), fun _ h => .inl h⟩ HS1.out).trans ⟨HK2.out.mono (fun _ f => f.elim), fun _ h => .inl h⟩)
  have HC0 := hideI c0
  have HC1 := hideI c1
  clear c0 c1 y0 y1 y2 HB1 HBX HTx HT1 HWx hbx HK2 HS1 HW1 HKA
  generalize arN op = n at *
  go_loopw [14] (fun v14 wr => ∃ (j : Nat) (vv : Value), j ≤ n ∧ v14 = .int .i64 j ∧ Hid (Wr wr bw vv ((xs ++ [op]) ++ ((ops.take j).map uvb).flatten)) ∧ Hid (WStep W2 wr bw v1 vv)) (fun v14 _ => n - (intOf v14).toNat)
  case atStart => exact ⟨0, v1, by omega, rfl, hideI (by simpa using HW2.out), hideI (WStep.refl _ _ _)⟩
  case round =>
    obtain ⟨j, vv, hj, rfl, HB, SS⟩ := hrel
    by_cases hlt2 : j < n
    · have hji : (j : Int) < (n : Int) := by omega
      have hjl : j < ops.length := by rw [HXL.out]; exact hlt2
      have HSN : Hid (((ops.take (j + 1)).map uvb).flatten = ((ops.take j).map uvb).flatten ++ uvb ops[j]) := hideI (ops_snoc hjl)
      have hv : ops[j] < 18446744073709551616 := by
        rw [HAT.out j hlt2 hjl]
        split
        · exact HO.out.ha
        · exact HO.out.hb
      have hcell : wr.cell? ⟨g, j, none⟩ = some (.int .u64 (ops[j] : Nat)) := by
        rw [HAT.out j hlt2 hjl]
        have hn2 : j < 2 := by omega
        match j, hn2 with
        | 0, _ => exact SS.out.kept.cell HC0.out hgn
        | 1, _ => exact SS.out.kept.cell HC1.out hgn
      have HL : Hid (((xs ++ [op]) ++ ((ops.take j).map uvb).flatten).length ≤ xs.length + 11) := hideI (by
        have h10 : ∀ k (hk : k < ops.length), (uvb ops[k]).length ≤ 10 := fun k hk => ulen_10 (by
          rw [HAT.out k (by rw [← HXL.out]; exact hk) hk]
          split
          · exact HO.out.ha
          · exact HO.out.hb)
        have hn2 : j < 2 := by omega
        match j, hn2 with
        | 0, _ => simp
        | 1, _ =>
          rw [ops_snoc (show 0 < ops.length by omega)]
          have := h10 0 (by omega)
          simp
          omega)
      generalize ops[j] = u at *
      have HU := hideI (wuv_any bw vv _ u wr HB.out hv (by have := HL.out; omega))
      clear hv HL HAT
      go_wp2_with (go_at_call 64; refine HU.out.mono ?_; clear HU; rintro e W3 ⟨rfl, v3, hW3, S3⟩; have HW3 := hideI hW3; have HS3 := hideI (SS.out.trans S3); clear hW3 S3)
      go_roundw
      case rel => exact ⟨j + 1, _, hlt2, by go_num, hideI (by rw [HSN.out]; simpa [List.append_assoc] using HW3.out), HS3⟩
      case measure => simp [intOf]; omega
    · obtain rfl : j = n := by omega
      have hT : ops.take j = ops := List.take_of_length_le (by rw [HXL.out]; exact Nat.le_refl _)
      rw [hT] at HB
      go_wp2
      go_end0
      refine ⟨rfl, vv, ?_, HSA.out.trans SS.out⟩
      rw [HIB.out]
      simpa [List.append_assoc] using HB.out
end Go.Proofs.YtdklkpbadopkaaaDoor
