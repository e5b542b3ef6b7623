import Derived.Test.YtdklkpbadopkaaaDoorIzk
namespace Go.Proofs.YtdklkpbadopkaaaDoor
open Go.ChangeShapes Go.WideShapes Go.ChangeAt Go.RowKit

/-- A cursor's line. -/
def cuB (f : Nat) (t : List UInt8) : List UInt8 := [99, 117, 114, 115, 111, 114] ++ nuB f ++ [32, 34] ++ (t.map ltB).flatten ++ [34, 10]
theorem lt_snoc {l : List UInt8} {j : Nat} (h : j < l.length) : ((l.take (j + 1)).map ltB).flatten = ((l.take j).map ltB).flatten ++ ltB l[j] := by
  rw [List.take_succ_eq_append_getElem h, List.map_append, List.flatten_append]; simp
theorem lts_len : ∀ (l : List UInt8), (l.map ltB).flatten.length ≤ 3 * l.length
  | [] => by simp
  | x :: r => by
    have h1 := ltB_len x
    have h2 := lts_len r
    simp only [List.map_cons, List.flatten_cons, List.length_append, List.length_cons]
    omega
theorem cuB_len {f : Nat} (t : List UInt8) (hf : f < 18446744073709551616) : (cuB f t).length ≤ 3 * t.length + 31 := by
  have h1 := nuB_len hf
  have h2 := lts_len t
  simp only [cuB, List.length_append, List.length_cons, List.length_nil]
  omega
theorem getB {l : List UInt8} {s : ByteArray} (h : s.data.toList = l) {j : Nat} (hj : j < s.size) (hl : j < l.length) : s[j] = l[j] := by
  subst h
  simp [ByteArray.getElem_eq_getElem_data]
set_option maxRecDepth 20000 in
set_option maxHeartbeats 4000000 in
theorem cursor_any {w : World} {b : Nat} {p v : Value} {l : List UInt8} (f : Nat) (hf : f ≤ 9223372036854775807) (s : ByteArray) (h : Bw w b p v l) (hl : l.length + 3 * s.size + 60 ≤ 140737488355328) (hP : Pw w) (hg : 26 < b) :
    Calls Tryd.prog 17 #[.pointer (some ⟨b, 0, none⟩), .agg #[.int .i64 f, .string s]] w fun e w' => e = .returned (.tuple #[]) ∧ ∃ p' v', Bw w' b p' v' (l ++ cuB f s.data.toList) ∧ Kept (BG w b) w w' := by
  have KA := Kept.alloc w (.cells #[.int .i64 f, .string s] 59)
  have HBX : Hid ((w.alloc (.cells #[.int .i64 f, .string s] 59)).heap[w.heap.size]? = some (.cells #[.int .i64 f, .string s] 59 (0, 0))) := hideI (heap_alloc_new w _)
  have hbw := h.lt
  have HS := hideI (wstrI ⟨#[99, 117, 114, 115, 111, 114]⟩ (h.later KA) (by show l.length + 6 ≤ _; omega))
  have HPA := hideI (hP.kept KA)
  have HKA := hideI (BG.quiet b KA)
  have hwf : IntKind.u64.wrap (f : Int) = f := by rw [IntKind.wrap_u64]; omega
  have HCU := hideI (show cuB f s.data.toList = [99, 117, 114, 115, 111, 114] ++ nuB f ++ [32, 34] ++ (s.data.toList.map ltB).flatten ++ [34, 10] from rfl)
  have hnl : (nuB f).length ≤ 21 := nuB_len (by omega)
  have HNU := hideI hnl
  have HGet : Hid (∀ (k : Nat) (h : k < s.size) (h2 : k < s.data.toList.length), s[k] = s.data.toList[k]) := hideI (fun k h h2 => getB rfl h h2)
  have HSL : Hid (s.data.toList.length = s.size) := hideI Array.length_toList
  clear h KA hP hnl
  go_enter Tryd.func17, Tryd.ntmps17
  go_wp2_with (first
    | (go_at_call 41; refine HS.out.mono ?_; clear HS; rintro e W1 ⟨⟨r, rfl⟩, v1, hB1, K1⟩; have HB1 := hideI hB1; have HK1 := hideI (BG.trans HKA.out K1); have HX1 := hideI (BG.box K1 HBX.out (by omega) (by decide)); obtain ⟨y0, y1, -⟩ := cell_row2 HX1.out; have HP1 := hideI (BG.pw K1 hg HPA.out); clear hB1 K1; have HN := hideI (number_any f (by omega) HB1.out (by simp; omega) HP1.out hg))
    | (go_at_call 42; refine HN.out.mono ?_; clear HN; rintro e W2 ⟨rfl, p2, v2, hB2, K2⟩; have HB2 := hideI hB2; have HK2 := hideI (BG.trans HK1.out K2); have HX2 := hideI (BG.box K2 HX1.out (by omega) (by decide)); obtain ⟨y0, y1, -⟩ := cell_row2 HX2.out; clear hB2 K2; have HS := hideI (wstrI ⟨#[32, 34]⟩ HB2.out (by have := HNU.out; show _ + 2 ≤ _; simp; omega)); refine Hid.out ?_))
  refine hideI ?_
  go_wp2_with (go_at_call 41; refine HS.out.mono ?_; clear HS; rintro e W3 ⟨⟨r3, rfl⟩, v3, hB3, K3⟩; have HB3 := hideI hB3; have HK3 := hideI (BG.trans HK2.out K3); have HX3 := hideI (BG.box K3 HX2.out (by omega) (by decide)); obtain ⟨y0, y1, -⟩ := cell_row2 HX3.out; clear hB3 K3)
  obtain ⟨sl, hsl⟩ : ∃ sl, sl = s.size := ⟨_, rfl⟩
  have hsl2 : sl ≤ 140737488355328 := by omega
  have HL0 : Hid (∀ j, (((l ++ [99, 117, 114, 115, 111, 114] ++ nuB f) ++ [32, 34]) ++ ((s.data.toList.take j).map ltB).flatten).length + 20 ≤ 140737488355328) := hideI (fun j => by
    have h1 := lts_len (s.data.toList.take j)
    have h2 : (s.data.toList.take j).length ≤ s.size := by rw [List.length_take, HSL.out]; omega
    have h3 := HNU.out
    simp only [List.length_append, List.length_cons, List.length_nil] at *
    omega)
  have hss : (s.size : Int) = (sl : Int) := by rw [hsl]
  rw [hss]
  have HSZ := hideI hsl
  have HB0 := hideI HB3.out
  have HKW : Hid (Kept (BG w b) w W3) := HK3
  clear hsl hss hl y0 y1 HB1 HB2 HX1 HX2 HK1 HK2 HK3 HP1 HPA HBX HKA HB3
  go_loopw [21] (fun v21 wr => ∃ (j : Nat) (pp vv : Value), j ≤ sl ∧ v21 = .int .i64 j ∧ Hid (Bw wr b pp vv (((l ++ [99, 117, 114, 115, 111, 114] ++ nuB f) ++ [32, 34]) ++ ((s.data.toList.take j).map ltB).flatten)) ∧ Hid (Kept (BG W3 b) W3 wr)) (fun v21 _ => sl - (intOf v21).toNat)
  case atStart => exact ⟨0, _, v3, by omega, rfl, hideI (by simpa using HB0.out), hideI (Kept.refl _ _)⟩
  case round =>
    obtain ⟨j, pp, vv, hj, rfl, HB, HK⟩ := hrel
    have HL := hideI (HL0.out j)
    by_cases hlt : j < sl
    · have hji : (j : Int) < (sl : Int) := by omega
      have hjs : j < s.size := by rw [← HSZ.out]; exact hlt
      have hjl : j < s.data.toList.length := by rw [HSL.out]; exact hjs
      obtain ⟨y0, y1, -⟩ := cell_row2 (BG.box HK.out HX3.out (by omega) (by decide))
      have HSN := hideI (lt_snoc hjl)
      have hix : ∀ W, (Instr.index 9 (.string s) (.int .i64 (j : Int))).run Tryd.prog W = .ok (.int .u8 ((s.data.toList[j]).toNat : Int)) W := fun W => by
        rw [run_index_string _ _ _ _ _ Tryd.underlying9, dif_pos ⟨by omega, by omega⟩]
        have e : (j : Int).toNat = j := by omega
        simp only [e]
        rw [HGet.out j hjs hjl]
      generalize s.data.toList[j] = c at *
      have HLe := hideI (letter_any c HB.out (by have := HL.out; omega))
      clear HGet hjs hjl
      go_wp2_with (go_at_call 44; refine HLe.out.mono ?_; clear HLe; rintro e W5 ⟨rfl, p5, v5, hB5, K5⟩; have HB5 := hideI hB5; have HK5 := hideI (BG.trans HK.out K5); clear hB5 K5)
      go_roundw
      case rel => exact ⟨j + 1, _, _, hlt, by go_num, hideI (by rw [HSN.out]; simpa [List.append_assoc] using HB5.out), HK5⟩
      case measure => simp [intOf]; omega
    · obtain rfl : j = sl := by omega
      have hT : s.data.toList.take j = s.data.toList := List.take_of_length_le (by rw [HSL.out, HSZ.out]; exact Nat.le_refl _)
      rw [hT] at HB HL
      have HWb := hideI (wstrI ⟨#[34, 10]⟩ HB.out (by have := HL.out; show _ + 2 ≤ _; omega))
      go_wp2_with (go_at_call 41; refine HWb.out.mono ?_; clear HWb; rintro e W7 ⟨⟨r7, rfl⟩, v7, hB7, K7⟩)
      go_end0
      refine ⟨rfl, .pointer (some ⟨b, 0, none⟩), v7, ?_, BG.trans (BG.trans HKW.out HK.out) K7⟩
      rw [HCU.out]
      simpa [List.append_assoc] using hB7
end Go.Proofs.YtdklkpbadopkaaaDoor
