import Derived.Test.YtccmhceehciggaaDoorDcw
namespace Go.Proofs.YtccmhceehciggaaDoor
open Go.ChangeShapes Go.WideShapes Go.ChangeAt Go.RowKit

theorem hideQ {p : Prop} (h : p) : Hid p := h
theorem ret2_vb {x y : Int} {a b : Bool} (h : x = y ∧ a = b) : Ending.returned (.tuple #[.int .i64 x, .bool a]) = .returned (.tuple #[.int .i64 y, .bool b]) := by rw [h.1, h.2]
theorem take_nx (s : ByteArray) (k : Nat) (h : k < s.size) : s.data.toList.take (k + 1) = s.data.toList.take k ++ [s[k]] := by
  rw [List.take_succ_eq_append_getElem (by simpa using h)]; rfl
/-- Behind k digits: what they spell, below 0, or that it is too great. -/
structure Rl (L : List UInt8) (k : Nat) (z : Int) (f : Bool) : Prop where
  dig : (L.take k).all isD = true
  lo : -9223372036854775808 ≤ z
  hi : z ≤ 0
  yes : f = true → z = -(dval 0 (L.take k) : Int)
  no : f = false → 9223372036854775808 < dval 0 (L.take k)
theorem Rl.start (L : List UInt8) : Rl L 0 0 true := ⟨rfl, by omega, by omega, fun _ => rfl, fun h => by cases h⟩
theorem dval_next (d : ByteArray) (k : Nat) (h : k < d.size) : dval 0 (d.data.toList.take (k + 1)) = dval 0 (d.data.toList.take k) * 10 + (d[k].toNat - 48) := by
  rw [take_nx d k h, dval_append, dval_cons, dval_nil]
theorem dig_next (d : ByteArray) (k : Nat) (h : k < d.size) (hd : (d.data.toList.take k).all isD = true) (hc : 48 ≤ d[k].toNat ∧ d[k].toNat ≤ 57) : (d.data.toList.take (k + 1)).all isD = true := by
  rw [take_nx d k h, List.all_append, hd, List.all_cons, List.all_nil]
  simp [isD, hc]
theorem Rl.next_no {d : ByteArray} {k : Nat} {z : Int} (R : Rl d.data.toList k z false) (h : k < d.size) (hc : 48 ≤ d[k].toNat ∧ d[k].toNat ≤ 57) : Rl d.data.toList (k + 1) z false :=
  ⟨dig_next d k h R.dig hc, R.lo, R.hi, (fun h => by cases h), fun _ => by have := R.no rfl; have := dval_next d k h; omega⟩
theorem Rl.next_big1 {d : ByteArray} {k : Nat} {z : Int} (R : Rl d.data.toList k z true) (h : k < d.size) (hc : 48 ≤ d[k].toNat ∧ d[k].toNat ≤ 57) (c : z < -922337203685477580) : Rl d.data.toList (k + 1) z false :=
  ⟨dig_next d k h R.dig hc, R.lo, R.hi, (fun h => by cases h), fun _ => by have := R.yes rfl; have := dval_next d k h; omega⟩
theorem Rl.next_big2 {d : ByteArray} {k : Nat} {z : Int} (R : Rl d.data.toList k z true) (h : k < d.size) (hc : 48 ≤ d[k].toNat ∧ d[k].toNat ≤ 57) (c : 10 * z < -9223372036854775808 + ((d[k].toNat : Int) - 48)) : Rl d.data.toList (k + 1) z false :=
  ⟨dig_next d k h R.dig hc, R.lo, R.hi, (fun h => by cases h), fun _ => by have := R.yes rfl; have := dval_next d k h; omega⟩
theorem Rl.next_ok {d : ByteArray} {k : Nat} {z : Int} (R : Rl d.data.toList k z true) (h : k < d.size) (hc : 48 ≤ d[k].toNat ∧ d[k].toNat ≤ 57) (c1 : ¬ z < -922337203685477580) (c : ¬ 10 * z < -9223372036854775808 + ((d[k].toNat : Int) - 48)) : Rl d.data.toList (k + 1) (10 * z - ((d[k].toNat : Int) - 48)) true :=
  ⟨dig_next d k h R.dig hc, by omega, by have := R.hi; omega, (fun _ => by have := R.yes rfl; have := dval_next d k h; omega), fun h => by cases h⟩
theorem Rl.full {d : ByteArray} {k : Nat} {z : Int} {f : Bool} (R : Rl d.data.toList k z f) (h : ¬ k < d.size) : d.data.toList.all isD = true ∧ (f = true → z = -(dval 0 d.data.toList : Int)) ∧ (f = false → 9223372036854775808 < dval 0 d.data.toList) := by
  have e : d.data.toList.take k = d.data.toList := List.take_of_length_le (by rw [Array.length_toList]; exact Nat.le_of_not_lt h)
  have a := R.dig; have b := R.yes; have c := R.no
  rw [e] at a b c
  exact ⟨a, b, c⟩
theorem dec_big {l D : List UInt8} (hb : body l = D) (h : 9223372036854775808 < dval 0 D) : dec l = none := by
  unfold dec
  rw [hb]
  split
  · rfl
  · split <;> (rw [if_neg (by omega)])
theorem dec_bad {l : List UInt8} {d : ByteArray} {k : Nat} (hb : body l = d.data.toList) (h : k < d.size) (hc : ¬ (48 ≤ d[k].toNat ∧ d[k].toNat ≤ 57)) : dec l = none := by
  unfold dec
  rw [hb, if_pos]
  right
  rw [List.all_eq_false]
  exact ⟨d[k], Array.getElem_mem_toList h, by simp only [isD, decide_eq_true_eq]; exact hc⟩
theorem dec_minus {l D : List UInt8} {z : Int} (hb : body l = D) (hn : neg l = true) (h0 : 0 < D.length) (ha : D.all isD = true) (hz : z = -(dval 0 D : Int)) (hl : -9223372036854775808 ≤ z) : dec l = some z := by
  unfold dec
  rw [hb, if_neg, if_pos hn, if_pos (by omega), hz]
  rintro (e | e)
  · rw [e] at h0; simp at h0
  · rw [ha] at e; cases e
theorem dec_plain {l D : List UInt8} {z : Int} (hb : body l = D) (hn : ¬ neg l = true) (h0 : 0 < D.length) (ha : D.all isD = true) (hz : z = -(dval 0 D : Int)) (hl : -9223372036854775808 < z) : dec l = some (-z) := by
  unfold dec
  rw [hb, if_neg, if_neg hn, if_pos (by omega), hz, Int.neg_neg]
  rintro (e | e)
  · rw [e] at h0; simp at h0
  · rw [ha] at e; cases e
theorem dec_edge {l D : List UInt8} {z : Int} (hb : body l = D) (hn : ¬ neg l = true) (hz : z = -(dval 0 D : Int)) (hl : z = -9223372036854775808) : dec l = none := by
  unfold dec
  rw [hb]
  split
  · rfl
  · rw [if_neg (by omega)]

set_option maxRecDepth 20000 in
set_option maxHeartbeats 1000000 in
theorem rparse_minus (s d : ByteArray) (w : World) (hl : s.size ≤ 140737488355328) (h0 : 1 < s.size) (hc : s[0].toNat = 45) (hd : s.extract 1 s.size = d) (hds : d.size = s.size - 1) (hb : body s.data.toList = d.data.toList) (hn : neg s.data.toList = true) :
    Calls Tryd.prog 22 #[.string s] w fun e w' => e = .returned (.tuple #[.int .i64 (decV s.data.toList), .bool (decB s.data.toList)]) ∧ w' = w := by
  have hc' : (s[0].toNat : Int) = 45 := by omega
  have h1 : ¬ ((d.size : Nat) : Int) = 0 := by omega
  have h2 : d.size ≤ 140737488355328 := by omega
  have Hds := hideQ hds
  have Hb := hideQ hb
  clear hds hb hc
  go_enter Tryd.func22, Tryd.ntmps22
  go_wp2
  go_loopw [6, 7, 8] (fun x f i wr => ∃ (k : Nat) (z : Int) (b : Bool), k ≤ d.size ∧ i = .int .i64 k ∧ x = .int .i64 z ∧ f = .bool b ∧ Rl d.data.toList k z b ∧ wr = w) (fun _ _ i _ => d.size - (intOf i).toNat)
  case atStart => exact ⟨0, 0, true, by omega, rfl, rfl, rfl, Rl.start _, rfl⟩
  case round =>
    obtain ⟨k, z, b, hk, rfl, rfl, rfl, hR, rfl⟩ := hrel
    have hz0 := hR.lo
    have hz1 := hR.hi
    by_cases hlt : k < d.size
    · by_cases hcd : 48 ≤ d[k].toNat ∧ d[k].toNat ≤ 57
      · have q1 : ¬ (d[k].toNat : Int) < 48 := by omega
        have q2 : ¬ 57 < (d[k].toNat : Int) := by omega
        cases b with
        | false =>
          have hN := hR.next_no hlt hcd
          go_wp2
          go_roundw
          case rel => exact ⟨k + 1, z, false, by omega, by go_num, rfl, rfl, hN, trivial⟩
          case measure => simp [intOf]; omega
        | true =>
          by_cases c1 : z < -922337203685477580
          · have hN := hR.next_big1 hlt hcd c1
            go_wp2
            go_roundw
            case rel => exact ⟨k + 1, z, false, by omega, by go_num, rfl, rfl, hN, trivial⟩
            case measure => simp [intOf]; omega
          · by_cases c2 : 10 * z < -9223372036854775808 + ((d[k].toNat : Int) - 48)
            · have hN := hR.next_big2 hlt hcd c2
              go_wp2
              go_roundw
              case rel => exact ⟨k + 1, z, false, by omega, by go_num, rfl, rfl, hN, trivial⟩
              case measure => simp [intOf]; omega
            · have hN := hR.next_ok hlt hcd c1 c2
              go_wp2
              go_roundw
              case rel => exact ⟨k + 1, 10 * z - ((d[k].toNat : Int) - 48), true, by omega, by go_num, rfl, rfl, hN, trivial⟩
              case measure => simp [intOf]; omega
      · have HX := dec_bad Hb.out hlt hcd
        clear hR
        by_cases q1 : (d[k].toNat : Int) < 48
        · go_wp2
          go_ret2
          exact ⟨ret2_vb ⟨(decV_none HX).symm, (decB_none HX).symm⟩, rfl⟩
        · have q2 : 57 < (d[k].toNat : Int) := by omega
          go_wp2
          go_ret2
          exact ⟨ret2_vb ⟨(decV_none HX).symm, (decB_none HX).symm⟩, rfl⟩
    · have hpos : 0 < d.size := by omega
      obtain rfl : k = d.size := by omega
      cases b with
      | false =>
        have HX := dec_big Hb.out ((hR.full hlt).2.2 rfl)
        clear hR
        go_wp2
        go_ret2
        exact ⟨ret2_vb ⟨(decV_none HX).symm, (decB_none HX).symm⟩, rfl⟩
      | true =>
        have HX := dec_minus Hb.out hn (by rw [Array.length_toList]; exact Nat.lt_of_lt_of_eq hpos rfl) (hR.full hlt).1 ((hR.full hlt).2.1 rfl) hz0
        clear hR
        go_wp2
        go_ret2
        exact ⟨ret2_vb ⟨(decV_some HX).symm, (decB_some HX).symm⟩, rfl⟩

set_option maxRecDepth 20000 in
set_option maxHeartbeats 1000000 in
theorem rparse_plain (d : ByteArray) (w : World) (h2 : d.size ≤ 140737488355328) (h0 : 0 < d.size) (hc : d[0].toNat ≠ 45) (hb : body d.data.toList = d.data.toList) (hn : ¬ neg d.data.toList = true) :
    Calls Tryd.prog 22 #[.string d] w fun e w' => e = .returned (.tuple #[.int .i64 (decV d.data.toList), .bool (decB d.data.toList)]) ∧ w' = w := by
  have hc' : ((d[0].toNat : Int) == 45) = false := by simp; omega
  have h1 : ¬ ((d.size : Nat) : Int) = 0 := by omega
  have Hb := hideQ hb
  clear hb hc
  go_enter Tryd.func22, Tryd.ntmps22
  go_wp2
  go_loopw [6, 7, 8] (fun x f i wr => ∃ (k : Nat) (z : Int) (b : Bool), k ≤ d.size ∧ i = .int .i64 k ∧ x = .int .i64 z ∧ f = .bool b ∧ Rl d.data.toList k z b ∧ wr = w) (fun _ _ i _ => d.size - (intOf i).toNat)
  case atStart => exact ⟨0, 0, true, by omega, rfl, rfl, rfl, Rl.start _, rfl⟩
  case round =>
    obtain ⟨k, z, b, hk, rfl, rfl, rfl, hR, rfl⟩ := hrel
    have hz0 := hR.lo
    have hz1 := hR.hi
    by_cases hlt : k < d.size
    · by_cases hcd : 48 ≤ d[k].toNat ∧ d[k].toNat ≤ 57
      · have q1 : ¬ (d[k].toNat : Int) < 48 := by omega
        have q2 : ¬ 57 < (d[k].toNat : Int) := by omega
        cases b with
        | false =>
          have hN := hR.next_no hlt hcd
          go_wp2
          go_roundw
          case rel => exact ⟨k + 1, z, false, by omega, by go_num, rfl, rfl, hN, trivial⟩
          case measure => simp [intOf]; omega
        | true =>
          by_cases c1 : z < -922337203685477580
          · have hN := hR.next_big1 hlt hcd c1
            go_wp2
            go_roundw
            case rel => exact ⟨k + 1, z, false, by omega, by go_num, rfl, rfl, hN, trivial⟩
            case measure => simp [intOf]; omega
          · by_cases c2 : 10 * z < -9223372036854775808 + ((d[k].toNat : Int) - 48)
            · have hN := hR.next_big2 hlt hcd c2
              go_wp2
              go_roundw
              case rel => exact ⟨k + 1, z, false, by omega, by go_num, rfl, rfl, hN, trivial⟩
              case measure => simp [intOf]; omega
            · have hN := hR.next_ok hlt hcd c1 c2
              go_wp2
              go_roundw
              case rel => exact ⟨k + 1, 10 * z - ((d[k].toNat : Int) - 48), true, by omega, by go_num, rfl, rfl, hN, trivial⟩
              case measure => simp [intOf]; omega
      · have HX := dec_bad Hb.out hlt hcd
        clear hR
        by_cases q1 : (d[k].toNat : Int) < 48
        · go_wp2
          go_ret2
          exact ⟨ret2_vb ⟨(decV_none HX).symm, (decB_none HX).symm⟩, rfl⟩
        · have q2 : 57 < (d[k].toNat : Int) := by omega
          go_wp2
          go_ret2
          exact ⟨ret2_vb ⟨(decV_none HX).symm, (decB_none HX).symm⟩, rfl⟩
    · have hpos : 0 < d.size := by omega
      obtain rfl : k = d.size := by omega
      cases b with
      | false =>
        have HX := dec_big Hb.out ((hR.full hlt).2.2 rfl)
        clear hR
        go_wp2
        go_ret2
        exact ⟨ret2_vb ⟨(decV_none HX).symm, (decB_none HX).symm⟩, rfl⟩
      | true =>
        by_cases hz2 : z = -9223372036854775808
        · have HX := dec_edge Hb.out hn ((hR.full hlt).2.1 rfl) hz2
          have hz3 : (z == -9223372036854775808) = true := by rw [hz2]; rfl
          clear hR hz2
          go_wp2
          go_ret2
          exact ⟨ret2_vb ⟨(decV_none HX).symm, (decB_none HX).symm⟩, rfl⟩
        · have HX := dec_plain Hb.out hn (by rw [Array.length_toList]; exact Nat.lt_of_lt_of_eq hpos rfl) (hR.full hlt).1 ((hR.full hlt).2.1 rfl) (by omega)
          have hz3 : (z == -9223372036854775808) = false := by simp [hz2]
          have hz4 : -9223372036854775807 ≤ z := by omega
          clear hR hz2
          go_wp2
          go_ret2
          exact ⟨ret2_vb ⟨(decV_some HX).symm, (decB_some HX).symm⟩, rfl⟩

set_option maxRecDepth 20000 in
theorem rparse_lone (s : ByteArray) (w : World) (h0 : s.size = 1) (hc : s[0].toNat = 45) :
    Calls Tryd.prog 22 #[.string s] w fun e w' => e = .returned (.tuple #[.int .i64 0, .bool false]) ∧ w' = w := by
  have hc' : (s[0].toNat : Int) = 45 := by omega
  clear hc
  go_enter Tryd.func22, Tryd.ntmps22
  go_wp2
  go_ret2
  exact ⟨rfl, rfl⟩
set_option maxRecDepth 20000 in
theorem rparse_none (s : ByteArray) (w : World) (h0 : s.size = 0) :
    Calls Tryd.prog 22 #[.string s] w fun e w' => e = .returned (.tuple #[.int .i64 0, .bool false]) ∧ w' = w := by
  go_enter Tryd.func22, Tryd.ntmps22
  go_wp2
  go_ret2
  exact ⟨rfl, rfl⟩
theorem neg_at (s : ByteArray) (h : 0 < s.size) : neg s.data.toList = decide (s[0].toNat = 45) := by
  obtain ⟨⟨l⟩⟩ := s
  match l, h with
  | c :: r, _ => rfl
/-- The document's ParseNumber, at every text. -/
theorem rparse_any (s : ByteArray) (w : World) (hl : s.size ≤ 140737488355328) :
    Calls Tryd.prog 22 #[.string s] w fun e w' => e = .returned (.tuple #[.int .i64 (decV s.data.toList), .bool (decB s.data.toList)]) ∧ w' = w := by
  by_cases h0 : s.size = 0
  · have e : dec s.data.toList = none := by
      have : s.data.toList = [] := List.eq_nil_of_length_eq_zero (by rw [Array.length_toList]; exact h0)
      rw [this]; rfl
    rw [decV_none e, decB_none e]
    exact rparse_none s w h0
  · have hp : 0 < s.size := by omega
    by_cases hc : s[0].toNat = 45
    · have hn : neg s.data.toList = true := by rw [neg_at s hp]; exact decide_eq_true hc
      have hb : body s.data.toList = (s.extract 1 s.size).data.toList := by
        rw [body, if_pos hn, ByteArray.data_extract]
        simp only [Array.toList_extract, List.extract, List.drop_one]
        rw [List.take_of_length_le]
        rw [List.length_tail, Array.length_toList]
        exact Nat.le_refl _
      by_cases h1 : s.size = 1
      · have e : dec s.data.toList = none := by
          have : body s.data.toList = [] := by
            rw [hb]
            exact List.eq_nil_of_length_eq_zero (by rw [Array.length_toList]; show (s.extract 1 s.size).size = 0; rw [ByteArray.size_extract]; omega)
          unfold dec
          rw [if_pos (.inl this)]
        rw [decV_none e, decB_none e]
        exact rparse_lone s w h1 hc
      · exact rparse_minus s _ w hl (by omega) hc rfl (by rw [ByteArray.size_extract]; omega) hb hn
    · have hn : ¬ neg s.data.toList = true := by rw [neg_at s hp]; simpa using hc
      exact rparse_plain s w hl hp hc (by rw [body, if_neg hn]) hn
end Go.Proofs.YtccmhceehciggaaDoor
