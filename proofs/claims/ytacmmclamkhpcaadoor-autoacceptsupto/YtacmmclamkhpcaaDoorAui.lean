import Derived.Test.YtacmmclamkhpcaaDoorAuh
namespace Go.Proofs.YtacmmclamkhpcaaDoor
open Go.ChangeShapes Go.WideShapes Go.ChangeAt Go.RowKit

theorem BF.quietA {w w1 : World} {b : Nat} (h : Kept (BF w b) w w1) : Kept (fun j => b ≤ j) w w1 := h.mono (fun j hj => .inl (by rcases hj with e | ⟨e, _⟩ <;> omega))
/-- A text as the pattern that matches it alone. -/
def sp1 (c : UInt8) : List UInt8 := if c = 42 ∨ c = 63 ∨ c = 92 then [92, c] else [c]
def lit (l : List UInt8) : List UInt8 := l.flatMap sp1
theorem lit_cons (c : UInt8) (r : List UInt8) : lit (c :: r) = sp1 c ++ lit r := by unfold lit; simp
theorem lit_nil : lit [] = [] := rfl
theorem sp1_yes {c : UInt8} (h : c = 42 ∨ c = 63 ∨ c = 92) : sp1 c = [92] ++ [c] := by unfold sp1; rw [if_pos h]; rfl
theorem sp1_no {c : UInt8} (h : ¬ (c = 42 ∨ c = 63 ∨ c = 92)) : sp1 c = [c] := by unfold sp1; rw [if_neg h]
set_option maxRecDepth 20000 in
set_option maxHeartbeats 4000000 in
theorem literal_any (l : List UInt8) (w : World) (hl : l.length ≤ 1099511627776) :
    Calls Tryd.prog 16 #[.string (bq l)] w fun e w' => e = .returned (.string (bq (lit l))) ∧ Kept (fun _ => False) w w' := by
  obtain ⟨Z, hZ⟩ : ∃ Z, Z = lit l := ⟨_, rfl⟩
  obtain ⟨s, hs⟩ : ∃ s, s = bq l := ⟨_, rfl⟩
  have hz : s.size = l.length := by rw [hs]; exact bq_size l
  have HX : Hid (∀ k (h : k < l.length) (h2 : k < s.size), s[k] = l[k]) := hideG (fun k h h2 => by subst hs; rfl)
  rw [← hs, ← hZ]
  have HZ := hideG hZ
  obtain ⟨n, hn⟩ : ∃ n, n = s.size := ⟨_, rfl⟩
  have hln : n ≤ 1099511627776 := by omega
  have HLn : Hid (n = l.length) := hideG (by omega)
  have HB0 : Hid (Bd (w.alloc (.cells #[.pointer none, .slice none 0 0] 71)) w.heap.size (.pointer none) (.slice none 0 0) []) := hideG ⟨heap_alloc_new w _, .inl rfl, World.ownsRow_nil _ _ _ _, by simp [Value.ownBlock]⟩
  have HK0 := hideG (Kept.alloc w (.cells #[.pointer none, .slice none 0 0] 71))
  clear hZ hs hl hz
  go_enter Tryd.func16, Tryd.ntmps16
  go_wp2
  go_loopw [7] (fun iw wr => ∃ (i : Nat) (p v : Value) (L : List UInt8), i ≤ n ∧ iw = .int .i64 i ∧ Hid (L.length ≤ 2 * i) ∧ Hid (Z = L ++ lit (l.drop i)) ∧ Hid (Bd wr w.heap.size p v L) ∧ Hid (Kept (fun j => w.heap.size ≤ j) w wr)) (fun iw _ => n - (intOf iw).toNat)
  case atStart => exact ⟨0, _, _, [], by omega, rfl, hideG (by simp), hideG (by rw [HZ.out, List.drop_zero]; rfl), HB0, hideG (HK0.out.mono fun _ f => f.elim)⟩
  case round =>
    obtain ⟨i, p, v, L, hi, rfl, HM, HD, HB, HK⟩ := hrel
    clear HZ HB0 HK0
    by_cases hlt : i < n
    · have hil : i < l.length := by rw [← HLn.out]; exact hlt
      have his : i < s.size := by rw [← hn]; exact hlt
      have hii : (i : Int) < (n : Int) := by omega
      have c0 := HX.out i hil his
      have hd : l.drop i = l[i] :: l.drop (i + 1) := List.drop_eq_getElem_cons hil
      have HD2 := HD.out
      rw [hd, lit_cons] at HD2
      generalize l[i] = x at *
      by_cases h42 : x = 42
      · skip
        subst h42
        have HQ : Hid (Z = (L ++ [92]) ++ [42] ++ lit (l.drop (i + 1))) := hideG (by rw [HD2, sp1_yes (.inl rfl)]; simp)
        have y0 : s[i].toNat = 42 := by rw [c0]; rfl
        clear c0 hd HD2 HD HX
        go_wp2_with (go_at_call 29; first
          | (refine (wbyte_any 92 92 rfl HB.out (by have := HM.out; omega)).mono ?_; clear HB; rintro e W1 ⟨rfl, v1, hB1, K1⟩; have HB1 := hideG hB1; have HK1 := hideG (BF.quietA K1); clear hB1 K1)
          | (refine (wbyte_any 42 42 rfl HB1.out (by have := HM.out; simp; omega)).mono ?_; rintro e W2 ⟨rfl, v2, hB2, K2⟩; have HB2 := hideG hB2; have HK2 := hideG (BF.quietA K2); clear hB2 K2))
        go_roundw
        case rel => exact ⟨i + 1, _, _, L ++ [92] ++ [42], by omega, by go_num, hideG (by have := HM.out; simp; omega), HQ, HB2, hideG ((HK.out.trans HK1.out (fun j hj => .inl hj)).trans HK2.out (fun j hj => .inl hj))⟩
        case measure => simp [intOf]; omega
      · by_cases h63 : x = 63
        · skip
          subst h63
          have HQ : Hid (Z = (L ++ [92]) ++ [63] ++ lit (l.drop (i + 1))) := hideG (by rw [HD2, sp1_yes (.inr (.inl rfl))]; simp)
          have y0 : s[i].toNat = 63 := by rw [c0]; rfl
          clear c0 hd HD2 HD HX
          go_wp2_with (go_at_call 29; first
            | (refine (wbyte_any 92 92 rfl HB.out (by have := HM.out; omega)).mono ?_; clear HB; rintro e W1 ⟨rfl, v1, hB1, K1⟩; have HB1 := hideG hB1; have HK1 := hideG (BF.quietA K1); clear hB1 K1)
            | (refine (wbyte_any 63 63 rfl HB1.out (by have := HM.out; simp; omega)).mono ?_; rintro e W2 ⟨rfl, v2, hB2, K2⟩; have HB2 := hideG hB2; have HK2 := hideG (BF.quietA K2); clear hB2 K2))
          go_roundw
          case rel => exact ⟨i + 1, _, _, L ++ [92] ++ [63], by omega, by go_num, hideG (by have := HM.out; simp; omega), HQ, HB2, hideG ((HK.out.trans HK1.out (fun j hj => .inl hj)).trans HK2.out (fun j hj => .inl hj))⟩
          case measure => simp [intOf]; omega
        · by_cases h92 : x = 92
          · skip
            subst h92
            have HQ : Hid (Z = (L ++ [92]) ++ [92] ++ lit (l.drop (i + 1))) := hideG (by rw [HD2, sp1_yes (.inr (.inr rfl))]; simp)
            have y0 : s[i].toNat = 92 := by rw [c0]; rfl
            clear c0 hd HD2 HD HX
            go_wp2_with (go_at_call 29; first
              | (refine (wbyte_any 92 92 rfl HB.out (by have := HM.out; omega)).mono ?_; clear HB; rintro e W1 ⟨rfl, v1, hB1, K1⟩; have HB1 := hideG hB1; have HK1 := hideG (BF.quietA K1); clear hB1 K1)
              | (refine (wbyte_any 92 92 rfl HB1.out (by have := HM.out; simp; omega)).mono ?_; rintro e W2 ⟨rfl, v2, hB2, K2⟩; have HB2 := hideG hB2; have HK2 := hideG (BF.quietA K2); clear hB2 K2))
            go_roundw
            case rel => exact ⟨i + 1, _, _, L ++ [92] ++ [92], by omega, by go_num, hideG (by have := HM.out; simp; omega), HQ, HB2, hideG ((HK.out.trans HK1.out (fun j hj => .inl hj)).trans HK2.out (fun j hj => .inl hj))⟩
            case measure => simp [intOf]; omega
          · obtain ⟨q, hq⟩ : ∃ q, q = x.toNat := ⟨_, rfl⟩
            have hqb : q < 256 := by rw [hq]; exact x.toNat_lt
            have HQ : Hid (Z = L ++ [x] ++ lit (l.drop (i + 1))) := hideG (by rw [HD2, sp1_no (by rintro (h | h | h) <;> contradiction)]; simp)
            have y0 : s[i].toNat = q := by rw [c0, hq]
            have q1 : ((q : Int) == 63) = false := by rw [hq]; exact u8_int' x 63 h63
            have q2 : ((q : Int) == 42) = false := by rw [hq]; exact u8_int' x 42 h42
            have q3 : ((q : Int) == 92) = false := by rw [hq]; exact u8_int' x 92 h92
            have HXq : Hid ((q : Int) = (x.toNat : Int)) := hideG (by rw [hq])
            clear c0 hd HD2 HD HX h63 h42 h92 hq
            go_wp2_with (go_at_call 29; refine (wbyte_any x (q : Int) HXq.out HB.out (by have := HM.out; omega)).mono ?_; clear HB; rintro e W1 ⟨rfl, v1, hB1, K1⟩; have HB1 := hideG hB1; have HK1 := hideG (BF.quietA K1); clear hB1 K1)
            go_roundw
            case rel => exact ⟨i + 1, _, _, L ++ [x], by omega, by go_num, hideG (by have := HM.out; simp; omega), HQ, HB1, hideG (HK.out.trans HK1.out (fun j hj => .inl hj))⟩
            case measure => simp [intOf]; omega
    · obtain rfl : i = n := by omega
      have HQ : Hid (Z = L) := hideG (by rw [HD.out, List.drop_of_length_le (by rw [HLn.out]; exact Nat.le_refl _), lit_nil, List.append_nil])
      obtain rfl : Z = L := HQ.out
      clear HX HD HQ
      go_wp2_with (go_at_call 30; refine (bstring_any HB.out).mono ?_; rintro e W5 ⟨rfl, B5⟩)
      go_ret
      refine ⟨rfl, (HK.out.trans (G := fun j => w.heap.size ≤ j) ⟨B5.os, B5.tape, B5.output, B5.size, fun k hk hF => B5.block k (Decidable.byContradiction fun h => hF (by omega))⟩ (fun j hj => .inl hj)).mono (fun j hj => .inr hj)⟩
end Go.Proofs.YtacmmclamkhpcaaDoor
