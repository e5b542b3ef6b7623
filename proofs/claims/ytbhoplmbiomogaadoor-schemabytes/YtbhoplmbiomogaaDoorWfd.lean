import Derived.Test.YtbhoplmbiomogaaDoorWfa
namespace Go.Proofs.YtbhoplmbiomogaaDoor
open Go.ChangeShapes Go.WideShapes Go.ChangeAt Go.RowKit

theorem Words.bf {w w' : World} {b : Nat} (h : Words w) (k : Kept (BF w b) w w') (h1 : 24 < b) (h2 : 25 < b) : Words w' :=
  ⟨BF.below k h.k0 h1, BF.below k h.k1 h1, BF.below k h.k2 h1, BF.below k h.m0 h2, BF.below k h.m1 h2, BF.below k h.m2 h2⟩
/-- The marks that are written up to a place. -/
def mki (fo st se : Bool) : Nat → List UInt8
  | 0 => []
  | 1 => if fo then mFold else []
  | 2 => (if fo then mFold else []) ++ (if st then mStop else [])
  | _ => mks fo st se
theorem mki_len (fo st se : Bool) (i : Nat) : (mki fo st se i).length ≤ 20 := by
  match i with
  | 0 => exact Nat.zero_le _
  | 1 => cases fo <;> simp [mki, mFold]
  | 2 => cases fo <;> cases st <;> simp [mki, mFold, mStop]
  | _ + 3 => cases fo <;> cases st <;> cases se <;> simp [mki, mks, mFold, mStop, mStem]
theorem mki_n0 (fo st se : Bool) : mki fo st se 1 = mki fo st se 0 ++ (if fo then mFold else []) := rfl
theorem mki_n1 (fo st se : Bool) : mki fo st se 2 = mki fo st se 1 ++ (if st then mStop else []) := rfl
theorem mki_n2 (fo st se : Bool) : mki fo st se 3 = mki fo st se 2 ++ (if se then mStem else []) := (List.append_assoc _ _ _).symm
theorem mki3 (fo st se : Bool) : mki fo st se 3 = mks fo st se := rfl
theorem fbox {w : World} {bx : Nat} {n : ByteArray} {k : Int} {fo st se : Bool} (h : w.heap[bx]? = some (.cells #[.string n, .int .i64 k, .bool fo, .bool st, .bool se] 46 (0, 0))) :
    w.cell? ⟨bx, 0, none⟩ = some (.string n) ∧ w.cell? ⟨bx, 1, none⟩ = some (.int .i64 k) ∧ w.cell? ⟨bx, 2, none⟩ = some (.bool fo) ∧ w.cell? ⟨bx, 3, none⟩ = some (.bool st) ∧ w.cell? ⟨bx, 4, none⟩ = some (.bool se) := by
  refine ⟨?_, ?_, ?_, ?_, ?_⟩ <;> simp [World.cell?, h]
set_option maxRecDepth 20000 in
set_option maxHeartbeats 8000000 in
theorem writeField_any (n : ByteArray) (k : Int) (fo st se : Bool) (b : Nat) (p v : Value) (l : List UInt8) (w : World) (h : Bd w b p v l) (hk : k = 1 ∨ k = 2 ∨ k = 3) (hW : Words w) (h1 : 24 < b) (h2 : 25 < b) (hl : l.length + n.size + 64 ≤ 140737488355328) :
    Calls Tryd.prog 35 #[.pointer (some ⟨b, 0, none⟩), .agg #[.string n, .int .i64 k, .bool fo, .bool st, .bool se]] w fun e w' => e = .returned (.tuple #[]) ∧ ∃ v', Bd w' b (.pointer (some ⟨b, 0, none⟩)) v' (l ++ ftx ⟨n, k, fo, st, se⟩) ∧ Kept (BF w b) w w' := by
  have CF := fun w => hideB (fieldByte_any n k fo st se w hk)
  obtain ⟨B, hB⟩ : ∃ B : Int, B = ((k.toNat + bt fo 4 + bt st 8 + bt se 16 : Nat) : Int) := ⟨_, rfl⟩
  have HQ : Hid (bits BinOp.and IntKind.u8 B (IntKind.u8.wrap 4) = ((bt fo 4 : Nat) : Int) ∧ bits BinOp.and IntKind.u8 B (IntKind.u8.wrap 8) = ((bt st 8 : Nat) : Int) ∧ bits BinOp.and IntKind.u8 B (IntKind.u8.wrap 16) = ((bt se 16 : Nat) : Int)) := hideB (by
    rw [hB]
    rcases hk with rfl | rfl | rfl <;> cases fo <;> cases st <;> cases se <;> decide +kernel)
  rw [← hB] at CF
  clear hB
  obtain ⟨KW, hKW⟩ : ∃ KW : ByteArray, KW = bstr (kW k) := ⟨_, rfl⟩
  have hKs : KW.size ≤ 8 := by rw [hKW]; rcases hk with rfl | rfl | rfl <;> decide
  have HKc : Hid (∀ W, Words W → W.cell? ⟨24, k.toNat - 1, none⟩ = some (.string KW)) := hideB (fun W hw => by
    rw [hKW]
    rcases hk with rfl | rfl | rfl
    · exact hw.k0
    · exact hw.k1
    · exact hw.k2)
  have HKW := hideB hKW
  clear hKW
  have K0 : Hid (Kept (BF w b) w (w.alloc (.cells #[.string n, .int .i64 k, .bool fo, .bool st, .bool se] 46))) := hideB (BF.quiet b (Kept.alloc _ _))
  have HB0 := hideB (h.later (Kept.alloc w (.cells #[.string n, .int .i64 k, .bool fo, .bool st, .bool se] 46)))
  have HX0 : Hid ((w.alloc (.cells #[.string n, .int .i64 k, .bool fo, .bool st, .bool se] 46)).heap[w.heap.size]? = some (.cells #[.string n, .int .i64 k, .bool fo, .bool st, .bool se] 46 (0, 0))) := hideB (heap_alloc_new w _)
  have HW0 := hideB (hW.kept (Kept.alloc w (.cells #[.string n, .int .i64 k, .bool fo, .bool st, .bool se] 46)))
  have hbx : w.heap.size ≠ b := by have := h.lt; omega
  have hk0 : 0 ≤ k - 1 ∧ k - 1 < 3 := by rcases hk with rfl | rfl | rfl <;> decide
  have hkw : IntKind.i64.wrap (k - 1) = k - 1 := by rw [IntKind.wrap_i64]; omega
  have hk3 : ¬ (k - 1 < 0) := by omega
  have hk4 : ¬ (3 ≤ k - 1) := by omega
  have ht8 : (46 : TypeId) ≠ 5 := by decide
  clear h hW hk
  go_enter Tryd.func35, Tryd.ntmps35
  go_wp2_with (first
    | (go_at_call 49; refine (wstr_any KW HB2.out (by simp only [List.length_append, List.length_cons, List.length_nil, Array.length_toList]; have : n.data.size = n.size := rfl; omega)).mono ?_; rintro e W3 ⟨⟨r3, rfl⟩, v3, hB3, K3⟩; have HB3 := hideB hB3; have KB3 := hideB (BF.trans KB2.out K3); have HX3 := hideB (BF.box K3 HX2.out hbx ht8); have HW3 := hideB (HW2.out.bf K3 h1 h2); clear hB3 K3; obtain ⟨z0, z1, z2⟩ : W3.cell? ⟨25, 0, none⟩ = some (.string ⟨#[44, 102, 111, 108, 100]⟩) ∧ W3.cell? ⟨25, 1, none⟩ = some (.string ⟨#[44, 115, 116, 111, 112]⟩) ∧ W3.cell? ⟨25, 2, none⟩ = some (.string ⟨#[44, 115, 116, 101, 109]⟩) := ⟨HW3.out.m0, HW3.out.m1, HW3.out.m2⟩)
    | (go_at_call 34; refine (wbyte_any 58 _ rfl HB1.out (by simp only [List.length_append, Array.length_toList]; have : n.data.size = n.size := rfl; omega)).mono ?_; rintro e W2 ⟨rfl, v2, hB2, K2⟩; have HB2 := hideB hB2; have KB2 := hideB (BF.trans KB1.out K2); have HX2 := hideB (BF.box K2 HX1.out hbx ht8); have HW2 := hideB (HW1.out.bf K2 h1 h2); clear hB2 K2; obtain ⟨-, x1, -, -, -⟩ := fbox HX2.out; have xk := HKc.out _ HW2.out)
    | (go_at_call 49; refine (wstr_any n HB0.out (by omega)).mono ?_; rintro e W1 ⟨⟨r1, rfl⟩, v1, hB1, K1⟩; have HB1 := hideB hB1; have KB1 := hideB (BF.trans K0.out K1); have HX1 := hideB (BF.box K1 HX0.out hbx ht8); have HW1 := hideB (HW0.out.bf K1 h1 h2); clear hB1 K1))
  obtain ⟨L, hL⟩ : ∃ L, L = l ++ n.data.toList ++ [58] ++ KW.data.toList := ⟨_, rfl⟩
  rw [← hL] at HB3
  have hLl : L.length + 40 ≤ 140737488355328 := by rw [hL]; simp only [List.length_append, List.length_cons, List.length_nil, Array.length_toList]; have : n.data.size = n.size := rfl; have : KW.data.size = KW.size := rfl; omega
  have HL := hideB hL
  clear hL HB0 HB1 HB2 KB1 KB2 K0 HX0 HX1 HX2 HW0 HW1 HW2 HKc hk0 hkw hk3 hk4 xk x1
  generalize w.heap.size = bx at *
  go_loopw [20] (fun v20 wr => ∃ (i : Nat) (u : Value), i ≤ 3 ∧ v20 = .int .i64 i ∧ Hid (Bd wr b (.pointer (some ⟨b, 0, none⟩)) u (L ++ mki fo st se i)) ∧ Hid (Kept (BF W3 b) W3 wr)) (fun v20 _ => 3 - (intOf v20).toNat)
  case atStart => exact ⟨0, v3, by omega, rfl, hideB (by rw [mki, List.append_nil]; exact HB3.out), Kept.refl _ _⟩
  case round =>
    obtain ⟨i, u, hi, rfl, HB, KK⟩ := hrel
    have HXw := hideB (BF.box KK.out HX3.out hbx ht8)
    obtain ⟨y0, y1, y2, y3, y4⟩ := fbox HXw.out
    clear z0 z1 z2
    have i0 := idx0
    have i1 := idx1
    have i2 := idx2
    by_cases hlt : i < 3
    · obtain rfl | rfl | rfl : i = 0 ∨ i = 1 ∨ i = 2 := by omega
      · cases fo
        · have hq : bits BinOp.and IntKind.u8 B (IntKind.u8.wrap 4) = 0 := HQ.out.1
          have HN : Hid (∀ X : List UInt8, X ++ mki false st se 1 = (X ++ mki false st se 0) ++ []) := hideB (fun X => (congrArg (X ++ ·) (mki_n0 _ _ _)).trans (List.append_assoc _ _ _).symm)
          go_wp2
          go_region_with (go_at_call 20; refine (CF _).out.mono ?_; rintro e W4 ⟨rfl, K4⟩; have HK4 := hideB ((Kept.drew wr).trans K4 (fun _ f => f.elim)); have HB4 := hideB (HB.out.later HK4.out); clear K4)
          all_goals
            go_wp2
            go_roundw
            case rel => exact ⟨1, _, by omega, by go_num, hideB (by rw [HN.out, List.append_nil]; exact HB4.out), hideB (BF.trans KK.out (BF.quiet b HK4.out))⟩
            case measure => simp [intOf]
        · have hq : bits BinOp.and IntKind.u8 B (IntKind.u8.wrap 4) = 4 := HQ.out.1
          have HN : Hid (∀ X : List UInt8, X ++ mki true st se 1 = (X ++ mki true st se 0) ++ mFold) := hideB (fun X => (congrArg (X ++ ·) (mki_n0 _ _ _)).trans (List.append_assoc _ _ _).symm)
          go_wp2
          go_region_with (go_at_call 20; refine (CF _).out.mono ?_; rintro e W4 ⟨rfl, K4⟩; have HK4 := hideB ((Kept.drew wr).trans K4 (fun _ f => f.elim)); have HB4 := hideB (HB.out.later HK4.out); clear K4)
          all_goals
            go_wp2_with (go_at_call 49; refine (wstr_any _ HB4.out (by have hz : (mki true st se 0).length ≤ 20 := mki_len _ _ _ _; rw [List.length_append]; show _ + 5 ≤ _; omega)).mono ?_; rintro e W5 ⟨⟨r5, rfl⟩, v5, hB5, K5⟩; have HB5 := hideB hB5; have HK5 := hideB (BF.trans (BF.quiet b HK4.out) K5); clear hB5 K5)
            go_roundw
            case rel => exact ⟨1, _, by omega, by go_num, hideB (by rw [HN.out]; exact HB5.out), hideB (BF.trans KK.out HK5.out)⟩
            case measure => simp [intOf]
      · cases st
        · have hq : bits BinOp.and IntKind.u8 B (IntKind.u8.wrap 8) = 0 := HQ.out.2.1
          have HN : Hid (∀ X : List UInt8, X ++ mki fo false se 2 = (X ++ mki fo false se 1) ++ []) := hideB (fun X => (congrArg (X ++ ·) (mki_n1 _ _ _)).trans (List.append_assoc _ _ _).symm)
          go_wp2
          go_region_with (go_at_call 20; refine (CF _).out.mono ?_; rintro e W4 ⟨rfl, K4⟩; have HK4 := hideB ((Kept.drew wr).trans K4 (fun _ f => f.elim)); have HB4 := hideB (HB.out.later HK4.out); clear K4)
          all_goals
            go_wp2
            go_roundw
            case rel => exact ⟨2, _, by omega, by go_num, hideB (by rw [HN.out, List.append_nil]; exact HB4.out), hideB (BF.trans KK.out (BF.quiet b HK4.out))⟩
            case measure => simp [intOf]
        · have hq : bits BinOp.and IntKind.u8 B (IntKind.u8.wrap 8) = 8 := HQ.out.2.1
          have HN : Hid (∀ X : List UInt8, X ++ mki fo true se 2 = (X ++ mki fo true se 1) ++ mStop) := hideB (fun X => (congrArg (X ++ ·) (mki_n1 _ _ _)).trans (List.append_assoc _ _ _).symm)
          go_wp2
          go_region_with (go_at_call 20; refine (CF _).out.mono ?_; rintro e W4 ⟨rfl, K4⟩; have HK4 := hideB ((Kept.drew wr).trans K4 (fun _ f => f.elim)); have HB4 := hideB (HB.out.later HK4.out); clear K4)
          all_goals
            go_wp2_with (go_at_call 49; refine (wstr_any _ HB4.out (by have hz : (mki fo true se 1).length ≤ 20 := mki_len _ _ _ _; rw [List.length_append]; show _ + 5 ≤ _; omega)).mono ?_; rintro e W5 ⟨⟨r5, rfl⟩, v5, hB5, K5⟩; have HB5 := hideB hB5; have HK5 := hideB (BF.trans (BF.quiet b HK4.out) K5); clear hB5 K5)
            go_roundw
            case rel => exact ⟨2, _, by omega, by go_num, hideB (by rw [HN.out]; exact HB5.out), hideB (BF.trans KK.out HK5.out)⟩
            case measure => simp [intOf]
      · cases se
        · have hq : bits BinOp.and IntKind.u8 B (IntKind.u8.wrap 16) = 0 := HQ.out.2.2
          have HN : Hid (∀ X : List UInt8, X ++ mki fo st false 3 = (X ++ mki fo st false 2) ++ []) := hideB (fun X => (congrArg (X ++ ·) (mki_n2 _ _ _)).trans (List.append_assoc _ _ _).symm)
          go_wp2
          go_region_with (go_at_call 20; refine (CF _).out.mono ?_; rintro e W4 ⟨rfl, K4⟩; have HK4 := hideB ((Kept.drew wr).trans K4 (fun _ f => f.elim)); have HB4 := hideB (HB.out.later HK4.out); clear K4)
          all_goals
            go_wp2
            go_roundw
            case rel => exact ⟨3, _, by omega, by go_num, hideB (by rw [HN.out, List.append_nil]; exact HB4.out), hideB (BF.trans KK.out (BF.quiet b HK4.out))⟩
            case measure => simp [intOf]
        · have hq : bits BinOp.and IntKind.u8 B (IntKind.u8.wrap 16) = 16 := HQ.out.2.2
          have HN : Hid (∀ X : List UInt8, X ++ mki fo st true 3 = (X ++ mki fo st true 2) ++ mStem) := hideB (fun X => (congrArg (X ++ ·) (mki_n2 _ _ _)).trans (List.append_assoc _ _ _).symm)
          go_wp2
          go_region_with (go_at_call 20; refine (CF _).out.mono ?_; rintro e W4 ⟨rfl, K4⟩; have HK4 := hideB ((Kept.drew wr).trans K4 (fun _ f => f.elim)); have HB4 := hideB (HB.out.later HK4.out); clear K4)
          all_goals
            go_wp2_with (go_at_call 49; refine (wstr_any _ HB4.out (by have hz : (mki fo st true 2).length ≤ 20 := mki_len _ _ _ _; rw [List.length_append]; show _ + 5 ≤ _; omega)).mono ?_; rintro e W5 ⟨⟨r5, rfl⟩, v5, hB5, K5⟩; have HB5 := hideB hB5; have HK5 := hideB (BF.trans (BF.quiet b HK4.out) K5); clear hB5 K5)
            go_roundw
            case rel => exact ⟨3, _, by omega, by go_num, hideB (by rw [HN.out]; exact HB5.out), hideB (BF.trans KK.out HK5.out)⟩
            case measure => simp [intOf]
    · obtain rfl : i = 3 := by omega
      go_wp2
      go_end0
      have e0 := HL.out
      have e1 := HKW.out
      refine ⟨rfl, u, ?_, BF.trans KB3.out KK.out⟩
      have e2 : l ++ ftx ⟨n, k, fo, st, se⟩ = L ++ mki fo st se 3 := by
        rw [e0, e1, mki3]
        simp [ftx, bstr]
      rw [e2]
      exact HB.out
end Go.Proofs.YtbhoplmbiomogaaDoor
