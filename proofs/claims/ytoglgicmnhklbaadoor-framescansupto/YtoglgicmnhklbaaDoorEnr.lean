import Derived.Test.YtoglgicmnhklbaaDoorApp
import Derived.Test.YtoglgicmnhklbaaDoorTab
import Derived.Deep.QuietTactic
import Derived.BigQuiet
import Derived.Laws.BytesArg
import Derived.Laws.BytesString
namespace Go.Proofs.YtoglgicmnhklbaaDoor
open Go.ChangeShapes Go.WideShapes Go.ChangeAt Go.RowKit

theorem OwnB.alloc {w W : World} {v : Value} {xs : List Int} (h : OwnB w W v xs) (o : Obj) : OwnB w (W.alloc o) v xs :=
  ⟨(Kept.alloc W o).row h.row (fun _ _ f => f), h.kept.trans (Kept.alloc W o) (fun _ f => f.elim)⟩
theorem OwnB.same {w W W' : World} {v : Value} {xs : List Int} (h : OwnB w W v xs) (k : Kept (fun _ => False) W W') : OwnB w W' v xs :=
  ⟨k.row h.row (fun _ _ f => f), h.kept.trans k (fun _ f => f.elim)⟩
theorem ownB_nil (w : World) : OwnB w w (.slice none 0 0) [] := ⟨⟨rfl, .inl ⟨rfl, rfl⟩⟩, Kept.refl _ _⟩
theorem ownB_lit (w : World) (l : List Int) (hl : l.length ≤ 1099511627776) : OwnB w (w.alloc (.cells (bs l).toArray 5)) (.slice (some ⟨w.heap.size, 0, none⟩) l.length l.length) l :=
  ⟨⟨by rw [bs_length]; omega, .inr ⟨w.heap.size, l.length, (bs l).toArray, rfl, Nat.le_refl _, heap_alloc_new w _, Nat.le_refl _, by unfold maxLen; omega, by simp [bs_length], by rw [List.toList_toArray, List.take_of_length_le (by rw [bs_length]; omega)]⟩⟩, Kept.alloc w _⟩
theorem OwnB.from {w w1 W : World} {v : Value} {xs : List Int} (h : OwnB w1 W v xs) (k : Kept (fun _ => False) w w1) : OwnB w W v xs := by
  refine ⟨⟨h.row.1, ?_⟩, k.trans h.kept (fun _ f => f.elim)⟩
  rcases h.row.2 with e | ⟨g, cap, cur, e, hb, r⟩
  · exact .inl e
  · exact .inr ⟨g, cap, cur, e, Nat.le_trans k.size hb, r⟩
set_option maxRecDepth 20000 in
set_option maxHeartbeats 1000000 in
theorem ruvarint_any (n : Nat) (w : World) (hn : n < 18446744073709551616) :
    Calls Tryd.prog 29 #[.int .u64 n] w fun e w' => ∃ a c, e = .returned (.slice a (uvb n).length c) ∧ OwnB w w' (.slice a (uvb n).length c) (uvb n) := by
  have hul := uvb_length n
  have hu10 := (ulen_le n (by omega)).2
  go_enter Tryd.func29, Tryd.ntmps29
  go_wp2
  go_loopw [0, 3] (fun v out wr => ∃ (m : Nat) (xs : List Int), m < 18446744073709551616 ∧ v = .int .u64 m ∧ Hid (uvb n = xs ++ uvb m) ∧ Hid (OwnB w wr out xs)) (fun v _ _ => (intOf v).toNat)
  case atStart => exact ⟨n, [], hn, rfl, rfl, ownB_nil w⟩
  case round =>
    obtain ⟨m, xs, hm, rfl, HU, HO⟩ := hrel
    have hxl : xs.length + (uvb m).length = (uvb n).length := by rw [HU.out, List.length_append]
    have hxl10 : xs.length ≤ 10 := by omega
    by_cases hb : 127 < m
    · have hu : uvb m = ((m : Int) % 128 + 128) :: uvb (m / 128) := by rw [uvb_big (by omega), Int.add_comm]
      have P1 := hideC (HO.out.alloc (.cells (bs [(m : Int) % 128 + 128]).toArray 5))
      have Q1 := hideC (built_bytes wr [(m : Int) % 128 + 128] (0, 0))
      have Z1 : Hid ((some ⟨wr.heap.size, 0, none⟩ : Option Addr) = none → 1 = 0) := fun e => nomatch e
      obtain ⟨ys, hys⟩ : ∃ ys, ys = xs ++ [(m : Int) % 128 + 128] := ⟨_, rfl⟩
      obtain ⟨ny, hny⟩ : ∃ ny, ny = ys.length := ⟨_, rfl⟩
      have hR : Hid (ys.length ≤ 140737488355328) := by show ys.length ≤ _; rw [hys, List.length_append, List.length_singleton]; omega
      have HU2 : Hid (uvb n = ys ++ uvb (m / 128)) := by show uvb n = _; rw [HU.out, hu, hys, List.append_assoc]; rfl
      have YS := hideC hys
      have NY := hideC hny
      have N1 : Hid (1 = [(m : Int) % 128 + 128].length) := rfl
      clear hys hny hu hxl hul hu10
      go_wp2_with (at_builtin; refine wpList_apn rfl _ _ rfl _ xs [(m : Int) % 128 + 128] ys 1 ny rfl (some ⟨wr.heap.size, 0, none⟩) 1 rfl N1 YS NY P1 Q1 Z1 hR ?_; intro a3 c3 W3 P2)
      go_roundw
      case rel => exact ⟨m / 128, ys, by omega, by go_num, HU2, P2⟩
      case measure => simp [intOf]; omega
    · have hu : uvb m = [(m : Int)] := uvb_small (by omega)
      have P1 := hideC (HO.out.alloc (.cells (bs [(m : Int)]).toArray 5))
      have Q1 := hideC (built_bytes wr [(m : Int)] (0, 0))
      have Z1 : Hid ((some ⟨wr.heap.size, 0, none⟩ : Option Addr) = none → 1 = 0) := fun e => nomatch e
      obtain ⟨ys, hys⟩ : ∃ ys, ys = uvb n := ⟨_, rfl⟩
      obtain ⟨ny, hny⟩ : ∃ ny, ny = ys.length := ⟨_, rfl⟩
      have hR : Hid (ys.length ≤ 140737488355328) := by show ys.length ≤ _; rw [hys]; omega
      have YS : Hid (ys = xs ++ [(m : Int)]) := by show ys = _; rw [hys, HU.out, hu]
      have HYS := hideC hys
      have NY := hideC hny
      have N1 : Hid (1 = [(m : Int)].length) := rfl
      clear hys hny hu hxl hul hu10
      go_wp2_with (at_builtin; refine wpList_apn rfl _ _ rfl _ xs [(m : Int)] ys 1 ny rfl (some ⟨wr.heap.size, 0, none⟩) 1 rfl N1 YS NY P1 Q1 Z1 hR ?_; intro a3 c3 W3 P2)
      go_ret
      refine ⟨a3, c3, ?_, ?_⟩
      · rw [← HYS.out, ← NY.out]; rfl
      · rw [← HYS.out, ← NY.out]; exact P2.out
theorem rword_any (v : Nat) (w : World) (hv : v < 4294967296) :
    Calls Tryd.prog 30 #[.int .u32 v] w fun e w' => e = .returned (.slice (some ⟨w.heap.size, 0, none⟩) 4 4) ∧ w' = w.alloc (.cells (bs (le 4 v)).toArray 5) := by
  have e4 : bs (le 4 v) = [.int .u8 ((v : Int) % 256), .int .u8 ((v : Int) / 256 % 256), .int .u8 ((v : Int) / 65536 % 256), .int .u8 ((v : Int) / 16777216)] := by
    show [Value.int .u8 ((v % 256 : Nat) : Int), .int .u8 ((v / 256 % 256 : Nat) : Int), .int .u8 ((v / 256 / 256 % 256 : Nat) : Int), .int .u8 ((v / 256 / 256 / 256 % 256 : Nat) : Int)] = _
    rw [show ((v % 256 : Nat) : Int) = (v : Int) % 256 by omega, show ((v / 256 % 256 : Nat) : Int) = (v : Int) / 256 % 256 by omega, show ((v / 256 / 256 % 256 : Nat) : Int) = (v : Int) / 65536 % 256 by omega, show ((v / 256 / 256 / 256 % 256 : Nat) : Int) = (v : Int) / 16777216 by omega]
  rw [e4]
  clear e4
  go_enter Tryd.func30, Tryd.ntmps30
  go_wp2
  go_ret
  exact ⟨rfl, rfl⟩
set_option maxRecDepth 20000 in
set_option maxHeartbeats 2000000 in
theorem rencode_any (tag : Nat) (l : List Int) (a : Option Addr) (c : Nat) (w : World) (ht : 0 < tag) (ht2 : tag < 256) (hB : BytesAt w a l) (hb : IsBytes l) (ha : a = none → c = 0) (hl : l.length ≤ 140737488351232) :
    Calls Tryd.prog 13 #[.int .u8 tag, .slice a l.length c] w fun e w' => ∃ a' c', e = .returned (.tuple #[.slice a' (benc tag l).length c', .int .i64 0]) ∧ OwnB w w' (.slice a' (benc tag l).length c') (benc tag l) := by
  have hul := (ulen_le l.length (by omega)).2
  have h3l := bhead_length tag l
  have h4l := benc_length tag l
  have h3b := bhead_bytes (tag := tag) (l := l) (by omega) (by omega) hb
  have O0 : Hid (OwnB w (w.alloc (.cells #[.int .u8 tag] 5)) (.slice (some ⟨w.heap.size, 0, none⟩) 1 1) [(tag : Int)]) := ownB_lit w [(tag : Int)] (by simp)
  obtain ⟨u, hu⟩ : ∃ u, u = uvb l.length := ⟨_, rfl⟩
  obtain ⟨nu, hnu⟩ : ∃ n, n = u.length := ⟨_, rfl⟩
  obtain ⟨y1, hy1⟩ : ∃ y, y = [(tag : Int)] ++ u := ⟨_, rfl⟩
  obtain ⟨n1, hn1⟩ : ∃ n, n = y1.length := ⟨_, rfl⟩
  obtain ⟨y2, hy2⟩ : ∃ y, y = bhead tag l := ⟨_, rfl⟩
  obtain ⟨n2, hn2⟩ : ∃ n, n = y2.length := ⟨_, rfl⟩
  obtain ⟨s2, hs2⟩ : ∃ s, s = ext 0 y2 := ⟨_, rfl⟩
  obtain ⟨y3, hy3⟩ : ∃ y, y = benc tag l := ⟨_, rfl⟩
  obtain ⟨n3, hn3⟩ : ∃ n, n = y3.length := ⟨_, rfl⟩
  obtain ⟨nl, hnl⟩ : ∃ n, n = l.length := ⟨_, rfl⟩
  have Y1 := hideC hy1
  have Y2 : Hid (y2 = y1 ++ l) := by show y2 = _; rw [hy2, hy1, hu]; rfl
  have Y3 : Hid (y3 = y2 ++ le 4 s2) := by show y3 = _; rw [hy3, hs2, hy2]; rfl
  have NU := hideC hnu
  have N1 := hideC hn1
  have N2 := hideC hn2
  have N3 := hideC hn3
  have NL := hideC hnl
  have N4 : Hid (4 = (le 4 s2).length) := by show 4 = _; rw [le_length]
  have L1 : Hid (y1.length ≤ 140737488355328) := by show y1.length ≤ _; rw [hy1, hu, List.length_append, List.length_singleton, uvb_length]; omega
  have L2 : Hid (y2.length ≤ 140737488355328) := by show y2.length ≤ _; rw [hy2]; omega
  have L3 : Hid (y3.length ≤ 140737488355328) := by show y3.length ≤ _; rw [hy3]; omega
  have UV : Hid (∀ W, Hid (OwnB w W (.slice (some ⟨w.heap.size, 0, none⟩) 1 1) [(tag : Int)]) → Calls Tryd.prog 29 #[.int .u64 nl] W fun e W' => ∃ a1 c1, e = .returned (.slice a1 nu c1) ∧ Hid (OwnB w W' (.slice (some ⟨w.heap.size, 0, none⟩) 1 1) [(tag : Int)]) ∧ Hid (BytesAt W' a1 u) ∧ Hid (a1 = none → c1 = 0)) := by
    intro W q
    rw [hnl]
    refine (ruvarint_any l.length W (by omega)).mono ?_
    rintro e W' ⟨a1, c1, rfl, ho⟩
    rw [hnu, hu]
    obtain ⟨a2, c2, e2, hb2, hz2⟩ := ho.at
    simp only [Value.slice.injEq] at e2
    obtain ⟨rfl, _, rfl⟩ := e2
    exact ⟨a1, c1, rfl, q.out.same ho.kept, hb2, hz2⟩
  have SM : Hid (∀ W a1 c1, Hid (OwnB w W (.slice a1 n2 c1) y2) → Calls Tryd.prog 31 #[.slice a1 n2 c1] W fun e W' => e = .returned (.int .u32 s2) ∧ W' = W) := by
    intro W a1 c1 q
    obtain ⟨a2, c2, e2, hb2, hz2⟩ := q.out.at
    simp only [Value.slice.injEq] at e2
    obtain ⟨rfl, _, rfl⟩ := e2
    rw [hn2, hs2]
    exact rsum_any y2 a1 c1 W hb2 (by rw [hy2]; exact h3b) (by rw [hy2]; omega)
  have WD : Hid (∀ W, Calls Tryd.prog 30 #[.int .u32 s2] W fun e W' => e = .returned (.slice (some ⟨W.heap.size, 0, none⟩) 4 4) ∧ W' = W.alloc (.cells (bs (le 4 s2)).toArray 5)) := fun W => rword_any s2 W (by rw [hs2]; exact ext_lt _ _)
  have HB := hideC hB
  have HA := hideC ha
  have Z0 : ∀ g : Nat, Hid ((some ⟨g, 0, none⟩ : Option Addr) = none → 4 = 0) := fun g e => nomatch e
  rw [← hy3, ← hn3]
  rw [← hnl] at hl ⊢
  clear hu hnu hy1 hn1 hy2 hn2 hs2 hy3 hn3 hnl h3l h4l h3b hB hb ha hul
  go_enter Tryd.func13, Tryd.ntmps13
  go_wp2_with (first
    | (go_at_call 29; refine (UV.out _ O0).mono ?_; rintro e W1 ⟨a1, c1, rfl, O1, B1, Z1⟩)
    | (at_builtin; refine wpList_apn rfl _ _ rfl _ [(tag : Int)] u y1 nu n1 rfl a1 c1 rfl NU Y1 N1 O1 B1 Z1 L1 ?_; clear O1; intro a2 c2 W2 O2; have B2 := hideC (bytes_keptF HB.out O2.out.kept))
    | (at_builtin; refine wpList_apn rfl _ _ rfl _ y1 l y2 nl n2 rfl a c rfl NL Y2 N2 O2 B2 HA L2 ?_; clear O2; intro a3 c3 W3 O3)
    | (go_at_call 31; refine (SM.out W3 a3 c3 O3).mono ?_; rintro e W3 ⟨rfl, e2⟩; subst e2)
    | (go_at_call 30; refine (WD.out W3).mono ?_; rintro e W4 ⟨rfl, e4⟩; subst e4; have O4 := hideC (O3.out.alloc (.cells (bs (le 4 s2)).toArray 5)); have B4 := hideC (built_bytes W3 (le 4 s2) (0, 0)))
    | (at_builtin; refine wpList_apn rfl _ _ rfl _ y2 (le 4 s2) y3 4 n3 rfl (some ⟨W3.heap.size, 0, none⟩) 4 rfl N4 Y3 N3 O4 B4 (Z0 _) L3 ?_; clear O4; intro a5 c5 W5 O5))
  go_ret2
  exact ⟨a5, c5, rfl, O5.out⟩
theorem rencode_zero (v : Value) (w : World) :
    Calls Tryd.prog 13 #[.int .u8 0, v] w fun e w' => e = .returned (.tuple #[.slice none 0 0, .int .i64 6]) ∧ w' = w := by
  go_enter Tryd.func13, Tryd.ntmps13
  go_wp2
  go_ret2
  exact ⟨rfl, rfl⟩
theorem encode_zero (v : Value) (a5 : Addr) (w : World) (g5 : w.cell? ⟨0, 0, none⟩ = some (.iface 98 (.pointer (some a5)))) :
    Calls Tryd.prog 12 #[.int .u8 0, v] w fun e w' => e = .returned (.tuple #[.slice none 0 0, .iface 98 (.pointer (some a5))]) ∧ ∃ n, w' = w.drewN n := by
  go_enter Tryd.func12, Tryd.ntmps12
  go_wp2
  go_quiet (fail)
  go_wp2
  go_ret2
  exact ⟨rfl, _, rfl⟩
theorem conv_atF {W : World} {a : Option Addr} {B : List Int} {c : Nat} (h : BytesAt W a B) : (convert 22 9 (.slice a B.length c)).run Tryd.prog W = .ok (.string (strOfNums B)) W := by
  by_cases hne : B = []
  · subst hne
    cases a with
    | none => exact run_convert_bytes_nil W 22 5 Tryd.underlying22 Tryd.underlying5 0 c 9 Tryd.underlying9
    | some ad =>
      have hl : (loadCells ad 0).run Tryd.prog W = .ok (([] : List Int).map (Value.int .u8)).toArray W := by
        have := run_loadCells_list (P := Tryd.prog) W ad [] (fun j v hj => by simp at hj)
        simpa using this
      show (convert 22 9 (.slice (some ad) 0 c)).run Tryd.prog W = _
      rw [run_convert_bytes_string W 22 9 5 _ 0 c Tryd.underlying22 Tryd.underlying5 Tryd.underlying9, run_bytesToString W _ 0 c [] hl]
      rfl
  · obtain ⟨b, off, rfl, hc⟩ := h hne
    refine run_convert_bytes_arg W 22 5 Tryd.underlying22 Tryd.underlying5 b off B.length c B rfl (fun i hi => ?_) 9 Tryd.underlying9
    simpa [List.getD] using hc i hi
end Go.Proofs.YtoglgicmnhklbaaDoor
