import Derived.Test.YtjmmdklgkcbihaaDoorKwa
import Derived.Test.YtjmmdklgkcbihaaDoorWrG
namespace Go.Proofs.YtjmmdklgkcbihaaDoor
open Go.ChangeShapes Go.WideShapes Go.ChangeAt Go.RowKit

/-- The document's zigzag form. -/
theorem dzig_anyK (v : Int) (w : World) (h0 : -9223372036854775808 ≤ v) (h1 : v ≤ 9223372036854775807) :
    Calls Tryd.prog 66 #[.int .i64 v] w fun e w' => e = .returned (.int .u64 (zig v)) ∧ w = w' := by
  go_enter Tryd.func66, Tryd.ntmps66
  go_wp2
  all_goals go_ret
  · exact ⟨ret_int (by unfold zig; rw [if_pos (by assumption)]), rfl⟩
  · exact ⟨ret_int (by unfold zig; rw [if_neg (by omega)]; omega), rfl⟩
set_option maxRecDepth 20000 in
set_option maxHeartbeats 2000000 in
/-- The document's Varint. -/
theorem dvar_anyK (v : Int) (w : World) (h0 : -9223372036854775808 ≤ v) (h1 : v ≤ 9223372036854775807) :
    Calls Tryd.prog 33 #[.int .i64 v] w fun e w' => ∃ g c, e = .returned (.slice (some ⟨g, 0, none⟩) (uvb (zig v).toNat).length c) ∧ GroK w w' 5 1 (.slice (some ⟨g, 0, none⟩) (uvb (zig v).toNat).length c) (uvb (zig v).toNat).length (bs (uvb (zig v).toNat)) := by
  have hz := zig_bd v h0 h1
  have CZ := hideH (dzig_anyK v w h0 h1)
  obtain ⟨n, hn⟩ : ∃ n : Nat, zig v = n := ⟨(zig v).toNat, by omega⟩
  rw [hn] at CZ hz ⊢
  rw [Int.toNat_natCast]
  have CU := hideH (duv_anyK n w (by omega))
  generalize uvb n = U at *
  go_enter Tryd.func33, Tryd.ntmps33
  go_wp2_with (first
    | (go_at_call 66; refine CZ.out.mono ?_; clear CZ; rintro e w' ⟨rfl, rfl⟩)
    | (go_at_call 31; refine CU.out.mono ?_; clear CU; rintro e W1 ⟨g, c, rfl, hG⟩; have HG := hideH hG; clear hG))
  go_ret
  exact ⟨g, c, rfl, HG.out⟩
set_option maxRecDepth 20000 in
set_option maxHeartbeats 4000000 in
/-- The document's Word. -/
theorem dword_anyK (V n : Nat) (w : World) (hV : V < 18446744073709551616) (hn : n ≤ 8) :
    Calls Tryd.prog 35 #[.int .u64 V, .int .i64 n] w fun e w' => ∃ v, e = .returned v ∧ GroK w w' 5 1 v n (bs (le n V)) := by
  have HG0 := hideH (gro_emptyK w w 5 1 (Kept.refl _ _))
  go_enter Tryd.func35, Tryd.ntmps35
  go_wp2_with fail
  go_loopw [0, 5, 6] (fun v0 v5 v6 wr => ∃ (i m : Nat) (va : Value) (zs : List Int), v0 = .int .u64 m ∧ v5 = va ∧ v6 = .int .i64 i ∧ i ≤ n ∧ m < 18446744073709551616 ∧ Hid (zs.length = i) ∧ Hid (GroK w wr 5 1 va i (bs zs)) ∧ Hid (zs ++ le (n - i) m = le n V)) (fun _ _ v6 _ => n - (intOf v6).toNat)
  case atStart => exact ⟨0, V, _, [], rfl, rfl, rfl, by omega, hV, hideH rfl, HG0, hideH rfl⟩
  case round =>
    obtain ⟨i, m, va, zs, rfl, rfl, rfl, hi, hm, HZ, HG, HF⟩ := hrel
    clear HG0
    by_cases hlt : i < n
    · have i1 : (i : Int) < (n : Int) := by omega
      obtain ⟨r, hr⟩ : ∃ r, r = m % 256 := ⟨_, rfl⟩
      obtain ⟨q, hq⟩ : ∃ q, q = m / 256 := ⟨_, rfl⟩
      have e1 : (m : Int).tmod 256 = (r : Int) := by rw [Int.tmod_eq_emod_of_nonneg (by omega)]; omega
      have e2 : (m : Int).tdiv 256 = (q : Int) := by rw [Int.tdiv_eq_ediv_of_nonneg (by omega)]; omega
      have e3 : (m : Int) % 256 = (r : Int) := by omega
      have e4 : (m : Int) / 256 = (q : Int) := by omega
      have hr2 : r < 256 := by omega
      have hqm : q ≤ m := by omega
      have HF2 : Hid ((zs ++ [(r : Int)]) ++ le (n - (i + 1)) q = le n V) := hideH (by
        have e5 : n - i = (n - (i + 1)) + 1 := by omega
        rw [← HF.out, e5, le, ← hr, ← hq, List.append_assoc]
        rfl)
      have w1 : IntKind.u8.wrap (r : Int) = (r : Int) := by rw [IntKind.wrap_u8]; omega
      clear HF hr hq
      go_wp2_with (at_builtin; refine StpH.go ?_)
      refine ⟨?_⟩
      refine wpList_pushZK rfl (.tmp 13) (.tmp 17) rfl _ i zs (r : Int) rfl HG _ rfl rfl (by omega) ?_
      intro g7 c7 W7 HG7 _
      go_wp2
      go_roundw
      case rel => exact ⟨i + 1, q, _, zs ++ [(r : Int)], rfl, rfl, by go_num, by omega, by omega, hideH (by rw [List.length_append, HZ.out]; rfl), HG7, HF2⟩
      case measure => simp [intOf]; omega
    · obtain rfl : i = n := by omega
      have i1 : ¬ (i : Int) < (i : Int) := by omega
      rw [Nat.sub_self, le, List.append_nil] at HF
      go_wp2
      go_ret
      exact ⟨_, rfl, by rw [← HF.out]; exact HG.out⟩
set_option maxRecDepth 20000 in
set_option maxHeartbeats 4000000 in
/-- The document's Text. -/
theorem dtext_anyK (s : ByteArray) (w : World) (hs : s.size ≤ 70368744177664) :
    Calls Tryd.prog 38 #[.string s] w fun e w' => ∃ v, e = .returned v ∧ GroK w w' 5 1 v (uvb s.size ++ sb s).length (bs (uvb s.size ++ sb s)) := by
  obtain ⟨i0, hi, hz0, hz1, hz2⟩ := info_parts Tryd.infoB
  have CU := hideH (duv_anyK s.size w (by omega))
  have hul := uvb_le10K s.size (by omega)
  have h4 : IntKind.u64.wrap (s.size : Int) = (s.size : Int) := by rw [IntKind.wrap_u64]; omega
  have HB : Hid (bs (uvb s.size ++ sb s) = bs (uvb s.size) ++ Lib.strCells s ∧ (uvb s.size ++ sb s).length = (uvb s.size).length + s.size) := hideH (by
    exact ⟨by rw [sb_cells, bs_append], by rw [List.length_append, sb_length]⟩)
  generalize uvb s.size = U at *
  go_enter Tryd.func38, Tryd.ntmps38
  go_wp2_with (first
    | (go_at_call 31; refine CU.out.mono ?_; clear CU; rintro e W1 ⟨g1, c1, rfl, G1⟩; have HG1 := hideH G1; clear G1)
    | (at_builtin; refine Lib.wpList_append_own_string _ rfl _ _ 26 9 rfl w.heap.size 5 i0 Tryd.underlying26 Tryd.underlying9 hi hz0 hz1 hz2 _ U.length _ rfl HG1.out.own s rfl (by unfold maxLen; omega) (by omega) HG1.out.kept.size ?_; intro v' W' ho hg _; have HG2 : Hid (GroK w W' 5 1 v' (U.length + s.size) (bs U ++ Lib.strCells s)) := hideH ⟨ho, HG1.out.kept.trans (Kept.grown hg) (fun i hi => .inr (HG1.out.own.lt i hi).1)⟩; clear ho hg))
  go_ret
  refine ⟨_, rfl, ?_⟩
  rw [HB.out.1, HB.out.2]
  exact HG2.out
end Go.Proofs.YtjmmdklgkcbihaaDoor
