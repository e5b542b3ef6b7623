import Derived.Test.YtnchamenhpppdaaDoorTrw
import Derived.Deep.AppendLies
import Derived.OwnWalk
namespace Go.Proofs.YtnchamenhpppdaaDoor
open Go.ChangeShapes Go.WideShapes Go.ChangeAt Go.RowKit

set_option maxRecDepth 20000 in
set_option maxHeartbeats 1000000 in
/-- The document's TermNumber. -/
theorem rnum_any (s : ByteArray) (w : World) (hs : s.size = 8) :
    Calls Tryd.prog 8 #[.string s] w fun e w' => e = .returned (.tuple #[.int .i64 ((bv s.data.toList : Int) - 9223372036854775808), .bool true]) ∧ w' = w := by
  go_enter Tryd.func8, Tryd.ntmps8
  go_wp2
  go_loopw [4, 5] (fun x i wr => ∃ k a : Nat, k ≤ 8 ∧ i = .int .i64 k ∧ x = .int .u64 a ∧ Hid (a = bv (s.data.toList.take k)) ∧ wr = w) (fun _ i _ => 8 - (intOf i).toNat)
  case atStart => exact ⟨0, 0, by omega, rfl, rfl, rfl, rfl⟩
  case round =>
    obtain ⟨k, a, hk, rfl, rfl, ha, rfl⟩ := hrel
    by_cases hlt : k < 8
    · have hlt' : k < s.size := by omega
      have h7 : a < 72057594037927936 := term_small s k a ha.out hlt
      have hc : s[k].toNat < 256 := s[k].toNat_lt
      have H := hideP (term_step s k a ha.out hlt')
      clear ha
      go_wp2
      go_roundw
      case rel => exact ⟨k + 1, a * 256 + s[k].toNat, by omega, by go_num, congrArg _ (by omega), H, trivial⟩
      case measure => simp [intOf]; omega
    · obtain rfl : k = 8 := by omega
      go_wp2
      go_ret2
      exact ⟨ret2_int (num_wrap s a ha.out hs), rfl⟩
theorem rnum_no (s : ByteArray) (w : World) (hs : s.size ≠ 8) :
    Calls Tryd.prog 8 #[.string s] w fun e w' => e = .returned (.tuple #[.int .i64 0, .bool false]) ∧ w' = w := by
  have hs' : ¬ (s.size : Int) = 8 := by omega
  go_enter Tryd.func8, Tryd.ntmps8
  go_wp2
  go_ret2
  exact ⟨rfl, rfl⟩

theorem Tryd.infoB5 : (Tryd.prog.info? 5).map (fun i => (i.zero, i.size, i.bytes)) = some (some (.int .u8 0), 1, 1) := by kernel_rfl
theorem one_new5 (w : World) (x : Value) (t : TypeId) : ∀ (j : Nat) (u : Value), [x][j]? = some u → (w.alloc (.cells #[x] t)).cell? ((⟨w.heap.size, 0, none⟩ : Addr).add j) = some u := by
  intro j u hj
  match j, hj with
  | 0, hj => simp at hj; subst hj; simp [Addr.add]
/-- A byte of a word. -/
def tbAt (n k : Nat) : Int := ((n / 256 ^ (7 - k) % 256 : Nat) : Int)
theorem tb_take (n k : Nat) (h : k < 8) : (tb n).take (k + 1) = (tb n).take k ++ [tbAt n k] := by
  have hk8 : k = 0 ∨ k = 1 ∨ k = 2 ∨ k = 3 ∨ k = 4 ∨ k = 5 ∨ k = 6 ∨ k = 7 := by omega
  rcases hk8 with rfl | rfl | rfl | rfl | rfl | rfl | rfl | rfl <;> simp [tb, tbAt]
theorem tb_take_len (n k : Nat) (h : k ≤ 8) : ((tb n).take k).length = k := by
  rw [List.length_take, show (tb n).length = 8 from rfl]; omega

theorem own_some {w : World} {base : Nat} {u : Value} {k n : Nat} (h : w.ownsRow base 5 1 u k (((tb n).take k).map (Value.int .u8))) (hk : k = 8) :
    ∃ g cap, u = .slice (some ⟨g, 0, none⟩) k cap ∧ ∀ i, i < k → w.cell? ⟨g, 0 + i, none⟩ = some (.int .u8 ((tb n).getD i 0)) := by
  subst hk
  have hc : ∀ g, u.ownBlock = some g → ∀ i, i < 8 → w.cell? ⟨g, 0 + i, none⟩ = some (.int .u8 ((tb n).getD i 0)) := by
    intro g hg i hi
    have := h.cells hg i (.int .u8 ((tb n).getD i 0)) (by
      have hk8 : i = 0 ∨ i = 1 ∨ i = 2 ∨ i = 3 ∨ i = 4 ∨ i = 5 ∨ i = 6 ∨ i = 7 := by omega
      rcases hk8 with rfl | rfl | rfl | rfl | rfl | rfl | rfl | rfl <;> rfl)
    have hplain : (⟨g, 0, none⟩ : Addr).add i = ⟨g, 0 + i, none⟩ := by unfold Addr.add; split <;> simp_all
    rwa [hplain] at this
  rcases h.2 with ⟨rfl, e⟩ | ⟨g, cap, cur, rfl, _⟩
  · simp at e
  · exact ⟨g, cap, rfl, hc g rfl⟩

set_option maxRecDepth 20000 in
set_option maxHeartbeats 1000000 in
/-- The document's NumberTerm. -/
theorem rterm_any (v : Int) (w : World) (h0 : -9223372036854775808 ≤ v) (h1 : v ≤ 9223372036854775807) :
    Calls Tryd.prog 10 #[.int .i64 v] w fun e w' => e = .returned (.string (tm (wd v))) ∧ Below w.heap.size w w' := by
  obtain ⟨i0, hi, hz0, hz1, hz2⟩ := info_parts Tryd.infoB5
  have e : IntKind.u64.wrap (IntKind.u64.wrap v + 9223372036854775808) = ((wd v : Nat) : Int) := by
    rw [IntKind.wrap_u64, IntKind.wrap_u64]; unfold wd; omega
  have hn := wd_lt v h1
  go_enter Tryd.func10, Tryd.ntmps10
  go_wp2
  clear e
  go_loopw [4, 5] (fun b i wr => ∃ (k : Nat), k ≤ 8 ∧ i = .int .i64 k ∧ wr.ownsRow w.heap.size 5 1 b k (((tb (wd v)).take k).map (Value.int .u8)) ∧ Below w.heap.size w wr) (fun _ i _ => 8 - (intOf i).toNat)
  case atStart => exact ⟨0, by omega, rfl, World.ownsRow_made w #[] 0 (Nat.le_refl _) (by decide) rfl, (Below.refl _ _).alloc (Nat.le_refl _) _⟩
  case round =>
    obtain ⟨k, hk, rfl, hown, hbel⟩ := hrel
    have hsz := hbel.size
    by_cases hlt : k < 8
    · have hk8 : k = 0 ∨ k = 1 ∨ k = 2 ∨ k = 3 ∨ k = 4 ∨ k = 5 ∨ k = 6 ∨ k = 7 := by omega
      rcases hk8 with rfl | rfl | rfl | rfl | rfl | rfl | rfl | rfl
      · go_wp2_with (first
          | (at_builtin; refine wpList_append_own _ rfl _ _ 26 rfl w.heap.size 5 i0 (.int .u8 0) 1 1 Tryd.underlying26 hi hz0 hz1 hz2 rfl (by decide) _ _ _ rfl (hown.alloc _) ⟨wr.heap.size, 0, none⟩ 1 1 [.int .u8 (↑(wd v) / 72057594037927936 % 256)] rfl rfl ?c01 ?c02 ?c03 ?c04 ?c05 ?_)
          | go_in)
        case c01 => exact one_new5 _ _ _
        case c02 => intro u hu; simp at hu; subst hu; rfl
        case c03 => unfold maxLen; omega
        case c04 => omega
        case c05 => simp; omega
        intro v' w1 hown' hgrow _
        have hB1 : Below w.heap.size w w1 := (hbel.alloc hsz _).grown hgrow (by simp; omega) (fun k hk => (hown.lt k hk).1)
        clear hgrow hown
        go_wp2
        go_roundw
        case rel => exact ⟨1, by omega, rfl, by rw [tb_take _ 0 (by omega)]; simpa [tbAt] using hown', hB1⟩
        case measure => simp [intOf]
      · go_wp2_with (first
          | (at_builtin; refine wpList_append_own _ rfl _ _ 26 rfl w.heap.size 5 i0 (.int .u8 0) 1 1 Tryd.underlying26 hi hz0 hz1 hz2 rfl (by decide) _ _ _ rfl (hown.alloc _) ⟨wr.heap.size, 0, none⟩ 1 1 [.int .u8 (↑(wd v) / 281474976710656 % 256)] rfl rfl ?c11 ?c12 ?c13 ?c14 ?c15 ?_)
          | go_in)
        case c11 => exact one_new5 _ _ _
        case c12 => intro u hu; simp at hu; subst hu; rfl
        case c13 => unfold maxLen; omega
        case c14 => omega
        case c15 => simp; omega
        intro v' w1 hown' hgrow _
        have hB1 : Below w.heap.size w w1 := (hbel.alloc hsz _).grown hgrow (by simp; omega) (fun k hk => (hown.lt k hk).1)
        clear hgrow hown
        go_wp2
        go_roundw
        case rel => exact ⟨2, by omega, rfl, by rw [tb_take _ 1 (by omega)]; simpa [tbAt] using hown', hB1⟩
        case measure => simp [intOf]
      · go_wp2_with (first
          | (at_builtin; refine wpList_append_own _ rfl _ _ 26 rfl w.heap.size 5 i0 (.int .u8 0) 1 1 Tryd.underlying26 hi hz0 hz1 hz2 rfl (by decide) _ _ _ rfl (hown.alloc _) ⟨wr.heap.size, 0, none⟩ 1 1 [.int .u8 (↑(wd v) / 1099511627776 % 256)] rfl rfl ?c21 ?c22 ?c23 ?c24 ?c25 ?_)
          | go_in)
        case c21 => exact one_new5 _ _ _
        case c22 => intro u hu; simp at hu; subst hu; rfl
        case c23 => unfold maxLen; omega
        case c24 => omega
        case c25 => simp; omega
        intro v' w1 hown' hgrow _
        have hB1 : Below w.heap.size w w1 := (hbel.alloc hsz _).grown hgrow (by simp; omega) (fun k hk => (hown.lt k hk).1)
        clear hgrow hown
        go_wp2
        go_roundw
        case rel => exact ⟨3, by omega, rfl, by rw [tb_take _ 2 (by omega)]; simpa [tbAt] using hown', hB1⟩
        case measure => simp [intOf]
      · go_wp2_with (first
          | (at_builtin; refine wpList_append_own _ rfl _ _ 26 rfl w.heap.size 5 i0 (.int .u8 0) 1 1 Tryd.underlying26 hi hz0 hz1 hz2 rfl (by decide) _ _ _ rfl (hown.alloc _) ⟨wr.heap.size, 0, none⟩ 1 1 [.int .u8 (↑(wd v) / 4294967296 % 256)] rfl rfl ?c31 ?c32 ?c33 ?c34 ?c35 ?_)
          | go_in)
        case c31 => exact one_new5 _ _ _
        case c32 => intro u hu; simp at hu; subst hu; rfl
        case c33 => unfold maxLen; omega
        case c34 => omega
        case c35 => simp; omega
        intro v' w1 hown' hgrow _
        have hB1 : Below w.heap.size w w1 := (hbel.alloc hsz _).grown hgrow (by simp; omega) (fun k hk => (hown.lt k hk).1)
        clear hgrow hown
        go_wp2
        go_roundw
        case rel => exact ⟨4, by omega, rfl, by rw [tb_take _ 3 (by omega)]; simpa [tbAt] using hown', hB1⟩
        case measure => simp [intOf]
      · go_wp2_with (first
          | (at_builtin; refine wpList_append_own _ rfl _ _ 26 rfl w.heap.size 5 i0 (.int .u8 0) 1 1 Tryd.underlying26 hi hz0 hz1 hz2 rfl (by decide) _ _ _ rfl (hown.alloc _) ⟨wr.heap.size, 0, none⟩ 1 1 [.int .u8 (↑(wd v) / 16777216 % 256)] rfl rfl ?c41 ?c42 ?c43 ?c44 ?c45 ?_)
          | go_in)
        case c41 => exact one_new5 _ _ _
        case c42 => intro u hu; simp at hu; subst hu; rfl
        case c43 => unfold maxLen; omega
        case c44 => omega
        case c45 => simp; omega
        intro v' w1 hown' hgrow _
        have hB1 : Below w.heap.size w w1 := (hbel.alloc hsz _).grown hgrow (by simp; omega) (fun k hk => (hown.lt k hk).1)
        clear hgrow hown
        go_wp2
        go_roundw
        case rel => exact ⟨5, by omega, rfl, by rw [tb_take _ 4 (by omega)]; simpa [tbAt] using hown', hB1⟩
        case measure => simp [intOf]
      · go_wp2_with (first
          | (at_builtin; refine wpList_append_own _ rfl _ _ 26 rfl w.heap.size 5 i0 (.int .u8 0) 1 1 Tryd.underlying26 hi hz0 hz1 hz2 rfl (by decide) _ _ _ rfl (hown.alloc _) ⟨wr.heap.size, 0, none⟩ 1 1 [.int .u8 (↑(wd v) / 65536 % 256)] rfl rfl ?c51 ?c52 ?c53 ?c54 ?c55 ?_)
          | go_in)
        case c51 => exact one_new5 _ _ _
        case c52 => intro u hu; simp at hu; subst hu; rfl
        case c53 => unfold maxLen; omega
        case c54 => omega
        case c55 => simp; omega
        intro v' w1 hown' hgrow _
        have hB1 : Below w.heap.size w w1 := (hbel.alloc hsz _).grown hgrow (by simp; omega) (fun k hk => (hown.lt k hk).1)
        clear hgrow hown
        go_wp2
        go_roundw
        case rel => exact ⟨6, by omega, rfl, by rw [tb_take _ 5 (by omega)]; simpa [tbAt] using hown', hB1⟩
        case measure => simp [intOf]
      · go_wp2_with (first
          | (at_builtin; refine wpList_append_own _ rfl _ _ 26 rfl w.heap.size 5 i0 (.int .u8 0) 1 1 Tryd.underlying26 hi hz0 hz1 hz2 rfl (by decide) _ _ _ rfl (hown.alloc _) ⟨wr.heap.size, 0, none⟩ 1 1 [.int .u8 (↑(wd v) / 256 % 256)] rfl rfl ?c61 ?c62 ?c63 ?c64 ?c65 ?_)
          | go_in)
        case c61 => exact one_new5 _ _ _
        case c62 => intro u hu; simp at hu; subst hu; rfl
        case c63 => unfold maxLen; omega
        case c64 => omega
        case c65 => simp; omega
        intro v' w1 hown' hgrow _
        have hB1 : Below w.heap.size w w1 := (hbel.alloc hsz _).grown hgrow (by simp; omega) (fun k hk => (hown.lt k hk).1)
        clear hgrow hown
        go_wp2
        go_roundw
        case rel => exact ⟨7, by omega, rfl, by rw [tb_take _ 6 (by omega)]; simpa [tbAt] using hown', hB1⟩
        case measure => simp [intOf]
      · go_wp2_with (first
          | (at_builtin; refine wpList_append_own _ rfl _ _ 26 rfl w.heap.size 5 i0 (.int .u8 0) 1 1 Tryd.underlying26 hi hz0 hz1 hz2 rfl (by decide) _ _ _ rfl (hown.alloc _) ⟨wr.heap.size, 0, none⟩ 1 1 [.int .u8 (↑(wd v) % 256)] rfl rfl ?c71 ?c72 ?c73 ?c74 ?c75 ?_)
          | go_in)
        case c71 => exact one_new5 _ _ _
        case c72 => intro u hu; simp at hu; subst hu; rfl
        case c73 => unfold maxLen; omega
        case c74 => omega
        case c75 => simp; omega
        intro v' w1 hown' hgrow _
        have hB1 : Below w.heap.size w w1 := (hbel.alloc hsz _).grown hgrow (by simp; omega) (fun k hk => (hown.lt k hk).1)
        clear hgrow hown
        go_wp2
        go_roundw
        case rel => exact ⟨8, by omega, rfl, by rw [tb_take _ 7 (by omega)]; simpa [tbAt] using hown', hB1⟩
        case measure => simp [intOf]
    · obtain rfl : k = 8 := by omega
      obtain ⟨g, cap, rfl, hcells⟩ := own_some hown (by decide)
      have hconv := run_convert_bytes_arg (P := Tryd.prog) wr 26 5 Tryd.underlying26 Tryd.underlying5 g 0 8 cap (tb (wd v)) rfl hcells 9 Tryd.underlying9
      clear hcells hown
      go_wp2
      go_ret
      exact ⟨rfl, hbel⟩
end Go.Proofs.YtnchamenhpppdaaDoor
