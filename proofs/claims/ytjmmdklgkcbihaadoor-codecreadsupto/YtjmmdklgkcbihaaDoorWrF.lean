import Derived.Test.YtjmmdklgkcbihaaDoorLive
import Derived.Lib.AppendStr
import Derived.Maps.AppendAt
import Derived.Laws.AppendOwnNone
namespace Go.Proofs.YtjmmdklgkcbihaaDoor
open Go.ChangeShapes Go.WideShapes Go.ChangeAt Go.RowKit

/-- What 'w.held = append(w.held, ..)' does, whatever the new value. -/
theorem wr_put {w w0 w1 : World} {bw : Nat} {v v' : Value} {xs news : List Int} (h : Wr w bw v xs) (k0 : Kept (fun _ => False) w w0)
    (hown : w1.ownsRow 0 5 1 v' (xs.length + news.length) (bs xs ++ bs news))
    (hgrow : w0.grownBy w1 v.ownBlock) (hat : v'.ownBlock = v.ownBlock ∨ v'.ownBlock = some w0.heap.size) :
    w1.cell? ⟨bw, 0, none⟩ = some v ∧ w1.frozen? ⟨bw, 0, none⟩ = false ∧ Wr (w1.setCell ⟨bw, 0, none⟩ v') bw v' (xs ++ news) ∧ WStep w (w1.setCell ⟨bw, 0, none⟩ v') bw v v' := by
  have k1 : Kept (fun k => v.ownBlock = some k) w w1 := k0.mono (fun _ h => h.elim) |>.trans (Kept.grown hgrow) (fun i hi => .inl hi)
  have hb : w1.heap[bw]? = some (.cells #[v] 70 (0, 0)) := k1.heap h.blk h.ne
  have hne : v'.ownBlock ≠ some bw := by
    rcases hat with e | e
    · rw [e]; exact h.ne
    · rw [e]; intro x; have := h.lt; have := k0.size; simp at x; omega
  refine ⟨cell_of_one hb, free_of_one hb, ⟨one_setCell hb, ?_⟩, ?_, ?_⟩
  · rw [List.length_append, bs_append]
    exact ownsRow_setCell_other hown hne _
  · exact (k1.mono (fun i hi => .inl (.inr hi))).trans (Kept.setCell _ _ _) (fun i hi => .inl (.inl hi))
  · intro k hk
    rcases hat with e | e
    · exact .inl (by rw [← e]; exact hk)
    · right; rw [e] at hk; have := k0.size; simp at hk; omega
theorem own_slice {w : World} {b e z n : Nat} {u : Value} {xs : List Value} (h : w.ownsRow b e z u n xs) : ∃ a c, u = .slice a n c := by
  obtain ⟨_, ⟨rfl, rfl⟩ | ⟨g, cap, cur, rfl, _⟩⟩ := h
  · exact ⟨_, _, rfl⟩
  · exact ⟨_, _, rfl⟩

theorem zig_any (v : Int) (w : World) (h0 : -9223372036854775808 ≤ v) (h1 : v ≤ 9223372036854775807) :
    Calls Tryd.prog 65 #[.int .i64 v] w fun e w' => e = .returned (.int .u64 (zig v)) ∧ w = w' := by
  go_enter Tryd.func65, Tryd.ntmps65
  go_wp2
  go_ret
  exact ⟨ret_int (zig_bits v h0 h1), rfl⟩
theorem zag_any (v : Int) (w : World) (h0 : 0 ≤ v) (h1 : v ≤ 18446744073709551615) :
    Calls Tryd.prog 79 #[.int .u64 v] w fun e w' => e = .returned (.int .i64 (zag v)) ∧ w = w' := by
  go_enter Tryd.func79, Tryd.ntmps79
  go_wp2
  go_ret
  exact ⟨ret_int (zag_bits v h0 h1), rfl⟩
theorem wvar_any (bw : Nat) (v : Value) (xs : List Int) (x : Int) (w : World) (h : Wr w bw v xs) (h0 : -9223372036854775808 ≤ x) (h1 : x ≤ 9223372036854775807) (hr : xs.length + 10 ≤ 140737488355328) :
    Calls Tryd.prog 32 #[.pointer (some ⟨bw, 0, none⟩), .int .i64 x] w fun e w' => e = .returned (.tuple #[]) ∧ ∃ v', Wr w' bw v' (xs ++ uvb (zig x).toNat) ∧ WStep w w' bw v v' := by
  have hz := zig_bd x h0 h1
  obtain ⟨n, hn⟩ : ∃ n : Nat, zig x = n := ⟨(zig x).toNat, by omega⟩
  have c1 := zig_any x w h0 h1
  rw [hn] at c1 hz ⊢
  have HH := hide h
  clear h hn
  go_enter Tryd.func32, Tryd.ntmps32
  go_wp2_with (first
    | (go_at_call 65; refine c1.mono ?_; rintro e w' ⟨rfl, rfl⟩)
    | (go_at_call 27; refine (wuv_any bw v xs n _ HH.out (by omega) hr).mono ?_; rintro e w2 ⟨rfl, v2, hW2, hS2⟩))
  go_end0
  exact ⟨rfl, v2, by simpa using hW2, hS2⟩

set_option maxRecDepth 20000 in
set_option maxHeartbeats 1000000 in
theorem word_any (bw : Nat) (v : Value) (xs : List Int) (x sz : Nat) (w : World) (h : Wr w bw v xs) (hx : x < 18446744073709551616) (hs : sz ≤ 8) (hr : xs.length + 8 ≤ 140737488355328) :
    Calls Tryd.prog 67 #[.pointer (some ⟨bw, 0, none⟩), .int .u64 x, .int .i64 sz] w fun e w' => e = .returned (.tuple #[]) ∧ ∃ v', Wr w' bw v' (xs ++ le sz x) ∧ WStep w w' bw v v' := by
  obtain ⟨i0, hi, hz0, hz1, hz2⟩ := info_parts Tryd.infoB
  have HH := hide h
  clear h
  go_enter Tryd.func67, Tryd.ntmps67
  go_wp2
  go_loopw [1, 7] (fun u i wr => ∃ (k : Nat) (v1 : Value), k ≤ sz ∧ i = .int .i64 k ∧ u = .int .u64 ((x / 256 ^ k : Nat) : Int) ∧ Wr wr bw v1 (xs ++ le k x) ∧ WStep w wr bw v v1) (fun _ i _ => sz - (intOf i).toNat)
  case atStart => exact ⟨0, v, Nat.zero_le _, rfl, by simp, by rw [le, List.append_nil]; exact HH.out, WStep.refl _ _ _⟩
  case round =>
    obtain ⟨k, v1, hk, rfl, rfl, hW, hS⟩ := hrel
    have HW := hide hW
    have HS := hide hS
    clear hW hS
    by_cases hlt : k < sz
    · have hy : x / 256 ^ k < 18446744073709551616 := Nat.lt_of_le_of_lt (Nat.div_le_self _ _) hx
      obtain ⟨y, hyy⟩ : ∃ y, y = x / 256 ^ k := ⟨_, rfl⟩
      rw [← hyy] at hy ⊢
      have HY := hide hyy
      have hrm : (xs ++ le k x).length + 1 ≤ 140737488355328 := by rw [List.length_append, le_length]; omega
      obtain ⟨ys, hys⟩ : ∃ ys, ys = xs ++ le k x := ⟨_, rfl⟩
      rw [← hys] at hrm HW
      have HYS := hide hys
      clear hyy hys
      have hc := HW.out.cell
      have hown := HW.out.own
      go_wp2_with (at_builtin; refine wpList_append_lies _ rfl _ _ 26 rfl 0 5 i0 (.int .u8 0) 1 1 Tryd.underlying26 hi hz0 hz1 hz2 rfl (by decide) _ _ _ rfl (hown.alloc _) ⟨wr.heap.size, 0, none⟩ 1 1 (bs [(y : Int) % 256]) rfl rfl ?c1 ?c2 ?c3 ?c4 ?c5 ?c6 _ rfl ?_)
      case c1 => exact one_new _ _ _
      case c2 => exact bs_one _
      case c3 => decide
      case c4 => unfold maxLen; omega
      case c5 => omega
      case c6 => omega
      · intro g cap w1 hown1 hgrow hat _
        obtain ⟨q1, q2, q3, q4⟩ := wr_grown (news := [(y : Int) % 256]) HW.out (Kept.alloc _ _) hown1 hgrow (hat.imp id (fun e => by omega))
        clear hown1 hgrow hat hown
        have Q3 := hide q3
        have Q4 := hide q4
        clear q3 q4
        go_wp2
        go_roundw
        case rel =>
          refine ⟨k + 1, _, by omega, by go_num, ?_, ?_, HS.out.trans Q4.out⟩
          · congr 1
            rw [Nat.pow_succ, ← Nat.div_div_eq_div_mul, ← HY.out]
            omega
          · rw [le_snoc, ← List.append_assoc, ← HYS.out, ← HY.out]
            have e : ((y % 256 : Nat) : Int) = (y : Int) % 256 := by omega
            rw [e]
            exact Q3.out
        case measure => simp [intOf]; omega
    · obtain rfl : k = sz := by omega
      clear hlt hk
      go_wp2
      go_end0
      exact ⟨rfl, v1, HW.out, HS.out⟩
theorem w32_any (bw : Nat) (v : Value) (xs : List Int) (x : Nat) (w : World) (h : Wr w bw v xs) (hx : x < 4294967296) (hr : xs.length + 8 ≤ 140737488355328) :
    Calls Tryd.prog 34 #[.pointer (some ⟨bw, 0, none⟩), .int .u32 x] w fun e w' => e = .returned (.tuple #[]) ∧ ∃ v', Wr w' bw v' (xs ++ le 4 x) ∧ WStep w w' bw v v' := by
  have c1 := word_any bw v xs x 4 w h (by omega) (by decide) hr
  have C1 : Hid (Calls Tryd.prog 67 #[.pointer (some ⟨bw, 0, none⟩), .int .u64 x, .int .i64 4] w fun e w' => e = .returned (.tuple #[]) ∧ ∃ v', Wr w' bw v' (xs ++ le 4 x) ∧ WStep w w' bw v v') := c1
  clear c1 h
  go_enter Tryd.func34, Tryd.ntmps34
  go_wp2_with (go_at_call 67; refine C1.out.mono ?_; rintro e w2 ⟨rfl, v2, hW2, hS2⟩)
  go_end0
  exact ⟨rfl, v2, hW2, hS2⟩
theorem w64_any (bw : Nat) (v : Value) (xs : List Int) (x : Nat) (w : World) (h : Wr w bw v xs) (hx : x < 18446744073709551616) (hr : xs.length + 8 ≤ 140737488355328) :
    Calls Tryd.prog 36 #[.pointer (some ⟨bw, 0, none⟩), .int .u64 x] w fun e w' => e = .returned (.tuple #[]) ∧ ∃ v', Wr w' bw v' (xs ++ le 8 x) ∧ WStep w w' bw v v' := by
  have c1 := word_any bw v xs x 8 w h hx (by decide) hr
  have C1 : Hid (Calls Tryd.prog 67 #[.pointer (some ⟨bw, 0, none⟩), .int .u64 x, .int .i64 8] w fun e w' => e = .returned (.tuple #[]) ∧ ∃ v', Wr w' bw v' (xs ++ le 8 x) ∧ WStep w w' bw v v') := c1
  clear c1 h
  go_enter Tryd.func36, Tryd.ntmps36
  go_wp2_with (go_at_call 67; refine C1.out.mono ?_; rintro e w2 ⟨rfl, v2, hW2, hS2⟩)
  go_end0
  exact ⟨rfl, v2, hW2, hS2⟩
end Go.Proofs.YtjmmdklgkcbihaaDoor
