import Derived.Test.YtoglgicmnhklbaaDoorRnm
namespace Go.Proofs.YtoglgicmnhklbaaDoor
open Go.ChangeShapes Go.WideShapes Go.ChangeAt Go.RowKit

set_option maxRecDepth 20000 in
set_option maxHeartbeats 4000000 in
theorem rnum_any (l : List Int) (a : Option Addr) (n c : Nat) (w : World) (hn : n = l.length) (hB : BytesAt w a l) (hb : IsBytes l) (hl : l.length ≤ 281474976710656) :
    Calls Tryd.prog 34 #[.slice a n c] w fun e w' => e = .returned (numV (rdu 0 0 (l.take 10))) ∧ w' = w := by
  have hnb : n ≤ 281474976710656 := by omega
  have HN := hideC hn
  have HC : Hid (∀ k, k < n → ∃ b off d : Nat, a = some ⟨b, off, none⟩ ∧ w.cell? ⟨b, off + k, none⟩ = some (.int .u8 (d : Int)) ∧ l[k]?.getD 0 = (d : Int) ∧ d < 256) := by
    intro k hk
    obtain ⟨b, off, e, hc⟩ := hB (by intro e; rw [e] at hn; simp at hn; omega)
    obtain ⟨d, h1, h2, _⟩ := hb.at (show k < l.length by omega)
    exact ⟨b, off, d, e, by rw [← h1]; exact hc k (by omega), h1, h2⟩
  obtain ⟨R, hR⟩ : ∃ R, R = rdu 0 0 (l.take 10) := ⟨_, rfl⟩
  have HE : Hid (∀ i d : Nat, i ≤ 9 → i < n → l[i]?.getD 0 = (d : Int) → (∀ x ∈ l.take i, 128 ≤ x) → R = if i = 9 ∧ 1 < d then .error 1 else if d < 128 then (if d = 0 ∧ 0 < i then .error 1 else .ok (lo (l.take (i + 1)), i + 1)) else rdu (i + 1) (lo (l.take (i + 1))) ((l.take 10).drop (i + 1))) := by
    intro i d h1 h2 h3 h4
    rw [hR]
    exact rdu_end h1 (by omega) h3 h4
  have HO : Hid (n ≤ 9 → (∀ x ∈ l.take n, 128 ≤ x) → R = .error 0) := by
    intro h1 h2
    rw [hn, List.take_length] at h2
    rw [hR]
    exact rdu_out (by omega) h2
  have HS : Hid (∀ i d : Nat, i < n → l[i]?.getD 0 = (d : Int) → 128 ≤ d → (∀ x ∈ l.take i, 128 ≤ x) → ∀ x ∈ l.take (i + 1), 128 ≤ x) := by
    intro i d h1 h2 h3 h4 x hx
    have hil : i < l.length := by omega
    rw [List.take_succ_eq_append_getElem hil] at hx
    rcases List.mem_append.1 hx with h | h
    · exact h4 x h
    · rw [List.getElem?_eq_getElem hil] at h2
      have : l[i] = (d : Int) := h2
      rw [this, List.mem_singleton] at h
      omega
  have HL : Hid (∀ i d : Nat, i ≤ 9 → i < n → l[i]?.getD 0 = (d : Int) → (i = 9 → d ≤ 1) → lo (l.take (i + 1)) < 18446744073709551616) := by
    intro i d h1 h2 h3 h4
    have hil : i < l.length := by omega
    have hg : l[i] = (d : Int) := by rw [List.getElem?_eq_getElem hil] at h3; exact h3
    have hli : (l.take i).length = i := by rw [List.length_take]; omega
    have q := lo_lt (l.take i)
    rw [hli] at q
    rw [List.take_succ_eq_append_getElem hil, hg, lo_append, hli, lo_cons, lo_nil, Int.toNat_natCast, Nat.mul_zero, Nat.add_zero]
    by_cases h9 : i = 9
    · subst h9
      have := h4 rfl
      have h5 : d % 128 ≤ 1 := by omega
      have h6 : 2 ^ (7 * 9) * (d % 128) ≤ 2 ^ (7 * 9) * 1 := Nat.mul_le_mul_left _ h5
      omega
    · have h7 : 2 ^ (7 * i) ≤ 2 ^ 56 := Nat.pow_le_pow_right (by omega) (by omega)
      have h8 : 2 ^ (7 * i) * (d % 128) ≤ 2 ^ (7 * i) * 127 := Nat.mul_le_mul_left _ (by omega)
      omega
  have HD : Hid (∀ m q d : Nat, q < m → m ≤ n → l[q]?.getD 0 = (d : Int) → lo ((l.take m).drop q) = d % 128 + 128 * lo ((l.take m).drop (q + 1))) := by
    intro m q d h1 h2 h3
    have hql : q < l.length := by omega
    have hqm : q < (l.take m).length := by rw [List.length_take]; omega
    have hg : l[q] = (d : Int) := by rw [List.getElem?_eq_getElem hql] at h3; exact h3
    rw [List.drop_eq_getElem_cons hqm, List.getElem_take, hg, lo_cons, Int.toNat_natCast]
  rw [← hR]
  clear hn hB hb hl hR
  go_enter Tryd.func34, Tryd.ntmps34
  go_wp2
  go_loopw [5] (fun v wr => ∃ m i : Nat, m = i + 1 ∧ i ≤ 9 ∧ i ≤ n ∧ v = .int .i64 (m : Int) ∧ Hid (∀ x ∈ l.take i, 128 ≤ x) ∧ w = wr) (fun v _ => 11 - (intOf v).toNat)
  case atStart => exact ⟨1, 0, rfl, by omega, by omega, rfl, (fun x hx => by simp at hx), rfl⟩
  case round =>
    obtain ⟨m, i, hm, hi9, hin, rfl, HA, rfl⟩ := hrel
    by_cases hb : i < n
    · obtain ⟨b, off, d, rfl, hc, hd, hd2⟩ := HC.out i hb
      have f1 : (m : Int) - 1 = (i : Int) := by omega
      have f2 : (m : Int) ≤ (n : Int) := by omega
      have f3 : (m : Int) ≤ 10 := by omega
      have HR := hideC (HE.out i d hi9 hb hd HA.out)
      by_cases hgo : 128 ≤ d ∧ m < 10
      · have HA2 := hideC (HS.out i d hb hd hgo.1 HA.out)
        have g1 : (128 : Int) ≤ (d : Int) := by omega
        have g2 : (m : Int) < 10 := by omega
        have g3 := hgo.2
        clear HR hd hgo
        go_wp2
        go_roundw
        case rel => exact ⟨m + 1, i + 1, by omega, by omega, by omega, by go_num, HA2, by trivial⟩
        case measure => simp [intOf] <;> omega
      · have HLi : (i = 9 → d ≤ 1) → lo (l.take m) < 18446744073709551616 := by rw [hm]; exact HL.out i d hi9 hb hd
        by_cases he : (i = 9 ∧ 1 < d) ∨ (d = 0 ∧ 0 < i)
        · have HR2 : Hid (R = .error 1) := by
            show R = _
            rw [HR.out]
            rcases he with h | h
            · rw [if_pos h]
            · rw [if_neg (by omega), if_pos (by omega), if_pos h]
          clear HR HLi HL HE HO HS HD
          by_cases h9 : i = 9
          · subst h9
            obtain rfl : m = 10 := hm
            by_cases hd1 : 1 < d
            · have g1 : (1 : Int) < (d : Int) := by omega
              clear hgo he
              go_wp2
              all_goals
                go_ret3
                exact ⟨by rw [HR2.out]; rfl, rfl⟩
            · obtain rfl : d = 0 := by omega
              clear hgo he
              go_wp2
              go_ret3
              exact ⟨by rw [HR2.out]; rfl, rfl⟩
          · obtain rfl : d = 0 := by omega
            have g1 : (1 : Int) < (m : Int) := by omega
            have g2 : ¬ (m : Int) = 10 := by omega
            have g3 : (m : Int) < 10 := by omega
            clear hgo he hm
            go_wp2
            go_ret3
            exact ⟨by rw [HR2.out]; rfl, rfl⟩
        · have HR2 : Hid (R = .ok (lo (l.take m), m)) := by
            show R = _
            rw [HR.out, if_neg (by omega), if_pos (by omega), if_neg (by omega), hm]
          have HX := hideC (HLi (by omega))
          have hmn : m ≤ n := by omega
          clear HR HLi HL HE HO HS
          by_cases h9 : i = 9
          · have hm10 : m = 10 := by omega
            obtain rfl : d = 1 := by omega
            subst h9
            subst hm10
            clear hgo he
            go_wp2
            go_loopw [6, 7] (fun v k wr => ∃ (x : Nat) (z : Int), -1 ≤ z ∧ z < 10 ∧ v = .int .u64 (x : Int) ∧ k = .int .i64 z ∧ Hid (x = lo ((l.take 10).drop (z + 1).toNat)) ∧ w = wr) (fun _ k _ => (intOf k + 1).toNat)
            case atStart =>
              refine ⟨0, (9 : Int), by omega, by omega, rfl, by first | rfl | go_num, ?_, rfl⟩
              show 0 = _
              rw [show ((9 : Int) + 1).toNat = 10 by omega, List.drop_of_length_le (by rw [List.length_take]; omega), lo_nil]
            case round =>
              obtain ⟨x, z, hz1, hz2, rfl, rfl, HZ, rfl⟩ := hrel
              by_cases hz : 0 ≤ z
              · obtain ⟨q, rfl⟩ : ∃ q : Nat, z = q := ⟨z.toNat, by omega⟩
                have hqn : q < n := by omega
                obtain ⟨b2, off2, d2, e2, hc2, hd3, hd4⟩ := HC.out q hqn
                simp only [Option.some.injEq, Addr.mk.injEq, and_true] at e2
                obtain ⟨rfl, rfl⟩ := e2
                have hq1 := HD.out 10 q d2 (by omega) hmn hd3
                have hq2 := lo_drop (l.take 10) q
                have hq3 := HX.out
                have hz0 : x = lo ((l.take 10).drop (q + 1)) := by rw [HZ.out, show ((q : Int) + 1).toNat = q + 1 by omega]
                have HN2 : Hid (x * 128 + d2 % 128 = lo ((l.take 10).drop (((q : Int) - 1) + 1).toNat)) := by
                  show _ = _
                  rw [show (((q : Int) - 1) + 1).toNat = q by omega, hq1, hz0]
                  omega
                have hxb : x * 128 + d2 % 128 < 18446744073709551616 := by rw [← hz0] at hq1; omega
                have hqI : (q : Int) < (n : Int) := by omega
                clear hq1 hq2 hq3 hz0 hd3 HZ
                go_wp2
                go_roundw
                case rel => exact ⟨x * 128 + d2 % 128, (q : Int) - 1, by omega, by omega, by go_num, by go_num, HN2, by trivial⟩
                case measure => simp [intOf] <;> omega
              · obtain rfl : z = -1 := by omega
                have hx : x = lo (l.take 10) := by rw [HZ.out]; rfl
                clear HZ
                go_wp2
                go_ret3
                exact ⟨by rw [HR2.out]; first | rfl | (rw [hm]; rfl), rfl⟩
          · have g2 : ¬ (m : Int) = 10 := by omega
            have g3 : (m : Int) < 10 := by omega
            have g4 : ¬ ((128 : Int) ≤ (d : Int)) := by omega
            by_cases hm1 : m = 1
            · obtain rfl : i = 0 := by omega
              subst hm1
              rw [Nat.add_zero] at hc
              have g6 : (1 : Int) ≤ (n : Int) := by omega
              clear hgo he f1 f2 f3 g2 g3 hm hin hi9 h9
              go_wp2
              go_loopw [6, 7] (fun v k wr => ∃ (x : Nat) (z : Int), -1 ≤ z ∧ z < 1 ∧ v = .int .u64 (x : Int) ∧ k = .int .i64 z ∧ Hid (x = lo ((l.take 1).drop (z + 1).toNat)) ∧ w = wr) (fun _ k _ => (intOf k + 1).toNat)
              case atStart =>
                refine ⟨0, (0 : Int), by omega, by omega, rfl, by first | rfl | go_num, ?_, rfl⟩
                show 0 = _
                rw [show ((0 : Int) + 1).toNat = 1 by omega, List.drop_of_length_le (by rw [List.length_take]; omega), lo_nil]
              case round =>
                obtain ⟨x, z, hz1, hz2, rfl, rfl, HZ, rfl⟩ := hrel
                by_cases hz : 0 ≤ z
                · obtain ⟨q, rfl⟩ : ∃ q : Nat, z = q := ⟨z.toNat, by omega⟩
                  have hqn : q < n := by omega
                  obtain ⟨b2, off2, d2, e2, hc2, hd3, hd4⟩ := HC.out q hqn
                  simp only [Option.some.injEq, Addr.mk.injEq, and_true] at e2
                  obtain ⟨rfl, rfl⟩ := e2
                  have hq1 := HD.out 1 q d2 (by omega) hmn hd3
                  have hq2 := lo_drop (l.take 1) q
                  have hq3 := HX.out
                  have hz0 : x = lo ((l.take 1).drop (q + 1)) := by rw [HZ.out, show ((q : Int) + 1).toNat = q + 1 by omega]
                  have HN2 : Hid (x * 128 + d2 % 128 = lo ((l.take 1).drop (((q : Int) - 1) + 1).toNat)) := by
                    show _ = _
                    rw [show (((q : Int) - 1) + 1).toNat = q by omega, hq1, hz0]
                    omega
                  have hxb : x * 128 + d2 % 128 < 18446744073709551616 := by rw [← hz0] at hq1; omega
                  have hqI : (q : Int) < (n : Int) := by omega
                  clear hq1 hq2 hq3 hz0 hd3 HZ
                  go_wp2
                  go_roundw
                  case rel => exact ⟨x * 128 + d2 % 128, (q : Int) - 1, by omega, by omega, by go_num, by go_num, HN2, by trivial⟩
                  case measure => simp [intOf] <;> omega
                · obtain rfl : z = -1 := by omega
                  have hx : x = lo (l.take 1) := by rw [HZ.out]; rfl
                  clear HZ
                  go_wp2
                  go_ret3
                  exact ⟨by rw [HR2.out]; first | rfl | (rw [hm]; rfl), rfl⟩
            · have g1 : (1 : Int) < (m : Int) := by omega
              have g5 : ¬ (d : Int) = 0 := by omega
              clear hgo he
              go_wp2
              go_loopw [6, 7] (fun v k wr => ∃ (x : Nat) (z : Int), -1 ≤ z ∧ z < (m : Int) ∧ v = .int .u64 (x : Int) ∧ k = .int .i64 z ∧ Hid (x = lo ((l.take m).drop (z + 1).toNat)) ∧ w = wr) (fun _ k _ => (intOf k + 1).toNat)
              case atStart =>
                refine ⟨0, (i : Int), by omega, by omega, rfl, by first | rfl | go_num, ?_, rfl⟩
                show 0 = _
                rw [show ((i : Int) + 1).toNat = m by omega, List.drop_of_length_le (by rw [List.length_take]; omega), lo_nil]
              case round =>
                obtain ⟨x, z, hz1, hz2, rfl, rfl, HZ, rfl⟩ := hrel
                by_cases hz : 0 ≤ z
                · obtain ⟨q, rfl⟩ : ∃ q : Nat, z = q := ⟨z.toNat, by omega⟩
                  have hqn : q < n := by omega
                  obtain ⟨b2, off2, d2, e2, hc2, hd3, hd4⟩ := HC.out q hqn
                  simp only [Option.some.injEq, Addr.mk.injEq, and_true] at e2
                  obtain ⟨rfl, rfl⟩ := e2
                  have hq1 := HD.out m q d2 (by omega) hmn hd3
                  have hq2 := lo_drop (l.take m) q
                  have hq3 := HX.out
                  have hz0 : x = lo ((l.take m).drop (q + 1)) := by rw [HZ.out, show ((q : Int) + 1).toNat = q + 1 by omega]
                  have HN2 : Hid (x * 128 + d2 % 128 = lo ((l.take m).drop (((q : Int) - 1) + 1).toNat)) := by
                    show _ = _
                    rw [show (((q : Int) - 1) + 1).toNat = q by omega, hq1, hz0]
                    omega
                  have hxb : x * 128 + d2 % 128 < 18446744073709551616 := by rw [← hz0] at hq1; omega
                  have hqI : (q : Int) < (n : Int) := by omega
                  clear hq1 hq2 hq3 hz0 hd3 HZ
                  go_wp2
                  go_roundw
                  case rel => exact ⟨x * 128 + d2 % 128, (q : Int) - 1, by omega, by omega, by go_num, by go_num, HN2, by trivial⟩
                  case measure => simp [intOf] <;> omega
                · obtain rfl : z = -1 := by omega
                  have hx : x = lo (l.take m) := by rw [HZ.out]; rfl
                  clear HZ
                  go_wp2
                  go_ret3
                  exact ⟨by rw [HR2.out]; first | rfl | (rw [hm]; rfl), rfl⟩
    · obtain rfl : i = n := by omega
      have HR2 := hideC (HO.out hi9 HA.out)
      have f1 : ¬ ((m : Int) ≤ (i : Int)) := by omega
      clear HL HE HO HS HD
      go_wp2
      go_ret3
      exact ⟨by rw [HR2.out]; rfl, rfl⟩
end Go.Proofs.YtoglgicmnhklbaaDoor
