import Derived.Test.YtbhoplmbiomogaaDoorGmw
import Derived.Test.YtbhoplmbiomogaaDoorSbm
namespace Go.Proofs.YtbhoplmbiomogaaDoor
open Go.ChangeShapes Go.WideShapes Go.ChangeAt Go.RowKit

def gpV (p : Nat) : Except Nat (Nat × Nat) → Value
  | .ok (x, k) => .tuple #[.int .i64 x, .int .i64 ((p + k : Nat) : Int), .int .i64 0]
  | .error e => .tuple #[.int .i64 0, .int .i64 p, .int .i64 ((e + 1 : Nat) : Int)]
def gtV (p : Nat) : Except Nat (List Int × Nat) → Value
  | .ok (t, q) => .tuple #[.string (strOfNums t), .int .i64 q, .int .i64 0]
  | .error e => .tuple #[.string ⟨#[]⟩, .int .i64 p, .int .i64 ((e + 1 : Nat) : Int)]
theorem gt_ok {p q : Nat} {R : Except Nat (List Int × Nat)} {t : List Int} {T : ByteArray} {z : Int} (h : R = .ok (t, q)) (hT : T = strOfNums t) (hz : z = (q : Int)) : Ending.returned (.tuple #[.string T, .int .i64 z, .int .i64 0]) = .returned (gtV p R) := by rw [h, hT, hz]; rfl
set_option maxRecDepth 20000 in
set_option maxHeartbeats 4000000 in
theorem rgetp_any (most : Nat) (l : List Int) (a : Option Addr) (n c p : Nat) (w : World) (hn : n = l.length) (hB : BytesAt w a l) (hI : IsBytes l) (hp : p ≤ l.length) (hl : l.length ≤ 140737488355328) (hm : most ≤ 32) :
    Calls Tryd.prog 28 #[.slice a n c, .int .i64 p, .int .i64 (most : Nat)] w fun e w' => e = .returned (gpV p (rup most l p)) ∧ w' = w := by
  have CU := hideD (rgetu_any l a n c p w hn hB hI hp hl)
  have hm0 : ¬ ((most : Nat) : Int) < 0 := by omega
  have hmw : IntKind.u64.wrap ((most : Nat) : Int) = ((most : Nat) : Int) := by rw [IntKind.wrap_u64]; omega
  cases hr : rdu 0 0 (l.drop p) with
  | error er =>
    have HX : Hid (rup most l p = .error er) := hideD (by rw [rup, hr])
    have he := rdu_err _ _ _ _ hr
    rw [hr] at CU
    simp only [guV] at CU
    have g1 : (((er + 1 : Nat) : Int) != 0) = true := by rw [bne, show (((er + 1 : Nat) : Int) == 0) = false from by rw [beq_eq_false_iff_ne]; omega]; rfl
    obtain ⟨E, hE⟩ : ∃ E : Int, E = ((er + 1 : Nat) : Int) := ⟨_, rfl⟩
    rw [← hE] at CU g1
    have HEe := hideD hE
    clear hr hE he hB hI hn hp hl
    go_enter Tryd.func28, Tryd.ntmps28
    go_wp2_with (go_at_call 45; refine CU.out.mono ?_; clear CU; rintro e W1 ⟨rfl, rfl⟩)
    go_ret3
    exact ⟨by rw [HX.out, HEe.out]; rfl, rfl⟩
  | ok xk =>
    obtain ⟨x, k⟩ := xk
    have hxl := rdu_lt (l.drop p) 0 0 x k (by omega) (by decide) (fun y hy => hI y (List.mem_of_mem_drop hy)) hr
    have hkl := rdu_le _ _ _ _ _ hr
    rw [List.length_drop] at hkl
    rw [hr] at CU
    simp only [guV] at CU
    by_cases hx : x ≤ most
    · have HX : Hid (rup most l p = .ok (x, k)) := hideD (by rw [rup, hr]; simp only [if_pos hx])
      have g1 : decide (((most : Nat) : Int) < (x : Int)) = false := decide_eq_false (by omega)
      have g2 : decide (most < x) = false := decide_eq_false (by omega)
      have g3 : IntKind.i64.wrap (x : Int) = (x : Int) := by rw [IntKind.wrap_i64]; omega
      generalize hpk : ((p + k : Nat) : Int) = pk at *
      have HPK := hideD hpk
      clear hr hkl hB hI hn hp hl hpk
      go_enter Tryd.func28, Tryd.ntmps28
      go_wp2_with (go_at_call 45; refine CU.out.mono ?_; clear CU; rintro e W1 ⟨rfl, rfl⟩)
      go_ret3
      exact ⟨by rw [HX.out, ← HPK.out]; rfl, rfl⟩
    · have HX : Hid (rup most l p = .error 2) := hideD (by rw [rup, hr]; simp only [if_neg hx])
      have g1 : decide (((most : Nat) : Int) < (x : Int)) = true := decide_eq_true (by omega)
      have g2 : decide (most < x) = true := decide_eq_true (by omega)
      generalize ((p + k : Nat) : Int) = pk at *
      clear hr hkl hB hI hn hp hl
      go_enter Tryd.func28, Tryd.ntmps28
      go_wp2_with (go_at_call 45; refine CU.out.mono ?_; clear CU; rintro e W1 ⟨rfl, rfl⟩)
      go_ret3
      exact ⟨by rw [HX.out]; rfl, rfl⟩
set_option maxRecDepth 20000 in
set_option maxHeartbeats 4000000 in
theorem rgett_any (l : List Int) (a : Option Addr) (n c p : Nat) (w : World) (hn : n = l.length) (hB : BytesAt w a l) (hI : IsBytes l) (hp : p ≤ l.length) (hl : l.length ≤ 140737488355328) (hc : n ≤ c) :
    Calls Tryd.prog 29 #[.slice a n c, .int .i64 p, .int .i64 32] w fun e w' => e = .returned (gtV p (rtx l p)) ∧ w' = w := by
  have CU := hideD (rgetp_any 32 l a n c p w hn hB hI hp hl (by omega))
  cases hr : rup 32 l p with
  | error er =>
    have HX : Hid (rtx l p = .error er) := hideD (by rw [rtx, hr])
    rw [hr] at CU
    simp only [gpV] at CU
    have g1 : (((er + 1 : Nat) : Int) != 0) = true := by rw [bne, show (((er + 1 : Nat) : Int) == 0) = false from by rw [beq_eq_false_iff_ne]; omega]; rfl
    obtain ⟨E, hE⟩ : ∃ E : Int, E = ((er + 1 : Nat) : Int) := ⟨_, rfl⟩
    rw [← hE] at CU g1
    have HEe := hideD hE
    clear hr hE hB hI hn hp hl hc
    go_enter Tryd.func29, Tryd.ntmps29
    go_wp2_with (go_at_call 28; refine CU.out.mono ?_; clear CU; rintro e W1 ⟨rfl, rfl⟩)
    go_ret3
    exact ⟨by rw [HX.out, HEe.out]; rfl, rfl⟩
  | ok xk =>
    obtain ⟨x, k⟩ := xk
    have hx := rup_ok hr
    have hkl := rdu_le _ _ _ _ _ hx.1
    rw [List.length_drop] at hkl
    rw [hr] at CU
    simp only [gpV] at CU
    obtain ⟨q, hq⟩ : ∃ q, q = p + k := ⟨_, rfl⟩
    rw [← hq] at CU
    have hqn : q ≤ n := by omega
    have hnb : n ≤ 140737488355328 := by omega
    have s1 : IntKind.i64.wrap ((n : Int) - (q : Int)) = (n : Int) - (q : Int) := by rw [IntKind.wrap_i64]; omega
    by_cases hle : q + x ≤ n
    · have HX : Hid (rtx l p = .ok ((l.drop q).take x, q + x)) := hideD (by rw [rtx, hr, hq]; simp only [if_pos (show p + k + x ≤ l.length by omega)])
      obtain ⟨b, off, rfl, hcell⟩ := hB (by intro e; rw [e] at hkl; simp at hkl; omega)
      have hBc := BytesAt.cut (w := w) hcell (show q + x ≤ l.length by omega)
      have htl : ((l.drop q).take x).length = x := by rw [List.length_take, List.length_drop]; omega
      obtain ⟨T, hT⟩ : ∃ T, T = strOfNums ((l.drop q).take x) := ⟨_, rfl⟩
      have cv : ∀ c', (convert 25 9 (.slice (some ⟨b, off + q, none⟩) x c')).run Tryd.prog w = .ok (.string T) w := fun c' => by
        have := conv_atB (c := c') hBc
        rw [htl, ← hT] at this
        exact this
      have HTe := hideD hT
      have s2 : IntKind.i64.wrap ((q : Int) + (x : Int)) = (q : Int) + (x : Int) := by rw [IntKind.wrap_i64]; omega
      have g1 : decide ((n : Int) - (q : Int) < (x : Int)) = false := decide_eq_false (by omega)
      have g2 : ¬ (n : Int) - (q : Int) < (x : Int) := by omega
      have s3 : (q : Int) ≤ (q : Int) + (x : Int) := by omega
      have s4 : (q : Int) + (x : Int) ≤ (c : Int) := by omega
      have s5 : q ≤ q + x := by omega
      have s6 : q + x ≤ c := by omega
      have HQX : Hid (((q + x : Nat) : Int) = (q : Int) + (x : Int)) := hideD (by omega)
      have cv0 : x = 0 → ∀ (ad : Addr) c', (convert 25 9 (.slice (some ad) 0 c')).run Tryd.prog w = .ok (.string T) w := fun h0 ad c' => by
        have := conv_atB (c := c') (W := w) (a := some ad) (B := []) (fun h => absurd rfl h)
        rw [hT, h0, List.take_zero]
        exact this
      clear hr hx hkl hcell hBc htl hT hI hp hl hn hq
      by_cases hx0 : x = 0
      · subst hx0
        have cv1 := cv0 rfl
        clear cv0 cv
        go_enter Tryd.func29, Tryd.ntmps29
        go_wp2_with (go_at_call 28; refine CU.out.mono ?_; clear CU; rintro e W1 ⟨rfl, rfl⟩)
        all_goals go_ret3
        all_goals exact ⟨gt_ok HX.out HTe.out (by have := HQX.out; omega), rfl⟩
      · have nq1 : ¬ q = c := by omega
        have nq2 : ¬ (q : Int) = (c : Int) := by omega
        clear cv0
        go_enter Tryd.func29, Tryd.ntmps29
        go_wp2_with (go_at_call 28; refine CU.out.mono ?_; clear CU; rintro e W1 ⟨rfl, rfl⟩)
        go_ret3
        exact ⟨gt_ok HX.out HTe.out (by have := HQX.out; omega), rfl⟩
    · have HX : Hid (rtx l p = .error 0) := hideD (by rw [rtx, hr]; simp only [if_neg (show ¬ p + k + x ≤ l.length by omega)])
      have g1 : decide ((n : Int) - (q : Int) < (x : Int)) = true := decide_eq_true (by omega)
      have g2 : (n : Int) - (q : Int) < (x : Int) := by omega
      clear hr hx hkl hI hp hl hn hq hB
      go_enter Tryd.func29, Tryd.ntmps29
      go_wp2_with (go_at_call 28; refine CU.out.mono ?_; clear CU; rintro e W1 ⟨rfl, rfl⟩)
      go_ret3
      exact ⟨by rw [HX.out]; rfl, rfl⟩
set_option maxRecDepth 20000 in
theorem rgetb_ok (l : List Int) (a : Option Addr) (n c p : Nat) (w : World) (hn : n = l.length) (hB : BytesAt w a l) (hp : p < l.length) (hl : l.length ≤ 140737488355328) :
    Calls Tryd.prog 30 #[.slice a n c, .int .i64 p] w fun e w' => e = .returned (.tuple #[.int .u8 (l[p]?.getD 0), .int .i64 ((p : Int) + 1), .int .i64 0]) ∧ w' = w := by
  obtain ⟨b, off, rfl, hcell⟩ := hB (by intro e; rw [e] at hp; simp at hp)
  have xc := hcell p hp
  have s1 : IntKind.i64.wrap ((p : Int) + 1) = (p : Int) + 1 := by rw [IntKind.wrap_i64]; omega
  have s2 : ¬ (n : Int) ≤ (p : Int) := by omega
  have s3 : (p : Int) < (n : Int) := by omega
  have s4 : decide ((n : Int) ≤ (p : Int)) = false := decide_eq_false s2
  have s5 : decide (n ≤ p) = false := decide_eq_false (by omega)
  generalize l[p]?.getD 0 = d at *
  clear hcell hB hn hl hp
  go_enter Tryd.func30, Tryd.ntmps30
  go_wp2
  go_ret3
  exact ⟨rfl, rfl⟩
set_option maxRecDepth 20000 in
theorem rgetb_end (a : Option Addr) (n c : Nat) (w : World) :
    Calls Tryd.prog 30 #[.slice a n c, .int .i64 n] w fun e w' => e = .returned (.tuple #[.int .u8 0, .int .i64 n, .int .i64 1]) ∧ w' = w := by
  go_enter Tryd.func30, Tryd.ntmps30
  go_wp2
  go_ret3
  exact ⟨rfl, rfl⟩
end Go.Proofs.YtbhoplmbiomogaaDoor
