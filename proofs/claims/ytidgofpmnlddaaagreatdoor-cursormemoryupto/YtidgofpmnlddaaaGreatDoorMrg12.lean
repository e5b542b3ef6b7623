import Derived.Test.YtidgofpmnlddaaaGreatDoorMrg4
namespace Go.Proofs.YtidgofpmnlddaaaGreatDoor
open Go.ChangeShapes Go.WideShapes Go.ChangeAt Go.RowKit

/-- The low sevens of bytes, the first lowest. -/
def loB : List Int → Nat
  | [] => 0
  | c :: r => c.toNat % 128 + 128 * loB r
theorem loB_append (A B : List Int) : loB (A ++ B) = loB A + 2 ^ (7 * A.length) * loB B := by
  induction A with
  | nil => simp [loB]
  | cons c r ih =>
    rw [List.cons_append, loB, loB, ih, List.length_cons, show 7 * (r.length + 1) = 7 + 7 * r.length by omega, Nat.pow_add, Nat.mul_add]
    have : 2 ^ 7 * 2 ^ (7 * r.length) * loB B = 128 * (2 ^ (7 * r.length) * loB B) := by rw [Nat.mul_assoc]
    omega
theorem loB_drop (A : List Int) (k : Nat) : loB (A.drop k) ≤ loB A := by
  induction k generalizing A with
  | zero => simp
  | succ k ih =>
    cases A with
    | nil => simp
    | cons c r =>
      rw [List.drop_succ_cons, loB]
      have := ih r
      omega
theorem loB_one (A : List Int) (c : Int) : loB (A ++ [c]) = loB A + c.toNat % 128 * 2 ^ (7 * A.length) := by
  rw [loB_append, loB, loB, Nat.mul_zero, Nat.add_zero, Nat.mul_comm]
/-- How far the reading has come: i bytes, all of them 128 and more. -/
structure Fau (L : List Int) (i : Nat) : Prop where
  eq : rdu 0 0 L = rdu i (loB (L.take i)) (L.drop i)
  le : i ≤ 9
  il : i ≤ L.length
theorem fau_0 (L : List Int) : Fau L 0 := ⟨by simp [loB], by omega, by omega⟩
theorem fau_end {L : List Int} {i : Nat} (h : Fau L i) (hi : L.length ≤ i) : rdu 0 0 L = .error 0 := by
  rw [h.eq, List.drop_of_length_le hi, rdu]
theorem fau_at {L : List Int} {i c : Nat} (h : Fau L i) (hi : i < L.length) (hc : L[i] = (c : Int)) :
    rdu 0 0 L = if i = 9 ∧ 1 < c then .error 1 else if c < 128 then (if c = 0 ∧ 0 < i then .error 1 else .ok (loB (L.take (i + 1)), i + 1)) else rdu (i + 1) (loB (L.take (i + 1))) (L.drop (i + 1)) := by
  have e1 : loB (L.take (i + 1)) = loB (L.take i) + c % 128 * 2 ^ (7 * i) := by
    rw [List.take_succ_eq_append_getElem hi, hc, loB_one, Int.toNat_natCast, List.length_take, Nat.min_eq_left (by omega)]
  rw [h.eq, List.drop_eq_getElem_cons hi, hc, rdu, e1, Int.toNat_natCast]
  have k1 : (i = 9 ∧ 1 < (c : Int)) ↔ (i = 9 ∧ 1 < c) := by omega
  have k2 : ((c : Int) < 128) ↔ c < 128 := by omega
  have k3 : ((c : Int) = 0 ∧ 0 < i) ↔ (c = 0 ∧ 0 < i) := by omega
  simp only [k1, k2, k3]
theorem fau_next {L : List Int} {i c : Nat} (h : Fau L i) (hi : i < L.length) (hc : L[i] = (c : Int)) (h1 : ¬ (i = 9 ∧ 1 < c)) (h2 : ¬ c < 128) : Fau L (i + 1) := by
  have := h.le
  refine ⟨?_, by omega, by omega⟩
  rw [fau_at h hi hc, if_neg h1, if_neg h2]
theorem loB_step {L : List Int} {n q c : Nat} (hq : q < n) (hn : n ≤ L.length) (hc : L[q]? = some (c : Int)) : loB ((L.take n).drop q) = c % 128 + 128 * loB ((L.take n).drop (q + 1)) := by
  have hqn : q < (L.take n).length := by rw [List.length_take]; omega
  have e : (L.take n)[q] = (c : Int) := by
    rw [List.getElem_take]
    rw [List.getElem?_eq_getElem (by omega)] at hc
    exact Option.some.inj hc
  rw [List.drop_eq_getElem_cons hqn, e, loB, Int.toNat_natCast]
theorem loB_all {L : List Int} {n : Nat} : loB ((L.take n).drop n) = 0 := by
  rw [List.drop_of_length_le (by rw [List.length_take]; omega)]; rfl
end Go.Proofs.YtidgofpmnlddaaaGreatDoor
namespace Go.Proofs.YtidgofpmnlddaaaGreatDoor
open Go.ChangeShapes Go.WideShapes Go.ChangeAt Go.RowKit

def guV (p : Nat) : Except Nat (Nat × Nat) → Value
  | .ok (x, k) => .tuple #[.int .u64 x, .int .i64 ((p + k : Nat) : Int), .int .i64 0]
  | .error e => .tuple #[.int .u64 0, .int .i64 p, .int .i64 ((e + 1 : Nat) : Int)]
theorem gu_err {p er : Nat} {R : Except Nat (Nat × Nat)} {y z : Int} (h : R = .error er) (hy : y = p) (hz : z = ((er + 1 : Nat) : Int)) : Ending.returned (.tuple #[.int .u64 0, .int .i64 y, .int .i64 z]) = .returned (guV p R) := by rw [h, hy, hz]; rfl
theorem gu_ok {p x k : Nat} {R : Except Nat (Nat × Nat)} {y z : Int} (h : R = .ok (x, k)) (hy : y = x) (hz : z = ((p + k : Nat) : Int)) : Ending.returned (.tuple #[.int .u64 y, .int .i64 z, .int .i64 0]) = .returned (guV p R) := by rw [h, hy, hz]; rfl
set_option maxRecDepth 20000 in
set_option maxHeartbeats 8000000 in
theorem rgetu_any (l : List Int) (a : Option Addr) (n c p : Nat) (w : World) (hn : n = l.length) (hB : BytesAt w a l) (hI : IsBytes l) (hp : p ≤ l.length) (hl : l.length ≤ 140737488355328) :
    Calls Tryz.prog 71 #[.slice a n c, .int .i64 p] w fun e w' => e = .returned (guV p (rdu 0 0 (l.drop p))) ∧ w' = w := by
  obtain ⟨L, hL⟩ : ∃ L, L = l.drop p := ⟨_, rfl⟩
  have hLl : L.length = n - p := by rw [hL, List.length_drop, hn]
  have HC : Hid (∀ k, p + k < n → ∃ b off d : Nat, a = some ⟨b, off, none⟩ ∧ w.cell? ⟨b, off + (p + k), none⟩ = some (.int .u8 (d : Int)) ∧ L[k]? = some (d : Int) ∧ d < 256) := hideP (fun k hk => by
    obtain ⟨b, off, e, hc⟩ := hB (by intro e; rw [e] at hn; simp at hn; omega)
    have h1 := hc (p + k) (by omega)
    have h2 := hI _ (List.getElem_mem (show p + k < l.length by omega))
    have h3 : l[p + k]?.getD 0 = l[p + k] := by rw [List.getElem?_eq_getElem (by omega)]; rfl
    refine ⟨b, off, l[p + k].toNat, e, ?_, ?_, by omega⟩
    · rw [h1, h3]; congr 2; omega
    · rw [hL, List.getElem?_drop, List.getElem?_eq_getElem (by omega)]; congr 1; omega)
  have HRl : Hid (∀ x k, rdu 0 0 L = .ok (x, k) → x < 18446744073709551616) := hideP (fun x k h => rdu_lt L 0 0 x k (by omega) (by decide) (fun y hy => by rw [hL] at hy; exact hI y (List.mem_of_mem_drop hy)) h)
  rw [← hL]
  have hpn : p ≤ n := by omega
  have hnb : n ≤ 140737488355328 := by omega
  clear hL hB hI hn hp hl
  obtain ⟨R, hR⟩ : ∃ R, R = rdu 0 0 L := ⟨_, rfl⟩
  rw [← hR]
  rw [← hR] at HRl
  have HR := hideP hR
  have HLl := hideP hLl
  clear hR hLl
  go_enter Tryz.func71, Tryz.ntmps71
  go_wp2
  go_loopw [7] (fun v7 wr => ∃ i : Nat, i ≤ 9 ∧ p + i ≤ n ∧ v7 = .int .i64 i ∧ Hid (Fau L i) ∧ wr = w) (fun v7 _ => 20 - (intOf v7).toNat)
  case atStart => exact ⟨0, by omega, by omega, rfl, hideP (fau_0 L), rfl⟩
  case round =>
    obtain ⟨i, hi9, hin, rfl, HF, rfl⟩ := hrel
    have s1 : IntKind.i64.wrap ((p : Int) + (i : Int)) = (p : Int) + (i : Int) := by rw [IntKind.wrap_i64]; omega
    by_cases hlt : p + i < n
    · obtain ⟨b, off, d, rfl, xc, hd, hd256⟩ := HC.out i hlt
      have hil : i < L.length := by rw [HLl.out]; omega
      have hdl : L[i] = (d : Int) := by rw [List.getElem?_eq_getElem hil] at hd; exact Option.some.inj hd
      have HA := hideP (HR.out.trans (fau_at HF.out hil hdl))
      have HNx := hideP (fun h1 h2 => fau_next HF.out hil hdl h1 h2)
      have hlt2 : ¬ (n : Int) ≤ (p : Int) + (i : Int) := by omega
      have hlt3 : (p : Int) + (i : Int) < (n : Int) := by omega
      have hd1 : (d : Int) < 256 := by omega
      clear hd hdl
      by_cases h9 : i = 9 ∧ 1 < d
      · have HX : Hid (R = .error 1) := hideP (by rw [HA.out, if_pos h9])
        obtain ⟨rfl, h1d⟩ := h9
        have g1 : decide ((1 : Int) < (d : Int)) = true := decide_eq_true (by omega)
        have g2 : decide (1 < d) = true := decide_eq_true h1d
        clear HA HNx HC
        go_wp2
        go_ret3
        exact ⟨gu_err HX.out rfl rfl, rfl⟩
      · have hA1 := HA.out
        rw [if_neg h9] at hA1
        have HA1 := hideP hA1
        have HNx1 := hideP (HNx.out h9)
        have H9 := hideP h9
        clear HA HNx h9 hA1
        obtain ⟨wr0, hwr0⟩ : ∃ wr0, wr0 = wr := ⟨_, rfl⟩
        by_cases e9 : i = 9
        · subst e9
          have hd1 : d ≤ 1 := by have := H9.out; omega
          have g1 : decide ((1 : Int) < (d : Int)) = false := decide_eq_false (by omega)
          have g2 : decide (1 < d) = false := decide_eq_false (by omega)
          have hA2 := HA1.out
          rw [if_pos (by omega)] at hA2
          by_cases hd0 : d = 0
          · subst hd0
            have HX : Hid (R = .error 1) := hideP (by rw [hA2, if_pos ⟨rfl, by omega⟩])
            clear hA2 HA1 HNx1 HC
            go_wp2
            go_ret3
            exact ⟨gu_err HX.out rfl rfl, rfl⟩
          · obtain rfl : d = 1 := by omega
            have HX : Hid (R = .ok (loB (L.take (9 + 1)), 9 + 1)) := hideP (by rw [hA2, if_neg (fun e => hd0 e.1)])
            clear hA2 HA1 HNx1
            subst hwr0
            have hbx := HRl.out _ _ HX.out
            have hil2 : 9 + 1 ≤ L.length := by rw [HLl.out]; omega
            have z1 : IntKind.i64.wrap (((9 : Nat) : Int) + 1) = ((9 : Nat) : Int) + 1 := by rw [IntKind.wrap_i64]; omega
            have z2 : IntKind.i64.wrap (((9 : Nat) : Int) + 1 - 1) = ((9 : Nat) : Int) := by rw [IntKind.wrap_i64]; omega
            have z3 : ((9 : Nat) : Int) + 1 - 1 = ((9 : Nat) : Int) := by omega
            go_wp2
            go_loopw [9, 10] (fun v9 v10 wr => ∃ q x : Nat, q ≤ 9 + 1 ∧ v10 = .int .i64 ((q : Int) - 1) ∧ v9 = .int .u64 x ∧ Hid (x = loB ((L.take (9 + 1)).drop q)) ∧ wr = wr0) (fun _ v10 _ => (intOf v10 + 1).toNat)
            case atStart => exact ⟨9 + 1, 0, Nat.le_refl _, by go_num, rfl, hideP loB_all.symm, rfl⟩
            case round =>
              obtain ⟨q, x, hq, rfl, rfl, HXq, rfl⟩ := hrel
              by_cases hq0 : q = 0
              · subst hq0
                have e0 : ((0 : Nat) : Int) - 1 = -1 := rfl
                rw [e0]
                have HV := hideP (HXq.out.trans (by rw [List.drop_zero]))
                have s9 : IntKind.i64.wrap ((p : Int) + (((9 : Nat) : Int) + 1)) = (p : Int) + (((9 : Nat) : Int) + 1) := by rw [IntKind.wrap_i64]; omega
                clear HC
                go_wp2
                go_ret3
                exact ⟨gu_ok HX.out (by rw [HV.out]) (by omega), rfl⟩
              · obtain ⟨r, rfl⟩ : ∃ r, q = r + 1 := ⟨q - 1, by omega⟩
                have e0 : ((r + 1 : Nat) : Int) - 1 = (r : Int) := by omega
                rw [e0]
                obtain ⟨b2, off2, d2, e2, xc2, hd2, hd2b⟩ := HC.out r (by omega)
                simp only [Option.some.injEq, Addr.mk.injEq, and_true] at e2
                obtain ⟨rfl, rfl⟩ := e2
                have HSt := hideP (loB_step (n := 9 + 1) (by omega) hil2 hd2)
                have hle := loB_drop (L.take (9 + 1)) r
                have HXn : Hid (128 * x + d2 % 128 = loB ((L.take (9 + 1)).drop r)) := hideP (by rw [HSt.out, ← HXq.out]; omega)
                have hxb : 128 * x + d2 % 128 < 18446744073709551616 := by rw [HXn.out]; omega
                have m1 : IntKind.u64.wrap (128 * (x : Int)) = 128 * (x : Int) := by rw [IntKind.wrap_u64]; omega
                have m2 : IntKind.u64.wrap ((d2 : Int) % 128) = (d2 : Int) % 128 := by rw [IntKind.wrap_u64]; omega
                have m3 : IntKind.u64.wrap (128 * (x : Int) + (d2 : Int) % 128) = 128 * (x : Int) + (d2 : Int) % 128 := by rw [IntKind.wrap_u64]; omega
                have m4 : IntKind.u8.wrap ((d2 : Int) % 128) = (d2 : Int) % 128 := by rw [IntKind.wrap_u8]; omega
                have s8 : IntKind.i64.wrap ((p : Int) + (r : Int)) = (p : Int) + (r : Int) := by rw [IntKind.wrap_i64]; omega
                have s7 : (p : Int) + (r : Int) < (n : Int) := by omega
                have hr0 : (0 : Int) ≤ (r : Int) := by omega
                clear HC HSt hle hd2
                go_wp2
                go_roundw
                case rel => exact ⟨r, 128 * x + d2 % 128, by omega, by go_num, by go_num, HXn, by first | rfl | trivial⟩
                case measure => simp [intOf]
        · have q9 : (((i : Int) + 1) == 10) = false := by rw [beq_eq_false_iff_ne]; omega
          have z0 : IntKind.i64.wrap ((i : Int) + 1) = (i : Int) + 1 := by rw [IntKind.wrap_i64]; omega
          by_cases h128 : d < 128
          · have hA2 := HA1.out
            rw [if_pos h128] at hA2
            have g1 : decide ((d : Int) < 128) = true := decide_eq_true (by omega)
            have g2 : decide (d < 128) = true := decide_eq_true h128
            by_cases hd0 : d = 0
            · subst hd0
              by_cases hi0 : i = 0
              · have HX : Hid (R = .ok (loB (L.take (i + 1)), i + 1)) := hideP (by rw [hA2, if_neg (fun e => by omega)])
                have g3 : decide ((1 : Int) < (i : Int) + 1) = false := decide_eq_false (by omega)
                have g4 : ¬ (1 : Int) < (i : Int) + 1 := by omega
                have hi1 : i ≤ 1 := by omega
                clear hA2 HA1 HNx1 hi0
                subst hwr0
                have hbx := HRl.out _ _ HX.out
                have hil2 : i + 1 ≤ L.length := by rw [HLl.out]; omega
                have z1 : IntKind.i64.wrap (((i : Nat) : Int) + 1) = ((i : Nat) : Int) + 1 := by rw [IntKind.wrap_i64]; omega
                have z2 : IntKind.i64.wrap (((i : Nat) : Int) + 1 - 1) = ((i : Nat) : Int) := by rw [IntKind.wrap_i64]; omega
                have z3 : ((i : Nat) : Int) + 1 - 1 = ((i : Nat) : Int) := by omega
                go_wp2
                go_loopw [9, 10] (fun v9 v10 wr => ∃ q x : Nat, q ≤ i + 1 ∧ v10 = .int .i64 ((q : Int) - 1) ∧ v9 = .int .u64 x ∧ Hid (x = loB ((L.take (i + 1)).drop q)) ∧ wr = wr0) (fun _ v10 _ => (intOf v10 + 1).toNat)
                case atStart => exact ⟨i + 1, 0, Nat.le_refl _, by go_num, rfl, hideP loB_all.symm, rfl⟩
                case round =>
                  obtain ⟨q, x, hq, rfl, rfl, HXq, rfl⟩ := hrel
                  by_cases hq0 : q = 0
                  · subst hq0
                    have e0 : ((0 : Nat) : Int) - 1 = -1 := rfl
                    rw [e0]
                    have HV := hideP (HXq.out.trans (by rw [List.drop_zero]))
                    have s9 : IntKind.i64.wrap ((p : Int) + (((i : Nat) : Int) + 1)) = (p : Int) + (((i : Nat) : Int) + 1) := by rw [IntKind.wrap_i64]; omega
                    clear HC
                    go_wp2
                    go_ret3
                    exact ⟨gu_ok HX.out (by rw [HV.out]) (by omega), rfl⟩
                  · obtain ⟨r, rfl⟩ : ∃ r, q = r + 1 := ⟨q - 1, by omega⟩
                    have e0 : ((r + 1 : Nat) : Int) - 1 = (r : Int) := by omega
                    rw [e0]
                    obtain ⟨b2, off2, d2, e2, xc2, hd2, hd2b⟩ := HC.out r (by omega)
                    simp only [Option.some.injEq, Addr.mk.injEq, and_true] at e2
                    obtain ⟨rfl, rfl⟩ := e2
                    have HSt := hideP (loB_step (n := i + 1) (by omega) hil2 hd2)
                    have hle := loB_drop (L.take (i + 1)) r
                    have HXn : Hid (128 * x + d2 % 128 = loB ((L.take (i + 1)).drop r)) := hideP (by rw [HSt.out, ← HXq.out]; omega)
                    have hxb : 128 * x + d2 % 128 < 18446744073709551616 := by rw [HXn.out]; omega
                    have m1 : IntKind.u64.wrap (128 * (x : Int)) = 128 * (x : Int) := by rw [IntKind.wrap_u64]; omega
                    have m2 : IntKind.u64.wrap ((d2 : Int) % 128) = (d2 : Int) % 128 := by rw [IntKind.wrap_u64]; omega
                    have m3 : IntKind.u64.wrap (128 * (x : Int) + (d2 : Int) % 128) = 128 * (x : Int) + (d2 : Int) % 128 := by rw [IntKind.wrap_u64]; omega
                    have m4 : IntKind.u8.wrap ((d2 : Int) % 128) = (d2 : Int) % 128 := by rw [IntKind.wrap_u8]; omega
                    have s8 : IntKind.i64.wrap ((p : Int) + (r : Int)) = (p : Int) + (r : Int) := by rw [IntKind.wrap_i64]; omega
                    have s7 : (p : Int) + (r : Int) < (n : Int) := by omega
                    have hr0 : (0 : Int) ≤ (r : Int) := by omega
                    clear HC HSt hle hd2
                    go_wp2
                    go_roundw
                    case rel => exact ⟨r, 128 * x + d2 % 128, by omega, by go_num, by go_num, HXn, by first | rfl | trivial⟩
                    case measure => simp [intOf]
              · have HX : Hid (R = .error 1) := hideP (by rw [hA2, if_pos ⟨rfl, by omega⟩])
                have g3 : decide ((1 : Int) < (i : Int) + 1) = true := decide_eq_true (by omega)
                have g4 : (1 : Int) < (i : Int) + 1 := by omega
                clear hA2 HA1 HNx1 HC
                go_wp2
                go_ret3
                exact ⟨gu_err HX.out rfl rfl, rfl⟩
            · have HX : Hid (R = .ok (loB (L.take (i + 1)), i + 1)) := hideP (by rw [hA2, if_neg (fun e => hd0 e.1)])
              have g3 : ((d : Int) == 0) = false := by rw [beq_eq_false_iff_ne]; omega
              have g4 : (d == 0) = false := by rw [beq_eq_false_iff_ne]; exact hd0
              clear hA2 HA1 HNx1
              subst hwr0
              have hbx := HRl.out _ _ HX.out
              have hil2 : i + 1 ≤ L.length := by rw [HLl.out]; omega
              have z1 : IntKind.i64.wrap (((i : Nat) : Int) + 1) = ((i : Nat) : Int) + 1 := by rw [IntKind.wrap_i64]; omega
              have z2 : IntKind.i64.wrap (((i : Nat) : Int) + 1 - 1) = ((i : Nat) : Int) := by rw [IntKind.wrap_i64]; omega
              have z3 : ((i : Nat) : Int) + 1 - 1 = ((i : Nat) : Int) := by omega
              go_wp2
              go_loopw [9, 10] (fun v9 v10 wr => ∃ q x : Nat, q ≤ i + 1 ∧ v10 = .int .i64 ((q : Int) - 1) ∧ v9 = .int .u64 x ∧ Hid (x = loB ((L.take (i + 1)).drop q)) ∧ wr = wr0) (fun _ v10 _ => (intOf v10 + 1).toNat)
              case atStart => exact ⟨i + 1, 0, Nat.le_refl _, by go_num, rfl, hideP loB_all.symm, rfl⟩
              case round =>
                obtain ⟨q, x, hq, rfl, rfl, HXq, rfl⟩ := hrel
                by_cases hq0 : q = 0
                · subst hq0
                  have e0 : ((0 : Nat) : Int) - 1 = -1 := rfl
                  rw [e0]
                  have HV := hideP (HXq.out.trans (by rw [List.drop_zero]))
                  have s9 : IntKind.i64.wrap ((p : Int) + (((i : Nat) : Int) + 1)) = (p : Int) + (((i : Nat) : Int) + 1) := by rw [IntKind.wrap_i64]; omega
                  clear HC
                  go_wp2
                  go_ret3
                  exact ⟨gu_ok HX.out (by rw [HV.out]) (by omega), rfl⟩
                · obtain ⟨r, rfl⟩ : ∃ r, q = r + 1 := ⟨q - 1, by omega⟩
                  have e0 : ((r + 1 : Nat) : Int) - 1 = (r : Int) := by omega
                  rw [e0]
                  obtain ⟨b2, off2, d2, e2, xc2, hd2, hd2b⟩ := HC.out r (by omega)
                  simp only [Option.some.injEq, Addr.mk.injEq, and_true] at e2
                  obtain ⟨rfl, rfl⟩ := e2
                  have HSt := hideP (loB_step (n := i + 1) (by omega) hil2 hd2)
                  have hle := loB_drop (L.take (i + 1)) r
                  have HXn : Hid (128 * x + d2 % 128 = loB ((L.take (i + 1)).drop r)) := hideP (by rw [HSt.out, ← HXq.out]; omega)
                  have hxb : 128 * x + d2 % 128 < 18446744073709551616 := by rw [HXn.out]; omega
                  have m1 : IntKind.u64.wrap (128 * (x : Int)) = 128 * (x : Int) := by rw [IntKind.wrap_u64]; omega
                  have m2 : IntKind.u64.wrap ((d2 : Int) % 128) = (d2 : Int) % 128 := by rw [IntKind.wrap_u64]; omega
                  have m3 : IntKind.u64.wrap (128 * (x : Int) + (d2 : Int) % 128) = 128 * (x : Int) + (d2 : Int) % 128 := by rw [IntKind.wrap_u64]; omega
                  have m4 : IntKind.u8.wrap ((d2 : Int) % 128) = (d2 : Int) % 128 := by rw [IntKind.wrap_u8]; omega
                  have s8 : IntKind.i64.wrap ((p : Int) + (r : Int)) = (p : Int) + (r : Int) := by rw [IntKind.wrap_i64]; omega
                  have s7 : (p : Int) + (r : Int) < (n : Int) := by omega
                  have hr0 : (0 : Int) ≤ (r : Int) := by omega
                  clear HC HSt hle hd2
                  go_wp2
                  go_roundw
                  case rel => exact ⟨r, 128 * x + d2 % 128, by omega, by go_num, by go_num, HXn, by first | rfl | trivial⟩
                  case measure => simp [intOf]
          · have HN2 := hideP (HNx1.out h128)
            have g1 : decide ((d : Int) < 128) = false := decide_eq_false (by omega)
            have g2 : decide (d < 128) = false := decide_eq_false h128
            clear HA1 HNx1 HC
            go_wp2
            go_roundw
            case rel => exact ⟨i + 1, by omega, by omega, by go_num, HN2, by first | rfl | trivial⟩
            case measure => simp [intOf]; omega
    · have HX : Hid (R = .error 0) := hideP (HR.out.trans (fau_end HF.out (by rw [HLl.out]; omega)))
      have hlt2 : (n : Int) ≤ (p : Int) + (i : Int) := by omega
      have hlt3 : decide ((n : Int) ≤ (p : Int) + (i : Int)) = true := decide_eq_true hlt2
      clear HC
      go_wp2
      go_ret3
      exact ⟨gu_err HX.out rfl rfl, rfl⟩
end Go.Proofs.YtidgofpmnlddaaaGreatDoor
namespace Go.Proofs.YtidgofpmnlddaaaGreatDoor
open Go.ChangeShapes Go.WideShapes Go.ChangeAt Go.RowKit

/-- The document's reader, as functions. -/
def dnu (l : List Int) (p : Nat) : Option (Nat × Nat) := upn 9223372036854775807 l p
def dpa (l : List Int) (n p : Nat) : Option (List Int × Nat) := match pkn 16 l p with
  | none => none
  | some (xs, q) => if xs.length = n then some (xs, q) else none
def preI (xs : List Int) : Option (List Int × Nat) → Option (List Int × Nat) := Option.map (fun x => (xs ++ x.1, x.2))
def preP (F : List Po) : Option (List Po × Nat) → Option (List Po × Nat) := Option.map (fun x => (F ++ x.1, x.2))
def dps (l : List Int) : Nat → Int → Nat → Option (List Int × Nat)
  | 0, _, p => some ([], p)
  | k + 1, last, p => match dnu l p with
    | none => none
    | some (x, q) => if last = 9223372036854775807 ∨ 9223372036854775806 - last < (x : Int) then none else preI [last + ((x : Int) + 1)] (dps l k (last + ((x : Int) + 1)) q)
/-- A posting's positions are put ahead of the rest. -/
def conX (d : Int) (f : Nat → Option (List Po × Nat)) : Option (List Int × Nat) → Option (List Po × Nat)
  | none => none
  | some (xs, q) => preP [⟨d, xs⟩] (f q)
def dbs (l : List Int) : Int → List Int → List Int → Nat → Option (List Po × Nat)
  | b, g :: G, m :: M, p => if 2147483647 ≤ g ∨ 2147483647 ≤ b + g + 1 then none else conX (b + (g + 1)) (dbs l (b + (g + 1)) G M) (dps l (m.toNat + 1) (-1) p)
  | _, _, _, p => some ([], p)
def dbk (l : List Int) (n : Nat) (b : Int) (p : Nat) : Option (List Po × Nat) := match dpa l n p with
  | none => none
  | some (G, q) => match dpa l n q with
    | none => none
    | some (M, r) => dbs l b G M r
def dsk (l : List Int) : Nat → Nat → Option Nat
  | 0, p => some p
  | m + 1, p => match dnu l p with
    | none => none
    | some (_, q) => match dnu l q with
      | none => none
      | some (_, r) => dsk l m r
def dal (l : List Int) : Nat → Nat → Int → Nat → Option (List Po × Nat)
  | 0, _, _, p => some ([], p)
  | m + 1, left, b, p => match dbk l (min 16 left) b p with
    | none => none
    | some (F, q) => preP F (dal l m (left - 16) (lastd b F) q)
def ddc (l : List Int) : Option (List Po) := match dnu l 0 with
  | none => none
  | some (n, q) => match dnu l q with
    | none => none
    | some (_, r) => match dsk l (nbp n) r with
      | none => none
      | some s => (dal l (nbp n) n (-1) s).map (·.1)
theorem preI_nil (x : Option (List Int × Nat)) : preI [] x = x := by cases x <;> rfl
theorem preP_nil (x : Option (List Po × Nat)) : preP [] x = x := by cases x <;> rfl
theorem preI_pre (a b : List Int) (x : Option (List Int × Nat)) : preI a (preI b x) = preI (a ++ b) x := by
  cases x with
  | none => rfl
  | some y => simp [preI]
theorem preP_pre (a b : List Po) (x : Option (List Po × Nat)) : preP a (preP b x) = preP (a ++ b) x := by
  cases x with
  | none => rfl
  | some y => simp [preP]
theorem dnu_put {l R : List Int} {p x : Nat} (h : l.drop p = uvb x ++ R) (hx : x < 9223372036854775808) : dnu l p = some (x, p + (uvb x).length) := upn_put h (by omega) (by omega)
theorem dpa_put {l xs R : List Int} {p : Nat} (h : l.drop p = packed xs ++ R) (hI : IsInts xs) (h0 : ∀ x ∈ xs, 0 ≤ x) (hs : xs.length ≤ 16) : dpa l xs.length p = some (xs, p + (packed xs).length) := by
  unfold dpa
  rw [pkn_put (m := 16) h hI h0 hs (by omega)]
  simp
theorem dps_put {l : List Int} : ∀ {ps : List Int} {s p : Nat} {R : List Int}, Ris ps s → l.drop p = risb ps s ++ R → dps l ps.length ((s : Int) - 1) p = some (ps, p + (risb ps s).length)
  | [], s, p, R, _, _ => by simp [dps, risb]
  | x :: r, s, p, R, h, hl => by
    obtain ⟨h1, h2, h3⟩ := h
    rw [risb, List.append_assoc] at hl
    have u := dnu_put hl (by omega)
    have e := drop_next hl
    have i := dps_put h3 e
    rw [List.length_cons, dps, u]
    simp only
    rw [if_neg (by omega)]
    have e1 : (s : Int) - 1 + (((x.toNat - s : Nat) : Int) + 1) = x := by omega
    have e2 : (((x.toNat + 1 : Nat) : Int) - 1) = x := by omega
    rw [e2] at i
    rw [e1, i, risb, List.length_append]
    simp [preI, Nat.add_assoc]
theorem dbs_put {l : List Int} : ∀ {F : List Po} {b : Int} {p : Nat} {R : List Int}, gdl b F → -1 ≤ b → l.drop p = psb F ++ R → dbs l b (gps b F) (mos F) p = some (F, p + (psb F).length)
  | [], b, p, R, _, _, _ => by simp [gps, mos, dbs, psb]
  | x :: F, b, p, R, h, hb, hl => by
    obtain ⟨h1, h2⟩ := h
    have z1 := h1.lo
    have z2 := h1.hi
    have z3 := h1.up
    have hx : x.ps.length ≠ 0 := fun e => h1.ne (List.eq_nil_of_length_eq_zero e)
    rw [psb_cons, List.append_assoc] at hl
    have u := dps_put h1.ri hl
    have e := drop_next hl
    have i := dbs_put h2 (by omega) e
    have em : mos (x :: F) = ((x.ps.length : Int) - 1) :: mos F := by simp [mos]
    have e2 : ((x.ps.length : Int) - 1).toNat + 1 = x.ps.length := by omega
    have e3 : b + (x.d - 1 - b + 1) = x.d := by omega
    rw [gps, em, dbs, if_neg (by omega), e2, e3, show ((-1 : Int)) = ((0 : Nat) : Int) - 1 from rfl, u, conX, i]
    simp [preP, psb_cons, Nat.add_assoc]
theorem dbk_put {l : List Int} {F : List Po} {b : Int} {p : Nat} {R : List Int} (h : gdl b F) (hb : -1 ≤ b) (hn : F.length ≤ 16) (hl : l.drop p = blk b F ++ R) : dbk l F.length b p = some (F, p + (blk b F).length) := by
  have g1 := gps_ints h hb
  have m1 := mos_intsG h
  rw [blk, List.append_assoc, List.append_assoc] at hl
  have p1 := dpa_put hl (fun x hx => by have := g1 x hx; omega) (fun x hx => (g1 x hx).1) (by rw [gps_length]; exact hn)
  have e1 := drop_next hl
  have p2 := dpa_put e1 (fun x hx => by have := m1 x hx; omega) (fun x hx => (m1 x hx).1) (by rw [mos_length]; exact hn)
  have e2 := drop_next e1
  have p3 := dbs_put h hb e2
  rw [gps_length] at p1
  rw [mos_length] at p2
  unfold dbk
  rw [p1]
  simp only
  rw [p2]
  simp only
  rw [p3, blk, List.length_append, List.length_append]
  simp [Nat.add_assoc]
theorem dsk_put {l : List Int} (hl : l.length < 9223372036854775808) : ∀ {m : Nat} {L : List Po} {b : Int} {p : Nat} {R : List Int}, m = nbp L.length → gdl b L → -1 ≤ b → (bkb b (chp m L)).length ≤ R.length → l.drop p = skb b (chp m L) ++ R →
    dsk l m p = some (p + (skb b (chp m L)).length)
  | 0, L, b, p, R, hm, hg, hb, hR, h => by simp [dsk, chp, skb]
  | m + 1, L, b, p, R, hm, hg, hb, hR, h => by
    obtain ⟨g1, g2⟩ := gdl_split hg
    obtain ⟨F, hF⟩ : ∃ F, F = L.take 16 := ⟨_, rfl⟩
    obtain ⟨L', hL'⟩ : ∃ L', L' = L.drop 16 := ⟨_, rfl⟩
    have n1 : F.length = min L.length 16 := by rw [hF, List.length_take, Nat.min_comm]
    have n2 : L'.length = L.length - 16 := by rw [hL', List.length_drop]
    rw [chp, bkb, ← hF, ← hL', List.length_append] at hR
    rw [chp, skb, ← hF, ← hL'] at h
    rw [← hF] at g1
    rw [← hF, ← hL'] at g2
    rw [chp, skb, ← hF, ← hL']
    have hne : F ≠ [] := by
      intro e
      rw [e] at n1
      unfold nbp at hm
      simp at n1
      omega
    obtain ⟨q0, q3⟩ := gdl_last F b g1
    obtain ⟨q1, q2⟩ := q3 hne
    obtain ⟨g, hgq⟩ : ∃ g, g = (lastd b F - 1 - b).toNat := ⟨_, rfl⟩
    obtain ⟨z, hz⟩ : ∃ z, z = (blk b F).length := ⟨_, rfl⟩
    rw [← hgq, ← hz] at h ⊢
    rw [← hz] at hR
    rw [List.append_assoc, List.append_assoc] at h
    have u1 := dnu_put h (by omega)
    have e1 := drop_next h
    have k1 := congrArg List.length e1
    rw [List.length_drop, List.length_append, List.length_append] at k1
    have u2 := dnu_put e1 (by omega)
    have e2 := drop_next e1
    have i := dsk_put hl (m := m) (L := L') (by rw [n2]; unfold nbp at hm ⊢; omega) g2 (by omega) (by omega) e2
    rw [dsk, u1]
    simp only
    rw [u2]
    simp only
    rw [i, List.length_append, List.length_append]
    simp [Nat.add_assoc]
theorem dal_put {l : List Int} : ∀ {m : Nat} {L : List Po} {b : Int} {p : Nat} {R : List Int}, m = nbp L.length → gdl b L → -1 ≤ b → l.drop p = bkb b (chp m L) ++ R → dal l m L.length b p = some (L, p + (bkb b (chp m L)).length)
  | 0, L, b, p, R, hm, hg, hb, h => by
    have e : L = [] := List.eq_nil_of_length_eq_zero (by unfold nbp at hm; omega)
    subst e
    simp [chp, bkb, dal]
  | m + 1, L, b, p, R, hm, hg, hb, h => by
    obtain ⟨g1, g2⟩ := gdl_split hg
    obtain ⟨F, hF⟩ : ∃ F, F = L.take 16 := ⟨_, rfl⟩
    obtain ⟨L', hL'⟩ : ∃ L', L' = L.drop 16 := ⟨_, rfl⟩
    have n1 : F.length = min 16 L.length := by rw [hF, List.length_take]
    have n2 : L'.length = L.length - 16 := by rw [hL', List.length_drop]
    rw [chp, bkb, ← hF, ← hL', List.append_assoc] at h
    rw [← hF] at g1
    rw [← hF, ← hL'] at g2
    have q0 := gdl_last F b g1
    have k := dbk_put g1 hb (by omega) h
    have i := dal_put (m := m) (L := L') (by rw [n2]; unfold nbp at hm ⊢; omega) g2 (by omega) (drop_next h)
    rw [chp, bkb, ← hF, ← hL', dal, ← n1, k]
    simp only
    rw [← n2, i, List.length_append]
    have eL : L = F ++ L' := by rw [hF, hL', List.take_append_drop]
    simp [preP, Nat.add_assoc, ← eL]
theorem ddc_put {L : List Po} (hg : gdl (-1) L) (hl : (img L).length < 9223372036854775808) : ddc (img L) = some L := by
  obtain ⟨l, hL⟩ : ∃ l, l = img L := ⟨_, rfl⟩
  rw [← hL] at hl ⊢
  obtain ⟨B, hB⟩ : ∃ B, B = chp (nbp L.length) L := ⟨_, rfl⟩
  have t1 := tot_bkb (L := L) (b := -1) rfl
  have t2 := len_tot hg
  rw [← hB] at t1
  have e0 : l.drop 0 = uvb L.length ++ (uvb (tot L) ++ (skb (-1) B ++ bkb (-1) B)) := by rw [List.drop_zero, hL, img, ← hB]; simp [List.append_assoc]
  have k0 := congrArg List.length e0
  rw [List.length_drop, List.length_append, List.length_append, List.length_append] at k0
  have u1 := dnu_put e0 (by omega)
  have e1 := drop_next e0
  have u2 := dnu_put e1 (by omega)
  have e2 := drop_next e1
  have u3 := dsk_put hl (L := L) (b := -1) (R := bkb (-1) B) rfl hg (by omega) (by rw [← hB]; exact Nat.le_refl _) (by rw [← hB]; exact e2)
  have e3 := drop_next e2
  have u4 := dal_put (l := l) (L := L) (b := -1) (R := []) rfl hg (by omega) (by rw [← hB, List.append_nil]; exact e3)
  rw [← hB] at u3 u4
  unfold ddc
  rw [u1]
  simp only
  rw [u2]
  simp only
  rw [u3]
  simp only
  rw [u4]
  rfl
/-- What the document's Decode answers. -/
theorem ddc_opn {l : List Int} (hI : IsBytes l) (hl : l.length < 9223372036854775808) : opn l = match ddc l with
    | none => none
    | some F => open Classical in if gdl (-1) F ∧ img F = l then some F else none := by
  cases ho : opn l with
  | none =>
    cases hd : ddc l with
    | none => rfl
    | some F =>
      simp only
      rw [if_neg]
      rintro ⟨h1, h2⟩
      subst h2
      rw [opn_put h1 hl] at ho
      cases ho
  | some L =>
    obtain ⟨h1, h2, -⟩ := opn_back hI ho
    subst h1
    rw [ddc_put h2 hl]
    simp [h2]
end Go.Proofs.YtidgofpmnlddaaaGreatDoor
namespace Go.Proofs.YtidgofpmnlddaaaGreatDoor
open Go.ChangeShapes Go.WideShapes Go.ChangeAt Go.RowKit

theorem bit_step (V t j : Nat) : V / 2 ^ t % 2 ^ (j + 1) = 2 * (V / 2 ^ (t + 1) % 2 ^ j) + V / 2 ^ t % 2 := by
  rw [Nat.pow_succ, Nat.mul_comm (2 ^ j) 2, Nat.mod_mul, Nat.pow_succ 2 t, ← Nat.div_div_eq_div_mul]
  omega
theorem pad_zero {V N : Nat} : ∀ {M : Nat}, V < 2 ^ M → (∀ p, N ≤ p → p < M → V / 2 ^ p % 2 = 0) → V < 2 ^ N
  | 0, hV, _ => Nat.lt_of_lt_of_le hV (Nat.pow_le_pow_right (by decide) (Nat.zero_le _))
  | M + 1, hV, h => by
    rcases Nat.lt_or_ge M N with q | q
    · exact Nat.lt_of_lt_of_le hV (Nat.pow_le_pow_right (by decide) q)
    · refine pad_zero (M := M) ?_ (fun p h1 h2 => h p h1 (by omega))
      have h1 := h M q (by omega)
      have h2 : V / 2 ^ M < 2 := Nat.div_lt_of_lt_mul (by rw [← Nat.pow_succ]; exact hV)
      have h3 : V / 2 ^ M = 0 := by
        generalize V / 2 ^ M = x at *
        omega
      rcases Nat.div_eq_zero_iff.1 h3 with e | e
      · exact absurd e (Nat.pos_iff_ne_zero.1 (Nat.two_pow_pos M))
      · exact e
theorem pad_one {V N p : Nat} (h : V / 2 ^ p % 2 ≠ 0) (hp : N ≤ p) : ¬ V < 2 ^ N := by
  intro hV
  have : V < 2 ^ p := Nat.lt_of_lt_of_le hV (Nat.pow_le_pow_right (by decide) hp)
  rw [Nat.div_eq_of_lt this] at h
  exact h rfl
/-- A bit of the bytes from q on. -/
theorem bit_at {l : List Int} {q m p d : Nat} (hI : IsBytes l) (hq : q + m ≤ l.length) (hp : p / 8 < m) (hd : l[q + p / 8]? = some (d : Int)) : d / 2 ^ (p % 8) % 2 = vle ((l.drop q).take m) / 2 ^ p % 2 := by
  have hR : IsBytes ((l.drop q).take m) := isb_take (isb_drop hI q) m
  have hl : ((l.drop q).take m).length = m := by rw [List.length_take, List.length_drop]; omega
  have hj : p / 8 < ((l.drop q).take m).length := by omega
  have hc : ((l.drop q).take m)[p / 8] = (d : Int) := by
    rw [List.getElem_take, List.getElem_drop]
    rw [List.getElem?_eq_getElem (by omega)] at hd
    exact Option.some.inj hd
  have h := piece_at (r := p % 8) (t := 1) hR hj hc (by omega)
  rw [Nat.pow_one, show 8 * (p / 8) + p % 8 = p by omega] at h
  exact h
theorem unp_zero (V : Nat) : ∀ n, unp V 0 n = List.replicate n 0
  | 0 => rfl
  | n + 1 => by
    rw [unp_succ, unp_zero V n, List.replicate_succ', Nat.pow_zero, Nat.mod_one]
    rfl
end Go.Proofs.YtidgofpmnlddaaaGreatDoor
namespace Go.Proofs.YtidgofpmnlddaaaGreatDoor
open Go.ChangeShapes Go.WideShapes Go.ChangeAt Go.RowKit

/-- What the document's GetUpto answers. -/
def gqP (p : Nat) (e : Ending) : Option (Nat × Nat) → Prop
  | none => ∃ code : Int, code ≠ 0 ∧ e = .returned (.tuple #[.int .i64 0, .int .i64 p, .int .i64 code])
  | some (x, q) => e = .returned (.tuple #[.int .i64 x, .int .i64 q, .int .i64 0])
set_option maxRecDepth 20000 in
set_option maxHeartbeats 4000000 in
theorem rgetq_any (most : Nat) (l : List Int) (a : Option Addr) (n c p : Nat) (w : World) (hn : n = l.length) (hB : BytesAt w a l) (hI : IsBytes l) (hp : p ≤ l.length) (hl : l.length ≤ 140737488355328) (hm : most ≤ 9223372036854775807) :
    Calls Tryz.prog 50 #[.slice a n c, .int .i64 p, .int .i64 (most : Nat)] w fun e w' => gqP p e (upn most l p) ∧ w' = w := by
  have CU := hideP (rgetu_any l a n c p w hn hB hI hp hl)
  have hm0 : ¬ ((most : Nat) : Int) < 0 := by omega
  have hmw : IntKind.u64.wrap ((most : Nat) : Int) = ((most : Nat) : Int) := by rw [IntKind.wrap_u64]; omega
  cases hr : rdu 0 0 (l.drop p) with
  | error er =>
    have HX : Hid (upn most l p = none) := hideP (by rw [upn, hr])
    rw [hr] at CU
    simp only [guV] at CU
    have g1 : (((er + 1 : Nat) : Int) != 0) = true := by rw [bne, show (((er + 1 : Nat) : Int) == 0) = false from by rw [beq_eq_false_iff_ne]; omega]; rfl
    obtain ⟨E, hE⟩ : ∃ E : Int, E = ((er + 1 : Nat) : Int) := ⟨_, rfl⟩
    rw [← hE] at CU g1
    have HEe : Hid (E ≠ 0) := hideP (by rw [hE]; omega)
    clear hr hE hB hI hn hp hl
    rw [HX.out]
    go_enter Tryz.func50, Tryz.ntmps50
    go_wp2_with (go_at_call 71; refine CU.out.mono ?_; clear CU; rintro e W1 ⟨rfl, rfl⟩)
    go_ret3
    exact ⟨⟨E, HEe.out, rfl⟩, rfl⟩
  | ok xk =>
    obtain ⟨x, k⟩ := xk
    have hxl := rdu_lt (l.drop p) 0 0 x k (by omega) (by decide) (fun y hy => hI y (List.mem_of_mem_drop hy)) hr
    have hkl := rdu_le _ _ _ _ _ hr
    rw [List.length_drop] at hkl
    rw [hr] at CU
    simp only [guV] at CU
    by_cases hx : x ≤ most
    · have HX : Hid (upn most l p = some (x, p + k)) := hideP (by rw [upn, hr]; simp only; rw [if_pos (by omega)])
      have g1 : decide (((most : Nat) : Int) < (x : Int)) = false := decide_eq_false (by omega)
      have g2 : decide (most < x) = false := decide_eq_false (by omega)
      have g3 : IntKind.i64.wrap (x : Int) = (x : Int) := by rw [IntKind.wrap_i64]; omega
      rw [HX.out]
      generalize p + k = pk at *
      clear hr hkl hB hI hn hp hl HX
      go_enter Tryz.func50, Tryz.ntmps50
      go_wp2_with (go_at_call 71; refine CU.out.mono ?_; clear CU; rintro e W1 ⟨rfl, rfl⟩)
      go_ret3
      exact ⟨rfl, rfl⟩
    · have HX : Hid (upn most l p = none) := hideP (by rw [upn, hr]; simp only; rw [if_neg (by omega)])
      have g1 : decide (((most : Nat) : Int) < (x : Int)) = true := decide_eq_true (by omega)
      have g2 : decide (most < x) = true := decide_eq_true (by omega)
      rw [HX.out]
      generalize ((p + k : Nat) : Int) = pk at *
      clear hr hkl hB hI hn hp hl HX
      go_enter Tryz.func50, Tryz.ntmps50
      go_wp2_with (go_at_call 71; refine CU.out.mono ?_; clear CU; rintro e W1 ⟨rfl, rfl⟩)
      go_ret3
      exact ⟨⟨3, by decide, rfl⟩, rfl⟩
end Go.Proofs.YtidgofpmnlddaaaGreatDoor
