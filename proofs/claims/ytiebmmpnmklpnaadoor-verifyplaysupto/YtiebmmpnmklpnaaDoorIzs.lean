import Derived.Test.YtiebmmpnmklpnaaDoorIza
import Derived.Test.YtiebmmpnmklpnaaDoorIzb
namespace Go.Proofs.YtiebmmpnmklpnaaDoor
open Go.ChangeShapes Go.WideShapes Go.ChangeAt Go.RowKit

/-- The low sevens of bytes, the first lowest. -/
def loBI : List Int → Nat
  | [] => 0
  | c :: r => c.toNat % 128 + 128 * loBI r
theorem loB_appendI (A B : List Int) : loBI (A ++ B) = loBI A + 2 ^ (7 * A.length) * loBI B := by
  induction A with
  | nil => simp [loBI]
  | cons c r ih =>
    rw [List.cons_append, loBI, loBI, ih, List.length_cons, show 7 * (r.length + 1) = 7 + 7 * r.length by omega, Nat.pow_add, Nat.mul_add]
    have : 2 ^ 7 * 2 ^ (7 * r.length) * loBI B = 128 * (2 ^ (7 * r.length) * loBI B) := by rw [Nat.mul_assoc]
    omega
theorem loB_dropI (A : List Int) (k : Nat) : loBI (A.drop k) ≤ loBI A := by
  induction k generalizing A with
  | zero => simp
  | succ k ih =>
    cases A with
    | nil => simp
    | cons c r =>
      rw [List.drop_succ_cons, loBI]
      have := ih r
      omega
theorem loB_oneI (A : List Int) (c : Int) : loBI (A ++ [c]) = loBI A + c.toNat % 128 * 2 ^ (7 * A.length) := by
  rw [loB_appendI, loBI, loBI, Nat.mul_zero, Nat.add_zero, Nat.mul_comm]
/-- How far the reading has come: i bytes, all of them 128 and more. -/
structure FauI (L : List Int) (i : Nat) : Prop where
  eq : rdu 0 0 L = rdu i (loBI (L.take i)) (L.drop i)
  le : i ≤ 9
  il : i ≤ L.length
theorem fau_0I (L : List Int) : FauI L 0 := ⟨by simp [loBI], by omega, by omega⟩
theorem fau_endI {L : List Int} {i : Nat} (h : FauI L i) (hi : L.length ≤ i) : rdu 0 0 L = .error 0 := by
  rw [h.eq, List.drop_of_length_le hi, rdu]
theorem fau_atI {L : List Int} {i c : Nat} (h : FauI L i) (hi : i < L.length) (hc : L[i] = (c : Int)) :
    rdu 0 0 L = if i = 9 ∧ 1 < c then .error 1 else if c < 128 then (if c = 0 ∧ 0 < i then .error 1 else .ok (loBI (L.take (i + 1)), i + 1)) else rdu (i + 1) (loBI (L.take (i + 1))) (L.drop (i + 1)) := by
  have e1 : loBI (L.take (i + 1)) = loBI (L.take i) + c % 128 * 2 ^ (7 * i) := by
    rw [List.take_succ_eq_append_getElem hi, hc, loB_oneI, Int.toNat_natCast, List.length_take, Nat.min_eq_left (by omega)]
  rw [h.eq, List.drop_eq_getElem_cons hi, hc, rdu, e1, Int.toNat_natCast]
  have k1 : (i = 9 ∧ 1 < (c : Int)) ↔ (i = 9 ∧ 1 < c) := by omega
  have k2 : ((c : Int) < 128) ↔ c < 128 := by omega
  have k3 : ((c : Int) = 0 ∧ 0 < i) ↔ (c = 0 ∧ 0 < i) := by omega
  simp only [k1, k2, k3]
theorem fau_nextI {L : List Int} {i c : Nat} (h : FauI L i) (hi : i < L.length) (hc : L[i] = (c : Int)) (h1 : ¬ (i = 9 ∧ 1 < c)) (h2 : ¬ c < 128) : FauI L (i + 1) := by
  have := h.le
  refine ⟨?_, by omega, by omega⟩
  rw [fau_atI h hi hc, if_neg h1, if_neg h2]
theorem loB_stepI {L : List Int} {n q c : Nat} (hq : q < n) (hn : n ≤ L.length) (hc : L[q]? = some (c : Int)) : loBI ((L.take n).drop q) = c % 128 + 128 * loBI ((L.take n).drop (q + 1)) := by
  have hqn : q < (L.take n).length := by rw [List.length_take]; omega
  have e : (L.take n)[q] = (c : Int) := by
    rw [List.getElem_take]
    rw [List.getElem?_eq_getElem (by omega)] at hc
    exact Option.some.inj hc
  rw [List.drop_eq_getElem_cons hqn, e, loBI, Int.toNat_natCast]
theorem loB_allI {L : List Int} {n : Nat} : loBI ((L.take n).drop n) = 0 := by
  rw [List.drop_of_length_le (by rw [List.length_take]; omega)]; rfl

def guVI (p : Nat) : Except Nat (Nat × Nat) → Value
  | .ok (x, k) => .tuple #[.int .u64 x, .int .i64 ((p + k : Nat) : Int), .int .i64 0]
  | .error e => .tuple #[.int .u64 0, .int .i64 p, .int .i64 ((e + 1 : Nat) : Int)]
theorem gu_errI {p er : Nat} {R : Except Nat (Nat × Nat)} {y z : Int} (h : R = .error er) (hy : y = p) (hz : z = ((er + 1 : Nat) : Int)) : Ending.returned (.tuple #[.int .u64 0, .int .i64 y, .int .i64 z]) = .returned (guVI p R) := by rw [h, hy, hz]; rfl
theorem gu_okI {p x k : Nat} {R : Except Nat (Nat × Nat)} {y z : Int} (h : R = .ok (x, k)) (hy : y = x) (hz : z = ((p + k : Nat) : Int)) : Ending.returned (.tuple #[.int .u64 y, .int .i64 z, .int .i64 0]) = .returned (guVI p R) := by rw [h, hy, hz]; rfl
set_option maxRecDepth 20000 in
set_option maxHeartbeats 8000000 in
theorem rgetu_anyI (l : List Int) (a : Option Addr) (n c p : Nat) (w : World) (hn : n = l.length) (hB : BytesAt w a l) (hI : IsBytes l) (hp : p ≤ l.length) (hl : l.length ≤ 140737488355328) :
    Calls Tryd.prog 43 #[.slice a n c, .int .i64 p] w fun e w' => e = .returned (guVI p (rdu 0 0 (l.drop p))) ∧ w' = w := by
  obtain ⟨L, hL⟩ : ∃ L, L = l.drop p := ⟨_, rfl⟩
  have hLl : L.length = n - p := by rw [hL, List.length_drop, hn]
  have HC : Hid (∀ k, p + k < n → ∃ b off d : Nat, a = some ⟨b, off, none⟩ ∧ w.cell? ⟨b, off + (p + k), none⟩ = some (.int .u8 (d : Int)) ∧ L[k]? = some (d : Int) ∧ d < 256) := hideI (fun k hk => by
    obtain ⟨b, off, e, hc⟩ := hB (by intro e; rw [e] at hn; simp at hn; omega)
    have h1 := hc (p + k) (by omega)
    have h2 := hI _ (List.getElem_mem (show p + k < l.length by omega))
    have h3 : l[p + k]?.getD 0 = l[p + k] := by rw [List.getElem?_eq_getElem (by omega)]; rfl
    refine ⟨b, off, l[p + k].toNat, e, ?_, ?_, by omega⟩
    · rw [h1, h3]; congr 2; omega
    · rw [hL, List.getElem?_drop, List.getElem?_eq_getElem (by omega)]; congr 1; omega)
  have HRl : Hid (∀ x k, rdu 0 0 L = .ok (x, k) → x < 18446744073709551616) := hideI (fun x k h => rdu_lt L 0 0 x k (by omega) (by decide) (fun y hy => by rw [hL] at hy; exact hI y (List.mem_of_mem_drop hy)) h)
  rw [← hL]
  have hpn : p ≤ n := by omega
  have hnb : n ≤ 140737488355328 := by omega
  clear hL hB hI hn hp hl
  obtain ⟨R, hR⟩ : ∃ R, R = rdu 0 0 L := ⟨_, rfl⟩
  rw [← hR]
  rw [← hR] at HRl
  have HR := hideI hR
  have HLl := hideI hLl
  clear hR hLl
  go_enter Tryd.func43, Tryd.ntmps43
  go_wp2
  go_loopw [7] (fun v7 wr => ∃ i : Nat, i ≤ 9 ∧ p + i ≤ n ∧ v7 = .int .i64 i ∧ Hid (FauI L i) ∧ wr = w) (fun v7 _ => 20 - (intOf v7).toNat)
  case atStart => exact ⟨0, by omega, by omega, rfl, hideI (fau_0I L), rfl⟩
  case round =>
    obtain ⟨i, hi9, hin, rfl, HF, rfl⟩ := hrel
    have s1 : IntKind.i64.wrap ((p : Int) + (i : Int)) = (p : Int) + (i : Int) := by rw [IntKind.wrap_i64]; omega
    by_cases hlt : p + i < n
    · obtain ⟨b, off, d, rfl, xc, hd, hd256⟩ := HC.out i hlt
      have hil : i < L.length := by rw [HLl.out]; omega
      have hdl : L[i] = (d : Int) := by rw [List.getElem?_eq_getElem hil] at hd; exact Option.some.inj hd
      have HA := hideI (HR.out.trans (fau_atI HF.out hil hdl))
      have HNx := hideI (fun h1 h2 => fau_nextI HF.out hil hdl h1 h2)
      have hlt2 : ¬ (n : Int) ≤ (p : Int) + (i : Int) := by omega
      have hlt3 : (p : Int) + (i : Int) < (n : Int) := by omega
      have hd1 : (d : Int) < 256 := by omega
      clear hd hdl
      by_cases h9 : i = 9 ∧ 1 < d
      · have HX : Hid (R = .error 1) := hideI (by rw [HA.out, if_pos h9])
        obtain ⟨rfl, h1d⟩ := h9
        have g1 : decide ((1 : Int) < (d : Int)) = true := decide_eq_true (by omega)
        have g2 : decide (1 < d) = true := decide_eq_true h1d
        clear HA HNx HC
        go_wp2
        go_ret3
        exact ⟨gu_errI HX.out rfl rfl, rfl⟩
      · have hA1 := HA.out
        rw [if_neg h9] at hA1
        have HA1 := hideI hA1
        have HNx1 := hideI (HNx.out h9)
        have H9 := hideI h9
        clear HA HNx h9 hA1
        obtain ⟨wr0, hwr0⟩ : ∃ wr0, wr0 = wr := ⟨_, rfl⟩
        by_cases e9 : i = 9
        · subst e9
          have hd1 : d ≤ 1 := by have := H9.out; omega
          have g1 : decide ((1 : Int) < (d : Int)) = false := decide_eq_false (by omega)
          have g2 : decide (1 < d) = false := decide_eq_false (by omega)
          have hA2 := HA1.out
          rw [if_pos (by omega)] at hA2
          by_cases hd0 : d = 0
          · subst hd0
            have HX : Hid (R = .error 1) := hideI (by rw [hA2, if_pos ⟨rfl, by omega⟩])
            clear hA2 HA1 HNx1 HC
            go_wp2
            go_ret3
            exact ⟨gu_errI HX.out rfl rfl, rfl⟩
          · obtain rfl : d = 1 := by omega
            have HX : Hid (R = .ok (loBI (L.take (9 + 1)), 9 + 1)) := hideI (by rw [hA2, if_neg (fun e => hd0 e.1)])
            clear hA2 HA1 HNx1
            subst hwr0
            have hbx := HRl.out _ _ HX.out
            have hil2 : 9 + 1 ≤ L.length := by rw [HLl.out]; omega
            have z1 : IntKind.i64.wrap (((9 : Nat) : Int) + 1) = ((9 : Nat) : Int) + 1 := by rw [IntKind.wrap_i64]; omega
            have z2 : IntKind.i64.wrap (((9 : Nat) : Int) + 1 - 1) = ((9 : Nat) : Int) := by rw [IntKind.wrap_i64]; omega
            have z3 : ((9 : Nat) : Int) + 1 - 1 = ((9 : Nat) : Int) := by omega
            go_wp2
            go_loopw [9, 10] (fun v9 v10 wr => ∃ q x : Nat, q ≤ 9 + 1 ∧ v10 = .int .i64 ((q : Int) - 1) ∧ v9 = .int .u64 x ∧ Hid (x = loBI ((L.take (9 + 1)).drop q)) ∧ wr = wr0) (fun _ v10 _ => (intOf v10 + 1).toNat)
            case atStart => exact ⟨9 + 1, 0, Nat.le_refl _, by go_num, rfl, hideI loB_allI.symm, rfl⟩
            case round =>
              obtain ⟨q, x, hq, rfl, rfl, HXq, rfl⟩ := hrel
              by_cases hq0 : q = 0
              · subst hq0
                have e0 : ((0 : Nat) : Int) - 1 = -1 := rfl
                rw [e0]
                have HV := hideI (HXq.out.trans (by rw [List.drop_zero]))
                have s9 : IntKind.i64.wrap ((p : Int) + (((9 : Nat) : Int) + 1)) = (p : Int) + (((9 : Nat) : Int) + 1) := by rw [IntKind.wrap_i64]; omega
                clear HC
                go_wp2
                go_ret3
                exact ⟨gu_okI HX.out (by rw [HV.out]) (by omega), rfl⟩
              · obtain ⟨r, rfl⟩ : ∃ r, q = r + 1 := ⟨q - 1, by omega⟩
                have e0 : ((r + 1 : Nat) : Int) - 1 = (r : Int) := by omega
                rw [e0]
                obtain ⟨b2, off2, d2, e2, xc2, hd2, hd2b⟩ := HC.out r (by omega)
                simp only [Option.some.injEq, Addr.mk.injEq, and_true] at e2
                obtain ⟨rfl, rfl⟩ := e2
                have HSt := hideI (loB_stepI (n := 9 + 1) (by omega) hil2 hd2)
                have hle := loB_dropI (L.take (9 + 1)) r
                have HXn : Hid (128 * x + d2 % 128 = loBI ((L.take (9 + 1)).drop r)) := hideI (by rw [HSt.out, ← HXq.out]; omega)
                have hxb : 128 * x + d2 % 128 < 18446744073709551616 := by rw [HXn.out]; omega
                have m1 : IntKind.u64.wrap (128 * (x : Int)) = 128 * (x : Int) := by rw [IntKind.wrap_u64]; omega
                have m2 : IntKind.u64.wrap ((d2 : Int) % 128) = (d2 : Int) % 128 := by rw [IntKind.wrap_u64]; omega
                have m3 : IntKind.u64.wrap (128 * (x : Int) + (d2 : Int) % 128) = 128 * (x : Int) + (d2 : Int) % 128 := by rw [IntKind.wrap_u64]; omega
                have m4 : IntKind.u8.wrap ((d2 : Int) % 128) = (d2 : Int) % 128 := by rw [IntKind.wrap_u8]; omega
                have s8 : IntKind.i64.wrap ((p : Int) + (r : Int)) = (p : Int) + (r : Int) := by rw [IntKind.wrap_i64]; omega
                have s7 : (p : Int) + (r : Int) < (n : Int) := by omega
                have hr0 : (0 : Int) ≤ (r : Int) := by omega
                clear HC HSt hle hd2
                go_wp2
                go_roundw
                case rel => exact ⟨r, 128 * x + d2 % 128, by omega, by go_num, by go_num, HXn, by first | rfl | trivial⟩
                case measure => simp [intOf]
        · have q9 : (((i : Int) + 1) == 10) = false := by rw [beq_eq_false_iff_ne]; omega
          have z0 : IntKind.i64.wrap ((i : Int) + 1) = (i : Int) + 1 := by rw [IntKind.wrap_i64]; omega
          by_cases h128 : d < 128
          · have hA2 := HA1.out
            rw [if_pos h128] at hA2
            have g1 : decide ((d : Int) < 128) = true := decide_eq_true (by omega)
            have g2 : decide (d < 128) = true := decide_eq_true h128
            by_cases hd0 : d = 0
            · subst hd0
              by_cases hi0 : i = 0
              · have HX : Hid (R = .ok (loBI (L.take (i + 1)), i + 1)) := hideI (by rw [hA2, if_neg (fun e => by omega)])
                have g3 : decide ((1 : Int) < (i : Int) + 1) = false := decide_eq_false (by omega)
                have g4 : ¬ (1 : Int) < (i : Int) + 1 := by omega
                have hi1 : i ≤ 1 := by omega
                clear hA2 HA1 HNx1 hi0
                subst hwr0
                have hbx := HRl.out _ _ HX.out
                have hil2 : i + 1 ≤ L.length := by rw [HLl.out]; omega
                have z1 : IntKind.i64.wrap (((i : Nat) : Int) + 1) = ((i : Nat) : Int) + 1 := by rw [IntKind.wrap_i64]; omega
                have z2 : IntKind.i64.wrap (((i : Nat) : Int) + 1 - 1) = ((i : Nat) : Int) := by rw [IntKind.wrap_i64]; omega
                have z3 : ((i : Nat) : Int) + 1 - 1 = ((i : Nat) : Int) := by omega
                go_wp2
                go_loopw [9, 10] (fun v9 v10 wr => ∃ q x : Nat, q ≤ i + 1 ∧ v10 = .int .i64 ((q : Int) - 1) ∧ v9 = .int .u64 x ∧ Hid (x = loBI ((L.take (i + 1)).drop q)) ∧ wr = wr0) (fun _ v10 _ => (intOf v10 + 1).toNat)
                case atStart => exact ⟨i + 1, 0, Nat.le_refl _, by go_num, rfl, hideI loB_allI.symm, rfl⟩
                case round =>
                  obtain ⟨q, x, hq, rfl, rfl, HXq, rfl⟩ := hrel
                  by_cases hq0 : q = 0
                  · subst hq0
                    have e0 : ((0 : Nat) : Int) - 1 = -1 := rfl
                    rw [e0]
                    have HV := hideI (HXq.out.trans (by rw [List.drop_zero]))
                    have s9 : IntKind.i64.wrap ((p : Int) + (((i : Nat) : Int) + 1)) = (p : Int) + (((i : Nat) : Int) + 1) := by rw [IntKind.wrap_i64]; omega
                    clear HC
                    go_wp2
                    go_ret3
                    exact ⟨gu_okI HX.out (by rw [HV.out]) (by omega), rfl⟩
                  · obtain ⟨r, rfl⟩ : ∃ r, q = r + 1 := ⟨q - 1, by omega⟩
                    have e0 : ((r + 1 : Nat) : Int) - 1 = (r : Int) := by omega
                    rw [e0]
                    obtain ⟨b2, off2, d2, e2, xc2, hd2, hd2b⟩ := HC.out r (by omega)
                    simp only [Option.some.injEq, Addr.mk.injEq, and_true] at e2
                    obtain ⟨rfl, rfl⟩ := e2
                    have HSt := hideI (loB_stepI (n := i + 1) (by omega) hil2 hd2)
                    have hle := loB_dropI (L.take (i + 1)) r
                    have HXn : Hid (128 * x + d2 % 128 = loBI ((L.take (i + 1)).drop r)) := hideI (by rw [HSt.out, ← HXq.out]; omega)
                    have hxb : 128 * x + d2 % 128 < 18446744073709551616 := by rw [HXn.out]; omega
                    have m1 : IntKind.u64.wrap (128 * (x : Int)) = 128 * (x : Int) := by rw [IntKind.wrap_u64]; omega
                    have m2 : IntKind.u64.wrap ((d2 : Int) % 128) = (d2 : Int) % 128 := by rw [IntKind.wrap_u64]; omega
                    have m3 : IntKind.u64.wrap (128 * (x : Int) + (d2 : Int) % 128) = 128 * (x : Int) + (d2 : Int) % 128 := by rw [IntKind.wrap_u64]; omega
                    have m4 : IntKind.u8.wrap ((d2 : Int) % 128) = (d2 : Int) % 128 := by rw [IntKind.wrap_u8]; omega
                    have s8 : IntKind.i64.wrap ((p : Int) + (r : Int)) = (p : Int) + (r : Int) := by rw [IntKind.wrap_i64]; omega
                    have s7 : (p : Int) + (r : Int) < (n : Int) := by omega
                    have hr0 : (0 : Int) ≤ (r : Int) := by omega
                    clear HC HSt hle hd2
                    go_wp2
                    go_roundw
                    case rel => exact ⟨r, 128 * x + d2 % 128, by omega, by go_num, by go_num, HXn, by first | rfl | trivial⟩
                    case measure => simp [intOf]
              · have HX : Hid (R = .error 1) := hideI (by rw [hA2, if_pos ⟨rfl, by omega⟩])
                have g3 : decide ((1 : Int) < (i : Int) + 1) = true := decide_eq_true (by omega)
                have g4 : (1 : Int) < (i : Int) + 1 := by omega
                clear hA2 HA1 HNx1 HC
                go_wp2
                go_ret3
                exact ⟨gu_errI HX.out rfl rfl, rfl⟩
            · have HX : Hid (R = .ok (loBI (L.take (i + 1)), i + 1)) := hideI (by rw [hA2, if_neg (fun e => hd0 e.1)])
              have g3 : ((d : Int) == 0) = false := by rw [beq_eq_false_iff_ne]; omega
              have g4 : (d == 0) = false := by rw [beq_eq_false_iff_ne]; exact hd0
              clear hA2 HA1 HNx1
              subst hwr0
              have hbx := HRl.out _ _ HX.out
              have hil2 : i + 1 ≤ L.length := by rw [HLl.out]; omega
              have z1 : IntKind.i64.wrap (((i : Nat) : Int) + 1) = ((i : Nat) : Int) + 1 := by rw [IntKind.wrap_i64]; omega
              have z2 : IntKind.i64.wrap (((i : Nat) : Int) + 1 - 1) = ((i : Nat) : Int) := by rw [IntKind.wrap_i64]; omega
              have z3 : ((i : Nat) : Int) + 1 - 1 = ((i : Nat) : Int) := by omega
              go_wp2
              go_loopw [9, 10] (fun v9 v10 wr => ∃ q x : Nat, q ≤ i + 1 ∧ v10 = .int .i64 ((q : Int) - 1) ∧ v9 = .int .u64 x ∧ Hid (x = loBI ((L.take (i + 1)).drop q)) ∧ wr = wr0) (fun _ v10 _ => (intOf v10 + 1).toNat)
              case atStart => exact ⟨i + 1, 0, Nat.le_refl _, by go_num, rfl, hideI loB_allI.symm, rfl⟩
              case round =>
                obtain ⟨q, x, hq, rfl, rfl, HXq, rfl⟩ := hrel
                by_cases hq0 : q = 0
                · subst hq0
                  have e0 : ((0 : Nat) : Int) - 1 = -1 := rfl
                  rw [e0]
                  have HV := hideI (HXq.out.trans (by rw [List.drop_zero]))
                  have s9 : IntKind.i64.wrap ((p : Int) + (((i : Nat) : Int) + 1)) = (p : Int) + (((i : Nat) : Int) + 1) := by rw [IntKind.wrap_i64]; omega
                  clear HC
                  go_wp2
                  go_ret3
                  exact ⟨gu_okI HX.out (by rw [HV.out]) (by omega), rfl⟩
                · obtain ⟨r, rfl⟩ : ∃ r, q = r + 1 := ⟨q - 1, by omega⟩
                  have e0 : ((r + 1 : Nat) : Int) - 1 = (r : Int) := by omega
                  rw [e0]
                  obtain ⟨b2, off2, d2, e2, xc2, hd2, hd2b⟩ := HC.out r (by omega)
                  simp only [Option.some.injEq, Addr.mk.injEq, and_true] at e2
                  obtain ⟨rfl, rfl⟩ := e2
                  have HSt := hideI (loB_stepI (n := i + 1) (by omega) hil2 hd2)
                  have hle := loB_dropI (L.take (i + 1)) r
                  have HXn : Hid (128 * x + d2 % 128 = loBI ((L.take (i + 1)).drop r)) := hideI (by rw [HSt.out, ← HXq.out]; omega)
                  have hxb : 128 * x + d2 % 128 < 18446744073709551616 := by rw [HXn.out]; omega
                  have m1 : IntKind.u64.wrap (128 * (x : Int)) = 128 * (x : Int) := by rw [IntKind.wrap_u64]; omega
                  have m2 : IntKind.u64.wrap ((d2 : Int) % 128) = (d2 : Int) % 128 := by rw [IntKind.wrap_u64]; omega
                  have m3 : IntKind.u64.wrap (128 * (x : Int) + (d2 : Int) % 128) = 128 * (x : Int) + (d2 : Int) % 128 := by rw [IntKind.wrap_u64]; omega
                  have m4 : IntKind.u8.wrap ((d2 : Int) % 128) = (d2 : Int) % 128 := by rw [IntKind.wrap_u8]; omega
                  have s8 : IntKind.i64.wrap ((p : Int) + (r : Int)) = (p : Int) + (r : Int) := by rw [IntKind.wrap_i64]; omega
                  have s7 : (p : Int) + (r : Int) < (n : Int) := by omega
                  have hr0 : (0 : Int) ≤ (r : Int) := by omega
                  clear HC HSt hle hd2
                  go_wp2
                  go_roundw
                  case rel => exact ⟨r, 128 * x + d2 % 128, by omega, by go_num, by go_num, HXn, by first | rfl | trivial⟩
                  case measure => simp [intOf]
          · have HN2 := hideI (HNx1.out h128)
            have g1 : decide ((d : Int) < 128) = false := decide_eq_false (by omega)
            have g2 : decide (d < 128) = false := decide_eq_false h128
            clear HA1 HNx1 HC
            go_wp2
            go_roundw
            case rel => exact ⟨i + 1, by omega, by omega, by go_num, HN2, by first | rfl | trivial⟩
            case measure => simp [intOf]; omega
    · have HX : Hid (R = .error 0) := hideI (HR.out.trans (fau_endI HF.out (by rw [HLl.out]; omega)))
      have hlt2 : (n : Int) ≤ (p : Int) + (i : Int) := by omega
      have hlt3 : decide ((n : Int) ≤ (p : Int) + (i : Int)) = true := decide_eq_true hlt2
      clear HC
      go_wp2
      go_ret3
      exact ⟨gu_errI HX.out rfl rfl, rfl⟩
end Go.Proofs.YtiebmmpnmklpnaaDoor
