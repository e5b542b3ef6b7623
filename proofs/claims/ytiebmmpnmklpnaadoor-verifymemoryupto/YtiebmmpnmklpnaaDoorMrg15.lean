import Derived.Test.YtiebmmpnmklpnaaDoorIza
import Derived.Test.YtiebmmpnmklpnaaDoorIzb
import Derived.Test.YtiebmmpnmklpnaaDoorMrg3
import Derived.Test.YtiebmmpnmklpnaaDoorIzg
namespace Go.Proofs.YtiebmmpnmklpnaaDoor
open Go.ChangeShapes Go.WideShapes Go.ChangeAt Go.RowKit

/-- The low sevens of bytes, the first lowest. -/
def loBI : List Int → Nat
  | [] => 0
  | c :: r => c.toNat % 128 + 128 * loBI r
theorem loB_appendI (A B : List Int) : loBI (A ++ B) = loBI A + 2 ^ (7 * A.length) * loBI B := by
  induction A with
  | nil => simp [loBI]
  | cons c r ih =>
    rw [List.cons_append, loBI, loBI, ih, List.length_cons, show 7 * (r.length + 1) = 7 + 7 * r.length by omega, Nat.pow_add, Nat.mul_add]
    have : 2 ^ 7 * 2 ^ (7 * r.length) * loBI B = 128 * (2 ^ (7 * r.length) * loBI B) := by rw [Nat.mul_assoc]
    omega
theorem loB_dropI (A : List Int) (k : Nat) : loBI (A.drop k) ≤ loBI A := by
  induction k generalizing A with
  | zero => simp
  | succ k ih =>
    cases A with
    | nil => simp
    | cons c r =>
      rw [List.drop_succ_cons, loBI]
      have := ih r
      omega
theorem loB_oneI (A : List Int) (c : Int) : loBI (A ++ [c]) = loBI A + c.toNat % 128 * 2 ^ (7 * A.length) := by
  rw [loB_appendI, loBI, loBI, Nat.mul_zero, Nat.add_zero, Nat.mul_comm]
/-- How far the reading has come: i bytes, all of them 128 and more. -/
structure FauI (L : List Int) (i : Nat) : Prop where
  eq : rdu 0 0 L = rdu i (loBI (L.take i)) (L.drop i)
  le : i ≤ 9
  il : i ≤ L.length
theorem fau_0I (L : List Int) : FauI L 0 := ⟨by simp [loBI], by omega, by omega⟩
theorem fau_endI {L : List Int} {i : Nat} (h : FauI L i) (hi : L.length ≤ i) : rdu 0 0 L = .error 0 := by
  rw [h.eq, List.drop_of_length_le hi, rdu]
theorem fau_atI {L : List Int} {i c : Nat} (h : FauI L i) (hi : i < L.length) (hc : L[i] = (c : Int)) :
    rdu 0 0 L = if i = 9 ∧ 1 < c then .error 1 else if c < 128 then (if c = 0 ∧ 0 < i then .error 1 else .ok (loBI (L.take (i + 1)), i + 1)) else rdu (i + 1) (loBI (L.take (i + 1))) (L.drop (i + 1)) := by
  have e1 : loBI (L.take (i + 1)) = loBI (L.take i) + c % 128 * 2 ^ (7 * i) := by
    rw [List.take_succ_eq_append_getElem hi, hc, loB_oneI, Int.toNat_natCast, List.length_take, Nat.min_eq_left (by omega)]
  rw [h.eq, List.drop_eq_getElem_cons hi, hc, rdu, e1, Int.toNat_natCast]
  have k1 : (i = 9 ∧ 1 < (c : Int)) ↔ (i = 9 ∧ 1 < c) := by omega
  have k2 : ((c : Int) < 128) ↔ c < 128 := by omega
  have k3 : ((c : Int) = 0 ∧ 0 < i) ↔ (c = 0 ∧ 0 < i) := by omega
  simp only [k1, k2, k3]
theorem fau_nextI {L : List Int} {i c : Nat} (h : FauI L i) (hi : i < L.length) (hc : L[i] = (c : Int)) (h1 : ¬ (i = 9 ∧ 1 < c)) (h2 : ¬ c < 128) : FauI L (i + 1) := by
  have := h.le
  refine ⟨?_, by omega, by omega⟩
  rw [fau_atI h hi hc, if_neg h1, if_neg h2]
theorem loB_stepI {L : List Int} {n q c : Nat} (hq : q < n) (hn : n ≤ L.length) (hc : L[q]? = some (c : Int)) : loBI ((L.take n).drop q) = c % 128 + 128 * loBI ((L.take n).drop (q + 1)) := by
  have hqn : q < (L.take n).length := by rw [List.length_take]; omega
  have e : (L.take n)[q] = (c : Int) := by
    rw [List.getElem_take]
    rw [List.getElem?_eq_getElem (by omega)] at hc
    exact Option.some.inj hc
  rw [List.drop_eq_getElem_cons hqn, e, loBI, Int.toNat_natCast]
theorem loB_allI {L : List Int} {n : Nat} : loBI ((L.take n).drop n) = 0 := by
  rw [List.drop_of_length_le (by rw [List.length_take]; omega)]; rfl

def guVI (p : Nat) : Except Nat (Nat × Nat) → Value
  | .ok (x, k) => .tuple #[.int .u64 x, .int .i64 ((p + k : Nat) : Int), .int .i64 0]
  | .error e => .tuple #[.int .u64 0, .int .i64 p, .int .i64 ((e + 1 : Nat) : Int)]
theorem gu_errI {p er : Nat} {R : Except Nat (Nat × Nat)} {y z : Int} (h : R = .error er) (hy : y = p) (hz : z = ((er + 1 : Nat) : Int)) : Ending.returned (.tuple #[.int .u64 0, .int .i64 y, .int .i64 z]) = .returned (guVI p R) := by rw [h, hy, hz]; rfl
theorem gu_okI {p x k : Nat} {R : Except Nat (Nat × Nat)} {y z : Int} (h : R = .ok (x, k)) (hy : y = x) (hz : z = ((p + k : Nat) : Int)) : Ending.returned (.tuple #[.int .u64 y, .int .i64 z, .int .i64 0]) = .returned (guVI p R) := by rw [h, hy, hz]; rfl
set_option maxRecDepth 20000 in
set_option maxHeartbeats 8000000 in
theorem rgetu_anyI (l : List Int) (a : Option Addr) (n c p : Nat) (w : World) (hn : n = l.length) (hB : BytesAt w a l) (hI : IsBytes l) (hp : p ≤ l.length) (hl : l.length ≤ 140737488355328) :
    Calls Tryd.prog 43 #[.slice a n c, .int .i64 p] w fun e w' => e = .returned (guVI p (rdu 0 0 (l.drop p))) ∧ w' = w := by
  obtain ⟨L, hL⟩ : ∃ L, L = l.drop p := ⟨_, rfl⟩
  have hLl : L.length = n - p := by rw [hL, List.length_drop, hn]
  have HC : Hid (∀ k, p + k < n → ∃ b off d : Nat, a = some ⟨b, off, none⟩ ∧ w.cell? ⟨b, off + (p + k), none⟩ = some (.int .u8 (d : Int)) ∧ L[k]? = some (d : Int) ∧ d < 256) := hideI (fun k hk => by
    obtain ⟨b, off, e, hc⟩ := hB (by intro e; rw [e] at hn; simp at hn; omega)
    have h1 := hc (p + k) (by omega)
    have h2 := hI _ (List.getElem_mem (show p + k < l.length by omega))
    have h3 : l[p + k]?.getD 0 = l[p + k] := by rw [List.getElem?_eq_getElem (by omega)]; rfl
    refine ⟨b, off, l[p + k].toNat, e, ?_, ?_, by omega⟩
    · rw [h1, h3]; congr 2; omega
    · rw [hL, List.getElem?_drop, List.getElem?_eq_getElem (by omega)]; congr 1; omega)
  have HRl : Hid (∀ x k, rdu 0 0 L = .ok (x, k) → x < 18446744073709551616) := hideI (fun x k h => rdu_lt L 0 0 x k (by omega) (by decide) (fun y hy => by rw [hL] at hy; exact hI y (List.mem_of_mem_drop hy)) h)
  rw [← hL]
  have hpn : p ≤ n := by omega
  have hnb : n ≤ 140737488355328 := by omega
  clear hL hB hI hn hp hl
  obtain ⟨R, hR⟩ : ∃ R, R = rdu 0 0 L := ⟨_, rfl⟩
  rw [← hR]
  rw [← hR] at HRl
  have HR := hideI hR
  have HLl := hideI hLl
  clear hR hLl
  go_enter Tryd.func43, Tryd.ntmps43
  go_wp2
  go_loopw [7] (fun v7 wr => ∃ i : Nat, i ≤ 9 ∧ p + i ≤ n ∧ v7 = .int .i64 i ∧ Hid (FauI L i) ∧ wr = w) (fun v7 _ => 20 - (intOf v7).toNat)
  case atStart => exact ⟨0, by omega, by omega, rfl, hideI (fau_0I L), rfl⟩
  case round =>
    obtain ⟨i, hi9, hin, rfl, HF, rfl⟩ := hrel
    have s1 : IntKind.i64.wrap ((p : Int) + (i : Int)) = (p : Int) + (i : Int) := by rw [IntKind.wrap_i64]; omega
    by_cases hlt : p + i < n
    · obtain ⟨b, off, d, rfl, xc, hd, hd256⟩ := HC.out i hlt
      have hil : i < L.length := by rw [HLl.out]; omega
      have hdl : L[i] = (d : Int) := by rw [List.getElem?_eq_getElem hil] at hd; exact Option.some.inj hd
      have HA := hideI (HR.out.trans (fau_atI HF.out hil hdl))
      have HNx := hideI (fun h1 h2 => fau_nextI HF.out hil hdl h1 h2)
      have hlt2 : ¬ (n : Int) ≤ (p : Int) + (i : Int) := by omega
      have hlt3 : (p : Int) + (i : Int) < (n : Int) := by omega
      have hd1 : (d : Int) < 256 := by omega
      clear hd hdl
      by_cases h9 : i = 9 ∧ 1 < d
      · have HX : Hid (R = .error 1) := hideI (by rw [HA.out, if_pos h9])
        obtain ⟨rfl, h1d⟩ := h9
        have g1 : decide ((1 : Int) < (d : Int)) = true := decide_eq_true (by omega)
        have g2 : decide (1 < d) = true := decide_eq_true h1d
        clear HA HNx HC
        go_wp2
        go_ret3
        exact ⟨gu_errI HX.out rfl rfl, rfl⟩
      · have hA1 := HA.out
        rw [if_neg h9] at hA1
        have HA1 := hideI hA1
        have HNx1 := hideI (HNx.out h9)
        have H9 := hideI h9
        clear HA HNx h9 hA1
        obtain ⟨wr0, hwr0⟩ : ∃ wr0, wr0 = wr := ⟨_, rfl⟩
        by_cases e9 : i = 9
        · subst e9
          have hd1 : d ≤ 1 := by have := H9.out; omega
          have g1 : decide ((1 : Int) < (d : Int)) = false := decide_eq_false (by omega)
          have g2 : decide (1 < d) = false := decide_eq_false (by omega)
          have hA2 := HA1.out
          rw [if_pos (by omega)] at hA2
          by_cases hd0 : d = 0
          · subst hd0
            have HX : Hid (R = .error 1) := hideI (by rw [hA2, if_pos ⟨rfl, by omega⟩])
            clear hA2 HA1 HNx1 HC
            go_wp2
            go_ret3
            exact ⟨gu_errI HX.out rfl rfl, rfl⟩
          · obtain rfl : d = 1 := by omega
            have HX : Hid (R = .ok (loBI (L.take (9 + 1)), 9 + 1)) := hideI (by rw [hA2, if_neg (fun e => hd0 e.1)])
            clear hA2 HA1 HNx1
            subst hwr0
            have hbx := HRl.out _ _ HX.out
            have hil2 : 9 + 1 ≤ L.length := by rw [HLl.out]; omega
            have z1 : IntKind.i64.wrap (((9 : Nat) : Int) + 1) = ((9 : Nat) : Int) + 1 := by rw [IntKind.wrap_i64]; omega
            have z2 : IntKind.i64.wrap (((9 : Nat) : Int) + 1 - 1) = ((9 : Nat) : Int) := by rw [IntKind.wrap_i64]; omega
            have z3 : ((9 : Nat) : Int) + 1 - 1 = ((9 : Nat) : Int) := by omega
            go_wp2
            go_loopw [9, 10] (fun v9 v10 wr => ∃ q x : Nat, q ≤ 9 + 1 ∧ v10 = .int .i64 ((q : Int) - 1) ∧ v9 = .int .u64 x ∧ Hid (x = loBI ((L.take (9 + 1)).drop q)) ∧ wr = wr0) (fun _ v10 _ => (intOf v10 + 1).toNat)
            case atStart => exact ⟨9 + 1, 0, Nat.le_refl _, by go_num, rfl, hideI loB_allI.symm, rfl⟩
            case round =>
              obtain ⟨q, x, hq, rfl, rfl, HXq, rfl⟩ := hrel
              by_cases hq0 : q = 0
              · subst hq0
                have e0 : ((0 : Nat) : Int) - 1 = -1 := rfl
                rw [e0]
                have HV := hideI (HXq.out.trans (by rw [List.drop_zero]))
                have s9 : IntKind.i64.wrap ((p : Int) + (((9 : Nat) : Int) + 1)) = (p : Int) + (((9 : Nat) : Int) + 1) := by rw [IntKind.wrap_i64]; omega
                clear HC
                go_wp2
                go_ret3
                exact ⟨gu_okI HX.out (by rw [HV.out]) (by omega), rfl⟩
              · obtain ⟨r, rfl⟩ : ∃ r, q = r + 1 := ⟨q - 1, by omega⟩
                have e0 : ((r + 1 : Nat) : Int) - 1 = (r : Int) := by omega
                rw [e0]
                obtain ⟨b2, off2, d2, e2, xc2, hd2, hd2b⟩ := HC.out r (by omega)
                simp only [Option.some.injEq, Addr.mk.injEq, and_true] at e2
                obtain ⟨rfl, rfl⟩ := e2
                have HSt := hideI (loB_stepI (n := 9 + 1) (by omega) hil2 hd2)
                have hle := loB_dropI (L.take (9 + 1)) r
                have HXn : Hid (128 * x + d2 % 128 = loBI ((L.take (9 + 1)).drop r)) := hideI (by rw [HSt.out, ← HXq.out]; omega)
                have hxb : 128 * x + d2 % 128 < 18446744073709551616 := by rw [HXn.out]; omega
                have m1 : IntKind.u64.wrap (128 * (x : Int)) = 128 * (x : Int) := by rw [IntKind.wrap_u64]; omega
                have m2 : IntKind.u64.wrap ((d2 : Int) % 128) = (d2 : Int) % 128 := by rw [IntKind.wrap_u64]; omega
                have m3 : IntKind.u64.wrap (128 * (x : Int) + (d2 : Int) % 128) = 128 * (x : Int) + (d2 : Int) % 128 := by rw [IntKind.wrap_u64]; omega
                have m4 : IntKind.u8.wrap ((d2 : Int) % 128) = (d2 : Int) % 128 := by rw [IntKind.wrap_u8]; omega
                have s8 : IntKind.i64.wrap ((p : Int) + (r : Int)) = (p : Int) + (r : Int) := by rw [IntKind.wrap_i64]; omega
                have s7 : (p : Int) + (r : Int) < (n : Int) := by omega
                have hr0 : (0 : Int) ≤ (r : Int) := by omega
                clear HC HSt hle hd2
                go_wp2
                go_roundw
                case rel => exact ⟨r, 128 * x + d2 % 128, by omega, by go_num, by go_num, HXn, by first | rfl | trivial⟩
                case measure => simp [intOf]
        · have q9 : (((i : Int) + 1) == 10) = false := by rw [beq_eq_false_iff_ne]; omega
          have z0 : IntKind.i64.wrap ((i : Int) + 1) = (i : Int) + 1 := by rw [IntKind.wrap_i64]; omega
          by_cases h128 : d < 128
          · have hA2 := HA1.out
            rw [if_pos h128] at hA2
            have g1 : decide ((d : Int) < 128) = true := decide_eq_true (by omega)
            have g2 : decide (d < 128) = true := decide_eq_true h128
            by_cases hd0 : d = 0
            · subst hd0
              by_cases hi0 : i = 0
              · have HX : Hid (R = .ok (loBI (L.take (i + 1)), i + 1)) := hideI (by rw [hA2, if_neg (fun e => by omega)])
                have g3 : decide ((1 : Int) < (i : Int) + 1) = false := decide_eq_false (by omega)
                have g4 : ¬ (1 : Int) < (i : Int) + 1 := by omega
                have hi1 : i ≤ 1 := by omega
                clear hA2 HA1 HNx1 hi0
                subst hwr0
                have hbx := HRl.out _ _ HX.out
                have hil2 : i + 1 ≤ L.length := by rw [HLl.out]; omega
                have z1 : IntKind.i64.wrap (((i : Nat) : Int) + 1) = ((i : Nat) : Int) + 1 := by rw [IntKind.wrap_i64]; omega
                have z2 : IntKind.i64.wrap (((i : Nat) : Int) + 1 - 1) = ((i : Nat) : Int) := by rw [IntKind.wrap_i64]; omega
                have z3 : ((i : Nat) : Int) + 1 - 1 = ((i : Nat) : Int) := by omega
                go_wp2
                go_loopw [9, 10] (fun v9 v10 wr => ∃ q x : Nat, q ≤ i + 1 ∧ v10 = .int .i64 ((q : Int) - 1) ∧ v9 = .int .u64 x ∧ Hid (x = loBI ((L.take (i + 1)).drop q)) ∧ wr = wr0) (fun _ v10 _ => (intOf v10 + 1).toNat)
                case atStart => exact ⟨i + 1, 0, Nat.le_refl _, by go_num, rfl, hideI loB_allI.symm, rfl⟩
                case round =>
                  obtain ⟨q, x, hq, rfl, rfl, HXq, rfl⟩ := hrel
                  by_cases hq0 : q = 0
                  · subst hq0
                    have e0 : ((0 : Nat) : Int) - 1 = -1 := rfl
                    rw [e0]
                    have HV := hideI (HXq.out.trans (by rw [List.drop_zero]))
                    have s9 : IntKind.i64.wrap ((p : Int) + (((i : Nat) : Int) + 1)) = (p : Int) + (((i : Nat) : Int) + 1) := by rw [IntKind.wrap_i64]; omega
                    clear HC
                    go_wp2
                    go_ret3
                    exact ⟨gu_okI HX.out (by rw [HV.out]) (by omega), rfl⟩
                  · obtain ⟨r, rfl⟩ : ∃ r, q = r + 1 := ⟨q - 1, by omega⟩
                    have e0 : ((r + 1 : Nat) : Int) - 1 = (r : Int) := by omega
                    rw [e0]
                    obtain ⟨b2, off2, d2, e2, xc2, hd2, hd2b⟩ := HC.out r (by omega)
                    simp only [Option.some.injEq, Addr.mk.injEq, and_true] at e2
                    obtain ⟨rfl, rfl⟩ := e2
                    have HSt := hideI (loB_stepI (n := i + 1) (by omega) hil2 hd2)
                    have hle := loB_dropI (L.take (i + 1)) r
                    have HXn : Hid (128 * x + d2 % 128 = loBI ((L.take (i + 1)).drop r)) := hideI (by rw [HSt.out, ← HXq.out]; omega)
                    have hxb : 128 * x + d2 % 128 < 18446744073709551616 := by rw [HXn.out]; omega
                    have m1 : IntKind.u64.wrap (128 * (x : Int)) = 128 * (x : Int) := by rw [IntKind.wrap_u64]; omega
                    have m2 : IntKind.u64.wrap ((d2 : Int) % 128) = (d2 : Int) % 128 := by rw [IntKind.wrap_u64]; omega
                    have m3 : IntKind.u64.wrap (128 * (x : Int) + (d2 : Int) % 128) = 128 * (x : Int) + (d2 : Int) % 128 := by rw [IntKind.wrap_u64]; omega
                    have m4 : IntKind.u8.wrap ((d2 : Int) % 128) = (d2 : Int) % 128 := by rw [IntKind.wrap_u8]; omega
                    have s8 : IntKind.i64.wrap ((p : Int) + (r : Int)) = (p : Int) + (r : Int) := by rw [IntKind.wrap_i64]; omega
                    have s7 : (p : Int) + (r : Int) < (n : Int) := by omega
                    have hr0 : (0 : Int) ≤ (r : Int) := by omega
                    clear HC HSt hle hd2
                    go_wp2
                    go_roundw
                    case rel => exact ⟨r, 128 * x + d2 % 128, by omega, by go_num, by go_num, HXn, by first | rfl | trivial⟩
                    case measure => simp [intOf]
              · have HX : Hid (R = .error 1) := hideI (by rw [hA2, if_pos ⟨rfl, by omega⟩])
                have g3 : decide ((1 : Int) < (i : Int) + 1) = true := decide_eq_true (by omega)
                have g4 : (1 : Int) < (i : Int) + 1 := by omega
                clear hA2 HA1 HNx1 HC
                go_wp2
                go_ret3
                exact ⟨gu_errI HX.out rfl rfl, rfl⟩
            · have HX : Hid (R = .ok (loBI (L.take (i + 1)), i + 1)) := hideI (by rw [hA2, if_neg (fun e => hd0 e.1)])
              have g3 : ((d : Int) == 0) = false := by rw [beq_eq_false_iff_ne]; omega
              have g4 : (d == 0) = false := by rw [beq_eq_false_iff_ne]; exact hd0
              clear hA2 HA1 HNx1
              subst hwr0
              have hbx := HRl.out _ _ HX.out
              have hil2 : i + 1 ≤ L.length := by rw [HLl.out]; omega
              have z1 : IntKind.i64.wrap (((i : Nat) : Int) + 1) = ((i : Nat) : Int) + 1 := by rw [IntKind.wrap_i64]; omega
              have z2 : IntKind.i64.wrap (((i : Nat) : Int) + 1 - 1) = ((i : Nat) : Int) := by rw [IntKind.wrap_i64]; omega
              have z3 : ((i : Nat) : Int) + 1 - 1 = ((i : Nat) : Int) := by omega
              go_wp2
              go_loopw [9, 10] (fun v9 v10 wr => ∃ q x : Nat, q ≤ i + 1 ∧ v10 = .int .i64 ((q : Int) - 1) ∧ v9 = .int .u64 x ∧ Hid (x = loBI ((L.take (i + 1)).drop q)) ∧ wr = wr0) (fun _ v10 _ => (intOf v10 + 1).toNat)
              case atStart => exact ⟨i + 1, 0, Nat.le_refl _, by go_num, rfl, hideI loB_allI.symm, rfl⟩
              case round =>
                obtain ⟨q, x, hq, rfl, rfl, HXq, rfl⟩ := hrel
                by_cases hq0 : q = 0
                · subst hq0
                  have e0 : ((0 : Nat) : Int) - 1 = -1 := rfl
                  rw [e0]
                  have HV := hideI (HXq.out.trans (by rw [List.drop_zero]))
                  have s9 : IntKind.i64.wrap ((p : Int) + (((i : Nat) : Int) + 1)) = (p : Int) + (((i : Nat) : Int) + 1) := by rw [IntKind.wrap_i64]; omega
                  clear HC
                  go_wp2
                  go_ret3
                  exact ⟨gu_okI HX.out (by rw [HV.out]) (by omega), rfl⟩
                · obtain ⟨r, rfl⟩ : ∃ r, q = r + 1 := ⟨q - 1, by omega⟩
                  have e0 : ((r + 1 : Nat) : Int) - 1 = (r : Int) := by omega
                  rw [e0]
                  obtain ⟨b2, off2, d2, e2, xc2, hd2, hd2b⟩ := HC.out r (by omega)
                  simp only [Option.some.injEq, Addr.mk.injEq, and_true] at e2
                  obtain ⟨rfl, rfl⟩ := e2
                  have HSt := hideI (loB_stepI (n := i + 1) (by omega) hil2 hd2)
                  have hle := loB_dropI (L.take (i + 1)) r
                  have HXn : Hid (128 * x + d2 % 128 = loBI ((L.take (i + 1)).drop r)) := hideI (by rw [HSt.out, ← HXq.out]; omega)
                  have hxb : 128 * x + d2 % 128 < 18446744073709551616 := by rw [HXn.out]; omega
                  have m1 : IntKind.u64.wrap (128 * (x : Int)) = 128 * (x : Int) := by rw [IntKind.wrap_u64]; omega
                  have m2 : IntKind.u64.wrap ((d2 : Int) % 128) = (d2 : Int) % 128 := by rw [IntKind.wrap_u64]; omega
                  have m3 : IntKind.u64.wrap (128 * (x : Int) + (d2 : Int) % 128) = 128 * (x : Int) + (d2 : Int) % 128 := by rw [IntKind.wrap_u64]; omega
                  have m4 : IntKind.u8.wrap ((d2 : Int) % 128) = (d2 : Int) % 128 := by rw [IntKind.wrap_u8]; omega
                  have s8 : IntKind.i64.wrap ((p : Int) + (r : Int)) = (p : Int) + (r : Int) := by rw [IntKind.wrap_i64]; omega
                  have s7 : (p : Int) + (r : Int) < (n : Int) := by omega
                  have hr0 : (0 : Int) ≤ (r : Int) := by omega
                  clear HC HSt hle hd2
                  go_wp2
                  go_roundw
                  case rel => exact ⟨r, 128 * x + d2 % 128, by omega, by go_num, by go_num, HXn, by first | rfl | trivial⟩
                  case measure => simp [intOf]
          · have HN2 := hideI (HNx1.out h128)
            have g1 : decide ((d : Int) < 128) = false := decide_eq_false (by omega)
            have g2 : decide (d < 128) = false := decide_eq_false h128
            clear HA1 HNx1 HC
            go_wp2
            go_roundw
            case rel => exact ⟨i + 1, by omega, by omega, by go_num, HN2, by first | rfl | trivial⟩
            case measure => simp [intOf]; omega
    · have HX : Hid (R = .error 0) := hideI (HR.out.trans (fau_endI HF.out (by rw [HLl.out]; omega)))
      have hlt2 : (n : Int) ≤ (p : Int) + (i : Int) := by omega
      have hlt3 : decide ((n : Int) ≤ (p : Int) + (i : Int)) = true := decide_eq_true hlt2
      clear HC
      go_wp2
      go_ret3
      exact ⟨gu_errI HX.out rfl rfl, rfl⟩
end Go.Proofs.YtiebmmpnmklpnaaDoor
namespace Go.Proofs.YtiebmmpnmklpnaaDoor
open Go.ChangeShapes Go.WideShapes Go.ChangeAt Go.RowKit

/-- What the document's Decode answers. -/
def rdcP (w : World) (T : Option (List In)) (e : Ending) (w' : World) : Prop :=
  (T = none → e = .returned (.tuple #[.slice none 0 0, .int .i64 21])) ∧
  (∀ m, T = some m → ∃ a c, e = .returned (.tuple #[.slice a m.length c, .int .i64 0]) ∧ w'.ownsRow w.heap.size 74 3 (.slice a m.length c) m.length (ivs m)) ∧ Kept (fun _ => False) w w'
theorem set3_1 {W : World} {g : Nat} {x0 x1 x2 v : Value} {t : TypeId} (h : W.heap[g]? = some (.cells #[x0, x1, x2] t (0, 0))) : (W.setCell ⟨g, 1, none⟩ v).heap[g]? = some (.cells #[x0, v, x2] t (0, 0)) := by
  rw [heap_setCell_same W g 1 _ t v h]; rfl
theorem set3_2 {W : World} {g : Nat} {x0 x1 x2 v : Value} {t : TypeId} (h : W.heap[g]? = some (.cells #[x0, x1, x2] t (0, 0))) : (W.setCell ⟨g, 2, none⟩ v).heap[g]? = some (.cells #[x0, x1, v] t (0, 0)) := by
  rw [heap_setCell_same W g 2 _ t v h]; rfl
set_option maxRecDepth 20000 in
set_option maxHeartbeats 8000000 in
/-- The document's Decode, at any bytes. -/
theorem rdecode_any (l : List Int) (a : Option Addr) (c : Nat) (w : World) (hL : BytesAt w a l) (hB : IsBytes l) (hl : l.length ≤ 1099511627776) :
    Calls Tryd.prog 24 #[.slice a l.length c] w (rdcP w (dcI l)) := by
  have HL := hideI hL
  have HBy := hideI hB
  obtain ⟨T, hT⟩ : ∃ T, T = dcI l := ⟨_, rfl⟩
  rw [← hT]
  have HTT := hideI hT
  have HG0 := hideI (gro_empty w w 74 3 (Kept.refl _ _))
  clear hL hB hT
  obtain ⟨nl, hnl⟩ : ∃ nl, nl = l.length := ⟨_, rfl⟩
  rw [← hnl] at hl ⊢
  have HNL := hideI hnl
  clear hnl
  go_enter Tryd.func24, Tryd.ntmps24
  go_wp2
  go_loopw [4, 5] (fun v4 v5 wr => ∃ (q n : Nat) (a' : Option Addr) (c' : Nat) (L : List In), v4 = .slice a' n c' ∧ v5 = .int .i64 q ∧ q ≤ nl ∧ Hid (n = L.length ∧ L.length ≤ q) ∧ Hid (wr.ownsRow w.heap.size 74 3 (.slice a' n c') n (ivs L)) ∧ Hid (T = (dcI (l.drop q)).map fun r => L ++ r) ∧ Hid (Kept (fun _ => False) w wr)) (fun _ v5 _ => nl - (intOf v5).toNat)
  case atStart => exact ⟨0, 0, _, _, [], rfl, rfl, by omega, hideI ⟨rfl, by simp⟩, hideI HG0.out.own, hideI (by rw [HTT.out]; simp), hideI HG0.out.kept⟩
  case round =>
    obtain ⟨q, n, a', c', L, rfl, rfl, hq, HN, HG, HD, HK⟩ := hrel
    by_cases hlt : q < nl
    · have hqi : (q : Int) < (nl : Int) := by omega
      have hql : q < l.length := by rw [← HNL.out]; exact hlt
      obtain ⟨fb, fo, ea, hc0⟩ := HL.out.get hql
      obtain ⟨ch, hcl, hc256, hcg⟩ := HBy.out.at hql
      rw [hcl] at hc0
      have hc1 := HK.out.cell hc0 (fun f => f)
      have HDR : Hid (l.drop q = (ch : Int) :: l.drop (q + 1)) := hideI (by rw [List.drop_eq_getElem_cons hql, hcg])
      have HLr : Hid (BytesAt wr a l) := hideI (fun hne => by obtain ⟨b, off, e, hcc⟩ := HL.out hne; exact ⟨b, off, e, fun k hk => HK.out.cell (hcc k hk) (fun f => f)⟩)
      subst ea
      clear hc0 hcl hcg
      have hn : n ≤ 2199023255552 := by have := HN.out.1; have := HN.out.2; omega
      have HKx := hideI (Kept.alloc wr (.cells #[.int .i64 (ch : Int), .int .u64 0, .int .u64 0] 74))
      have HXx : Hid ((wr.alloc (.cells #[.int .i64 (ch : Int), .int .u64 0, .int .u64 0] 74)).heap[wr.heap.size]? = some (.cells #[.int .i64 (ch : Int), .int .u64 0, .int .u64 0] 74 (0, 0))) := hideI (heap_alloc_new wr _)
      have HA := hideI (rargs_any (ch : Int) (wr.alloc (.cells #[.int .i64 (ch : Int), .int .u64 0, .int .u64 0] 74)))
      have hne : l.drop q ≠ [] := by rw [HDR.out]; simp
      cases hO : isO (ch : Int) with
      | false =>
        rw [arV_out hO] at HA
        have HBad : Hid (T = none) := hideI (by rw [HD.out, dcI_bad hne (by rw [HDR.out, tk1, if_neg (by simp [hO])])]; rfl)
        clear hO hne HD
        go_wp2_with (go_at_call 42; refine HA.out.mono ?_; clear HA; rintro e W3 ⟨rfl, K3⟩; have HK3 := hideI ((HK.out.trans HKx.out (fun _ f => f.elim)).trans K3 (fun _ f => f.elim)); clear K3)
        go_ret2
        exact ⟨fun _ => rfl, fun m h => by rw [HBad.out] at h; (cases h), HK3.out⟩
      | true =>
        rw [arV_in hO] at HA
        have HTk : Hid (tk1 (l.drop q) = (rdN (arN ch) (l.drop (q + 1))).map fun p => (⟨ch, p.1.getD 0 0, p.1.getD 1 0⟩, 1 + p.2)) := hideI (by rw [HDR.out, tk1, if_pos hO])
        have hm2 := arN_le (ch : Int)
        generalize arN (ch : Int) = m at *
        have HNE := hideI hne
        clear hO hne
        go_wp2_with (go_at_call 42; refine HA.out.mono ?_; clear HA; rintro e W3 ⟨rfl, K3⟩; have HK3 := hideI ((HK.out.trans HKx.out (fun _ f => f.elim)).trans K3 (fun _ f => f.elim)); have HG3 := hideI (K3.row (HKx.out.row HG.out (fun _ _ f => f)) (fun _ _ f => f)); have HX3 := hideI (K3.heap HXx.out (fun f => f)); clear K3)
        obtain ⟨xb, hxb⟩ : ∃ xb, xb = wr.heap.size := ⟨_, rfl⟩
        have hxw : w.heap.size ≤ xb := by rw [hxb]; exact HK.out.size
        have HGX : Hid (∀ i, (Value.slice a' n c').ownBlock = some i → i < xb) := hideI (fun i hi => by have := (HG.out.lt i hi).2; omega)
        rw [← hxb] at HX3 ⊢
        have HLw := hideI HL.out
        clear hxb HXx HKx HG HLr HK hc1
        go_loopw [5, 9] (fun u5 u9 wr => ∃ (i k : Nat) (vs : List Nat), i ≤ m ∧ u9 = .int .i64 i ∧ u5 = .int .i64 ((q + 1 + k : Nat) : Int) ∧ Hid (vs.length = i ∧ rdN m (l.drop (q + 1)) = (rdN (m - i) ((l.drop (q + 1)).drop k)).map fun p => (vs ++ p.1, k + p.2)) ∧ Hid (q + 1 + k ≤ nl) ∧ Hid (wr.heap[xb]? = some (.cells #[.int .i64 (ch : Int), .int .u64 (vs.getD 0 0 : Nat), .int .u64 (vs.getD 1 0 : Nat)] 74 (0, 0))) ∧ Hid (wr.ownsRow w.heap.size 74 3 (.slice a' n c') n (ivs L)) ∧ Hid (Kept (fun _ => False) w wr)) (fun _ u9 _ => m - (intOf u9).toNat)
        case atStart => exact ⟨0, 0, [], by omega, rfl, by simp, hideI ⟨rfl, by simp⟩, hideI (by omega), HX3, HG3, HK3⟩
        case round =>
          obtain ⟨i, k, vs, hi, rfl, rfl, HI, HKL, HX, HGi, HKi⟩ := hrel
          obtain ⟨b0, b1, b2, b3⟩ := cell_row3 HX.out
          have f1 := b3 1
          have f2 := b3 2
          clear b3
          by_cases hlt2 : i < m
          · have hii : (i : Int) < (m : Int) := by omega
            have hi2 : i < 2 := by omega
            have hdd : l.drop (q + 1 + k) = (l.drop (q + 1)).drop k := List.drop_drop.symm
            have HLr : Hid (BytesAt wr (some ⟨fb, fo, none⟩) l) := hideI (fun hne => by obtain ⟨b, off, e, hcc⟩ := HLw.out hne; exact ⟨b, off, e, fun k hk => HKi.out.cell (hcc k hk) (fun f => f)⟩)
            have hU := rgetu_anyI l (some ⟨fb, fo, none⟩) nl c (q + 1 + k) wr HNL.out HLr.out HBy.out (by rw [← HNL.out]; exact HKL.out) (by have := HNL.out; omega)
            rw [hdd] at hU
            cases hx : rdu 0 0 ((l.drop (q + 1)).drop k) with
            | error er =>
              rw [hx] at hU
              have HBad : Hid (T = none) := hideI (by rw [HD.out, dcI_bad HNE.out (by rw [HTk.out, rdN_stop hlt2 HI.out.2 hx]; rfl)]; rfl)
              unfold guVI at hU
              simp only at hU
              obtain ⟨z, hz⟩ : ∃ z : Int, z = ((er + 1 : Nat) : Int) := ⟨_, rfl⟩
              rw [← hz] at hU
              have hz1 : (z != 0) = true := by rw [bne_iff_ne]; omega
              have hz2 : ¬ z = 0 := by omega
              have hz3 : (z == 0) = false := by rw [beq_eq_false_iff_ne]; omega
              have HU := hideI hU
              clear hz hU hx hdd b0 b1 b2 f1 f2
              go_wp2_with (go_at_call 43; refine HU.out.mono ?_; clear HU; rintro e W5 ⟨rfl, e5⟩; subst e5)
              go_ret2
              exact ⟨fun _ => rfl, fun m h => by rw [HBad.out] at h; (cases h), HKi.out⟩
            | ok p =>
              obtain ⟨x, k2⟩ := p
              rw [hx] at hU
              unfold guVI at hU
              simp only at hU
              have HU := hideI hU
              have HIN := hideI (rdN_next hlt2 HI.out.2 hx)
              have HPL : Hid (q + 1 + k + k2 ≤ nl) := hideI (by
                have h1 := (rdu_le _ _ _ _ _ hx).2
                rw [List.length_drop, List.length_drop, ← HNL.out] at h1
                have := HKL.out
                omega)
              clear hU hx hdd
              obtain hi01 | hi01 : i = 0 ∨ i = 1 := by omega
              · subst hi01
                rw [show ((0 : Nat) : Int) = 0 from rfl]
                go_wp2_with (go_at_call 43; refine HU.out.mono ?_; clear HU; rintro e W5 ⟨rfl, e5⟩; subst e5)
                have hKs := Kept.setCell W5 ⟨xb, 1, none⟩ (.int .u64 (x : Int))
                have hkt : q + 1 + k + k2 ≤ nl := by have := HKL.out; have := HPL.out; omega
                go_roundw
                case rel =>
                  refine ⟨1, k + k2, vs ++ [x], by omega, by go_num, congrArg (Value.int .i64) (by omega), hideI ⟨by simp [HI.out.1], HIN.out⟩, hideI (by omega), hideI ?_, hideI (hKs.row HGi.out (fun i hi e => by have h1 := (HGX.out i hi); simp only at e; omega)), hideI (HKi.out.trans hKs (fun i e => .inr (by simp only at e; omega)))⟩
                  rw [set3_1 HX.out]
                  obtain rfl : vs = [] := List.eq_nil_of_length_eq_zero HI.out.1
                  rfl
                case measure => simp [intOf]; omega
              · subst hi01
                rw [show ((1 : Nat) : Int) = 1 from rfl]
                go_wp2_with (go_at_call 43; refine HU.out.mono ?_; clear HU; rintro e W5 ⟨rfl, e5⟩; subst e5)
                have hKs := Kept.setCell W5 ⟨xb, 2, none⟩ (.int .u64 (x : Int))
                have hkt : q + 1 + k + k2 ≤ nl := by have := HKL.out; have := HPL.out; omega
                go_roundw
                case rel =>
                  refine ⟨2, k + k2, vs ++ [x], by omega, by go_num, congrArg (Value.int .i64) (by omega), hideI ⟨by simp [HI.out.1], HIN.out⟩, hideI (by omega), hideI ?_, hideI (hKs.row HGi.out (fun i hi e => by have h1 := (HGX.out i hi); simp only at e; omega)), hideI (HKi.out.trans hKs (fun i e => .inr (by simp only at e; omega)))⟩
                  rw [set3_2 HX.out]
                  match vs, HI.out.1 with
                  | [y], _ => rfl
                case measure => simp [intOf]; omega
          · obtain rfl : i = m := by omega
            have HF : Hid (T = (dcI (l.drop (q + (1 + k)))).map fun r => (L ++ [⟨ch, vs.getD 0 0, vs.getD 1 0⟩]) ++ r) := hideI (by
              rw [HD.out, dcI_good (show tk1 (l.drop q) = some (⟨ch, vs.getD 0 0, vs.getD 1 0⟩, 1 + k) by rw [HTk.out, HI.out.2, Nat.sub_self, rdN]; simp), List.drop_drop, Option.map_map]
              congr 1
              funext r
              simp)
            have HKz0 := HKi
            have HB0 : Hid (w.heap.size ≤ wr.heap.size) := hideI HKi.out.size
            clear f1 f2 HD HTk
            go_wp2_with (at_builtin; refine StpQI.go ?_)
            refine ⟨?_⟩
            refine wpList_pushIn (base := w.heap.size) (W := wr) rfl (.tmp 55) (.tmp 57) rfl a' c' n L ⟨ch, vs.getD 0 0, vs.getD 1 0⟩ rfl HGi HB0 wr.heap.size rfl rfl hn ?_
            intro a7 c7 W7 HG7 HK7
            go_wp2
            go_roundw
            case rel => exact ⟨q + 1 + k, n + 1, a7, c7, L ++ [⟨ch, vs.getD 0 0, vs.getD 1 0⟩], rfl, rfl, HKL.out, hideI ⟨by simp [HN.out.1], by have := HN.out.2; simp; omega⟩, HG7, hideI (by rw [HF.out, show q + (1 + k) = q + 1 + k by omega]), hideI (HKi.out.trans HK7.out (fun i hi => .inr hi))⟩
            case measure => simp [intOf]; omega
    · obtain rfl : q = nl := by omega
      have HF : Hid (T = some L) := hideI (by rw [HD.out, List.drop_eq_nil_of_le (by rw [HNL.out]; exact Nat.le_refl _), dcI_nil]; simp)
      go_wp2
      go_ret2
      refine ⟨fun h => by rw [HF.out] at h; (cases h), fun m h => ?_, HK.out⟩
      rw [HF.out] at h
      obtain rfl := Option.some.inj h
      have hn := HN.out.1
      subst hn
      exact ⟨a', c', rfl, HG.out⟩
end Go.Proofs.YtiebmmpnmklpnaaDoor
