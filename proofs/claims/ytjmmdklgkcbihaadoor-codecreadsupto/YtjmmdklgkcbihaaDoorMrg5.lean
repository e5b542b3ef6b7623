import Derived.Test.YtjmmdklgkcbihaaDoorKwb
import Derived.Test.YtjmmdklgkcbihaaDoorRdF
import Derived.Test.YtjmmdklgkcbihaaDoorRdG
import Derived.Test.YtjmmdklgkcbihaaDoorMrg2
namespace Go.Proofs.YtjmmdklgkcbihaaDoor
open Go.ChangeShapes Go.WideShapes Go.ChangeAt Go.RowKit

/-- The low sevens of bytes, the first lowest. -/
def loBK : List Int → Nat
  | [] => 0
  | c :: r => c.toNat % 128 + 128 * loBK r
theorem loB_appendK (A B : List Int) : loBK (A ++ B) = loBK A + 2 ^ (7 * A.length) * loBK B := by
  induction A with
  | nil => simp [loBK]
  | cons c r ih =>
    rw [List.cons_append, loBK, loBK, ih, List.length_cons, show 7 * (r.length + 1) = 7 + 7 * r.length by omega, Nat.pow_add, Nat.mul_add]
    have : 2 ^ 7 * 2 ^ (7 * r.length) * loBK B = 128 * (2 ^ (7 * r.length) * loBK B) := by rw [Nat.mul_assoc]
    omega
theorem loB_dropK (A : List Int) (k : Nat) : loBK (A.drop k) ≤ loBK A := by
  induction k generalizing A with
  | zero => simp
  | succ k ih =>
    cases A with
    | nil => simp
    | cons c r =>
      rw [List.drop_succ_cons, loBK]
      have := ih r
      omega
theorem loB_oneK (A : List Int) (c : Int) : loBK (A ++ [c]) = loBK A + c.toNat % 128 * 2 ^ (7 * A.length) := by
  rw [loB_appendK, loBK, loBK, Nat.mul_zero, Nat.add_zero, Nat.mul_comm]
/-- How far the reading has come: i bytes, all of them 128 and more. -/
structure FauK (L : List Int) (i : Nat) : Prop where
  eq : rdu 0 0 L = rdu i (loBK (L.take i)) (L.drop i)
  le : i ≤ 9
  il : i ≤ L.length
theorem fau_0K (L : List Int) : FauK L 0 := ⟨by simp [loBK], by omega, by omega⟩
theorem fau_endK {L : List Int} {i : Nat} (h : FauK L i) (hi : L.length ≤ i) : rdu 0 0 L = .error 0 := by
  rw [h.eq, List.drop_of_length_le hi, rdu]
theorem fau_atK {L : List Int} {i c : Nat} (h : FauK L i) (hi : i < L.length) (hc : L[i] = (c : Int)) :
    rdu 0 0 L = if i = 9 ∧ 1 < c then .error 1 else if c < 128 then (if c = 0 ∧ 0 < i then .error 1 else .ok (loBK (L.take (i + 1)), i + 1)) else rdu (i + 1) (loBK (L.take (i + 1))) (L.drop (i + 1)) := by
  have e1 : loBK (L.take (i + 1)) = loBK (L.take i) + c % 128 * 2 ^ (7 * i) := by
    rw [List.take_succ_eq_append_getElem hi, hc, loB_oneK, Int.toNat_natCast, List.length_take, Nat.min_eq_left (by omega)]
  rw [h.eq, List.drop_eq_getElem_cons hi, hc, rdu, e1, Int.toNat_natCast]
  have k1 : (i = 9 ∧ 1 < (c : Int)) ↔ (i = 9 ∧ 1 < c) := by omega
  have k2 : ((c : Int) < 128) ↔ c < 128 := by omega
  have k3 : ((c : Int) = 0 ∧ 0 < i) ↔ (c = 0 ∧ 0 < i) := by omega
  simp only [k1, k2, k3]
theorem fau_nextK {L : List Int} {i c : Nat} (h : FauK L i) (hi : i < L.length) (hc : L[i] = (c : Int)) (h1 : ¬ (i = 9 ∧ 1 < c)) (h2 : ¬ c < 128) : FauK L (i + 1) := by
  have := h.le
  refine ⟨?_, by omega, by omega⟩
  rw [fau_atK h hi hc, if_neg h1, if_neg h2]
theorem loB_stepK {L : List Int} {n q c : Nat} (hq : q < n) (hn : n ≤ L.length) (hc : L[q]? = some (c : Int)) : loBK ((L.take n).drop q) = c % 128 + 128 * loBK ((L.take n).drop (q + 1)) := by
  have hqn : q < (L.take n).length := by rw [List.length_take]; omega
  have e : (L.take n)[q] = (c : Int) := by
    rw [List.getElem_take]
    rw [List.getElem?_eq_getElem (by omega)] at hc
    exact Option.some.inj hc
  rw [List.drop_eq_getElem_cons hqn, e, loBK, Int.toNat_natCast]
theorem loB_allK {L : List Int} {n : Nat} : loBK ((L.take n).drop n) = 0 := by
  rw [List.drop_of_length_le (by rw [List.length_take]; omega)]; rfl

def guVK (p : Nat) : Except Nat (Nat × Nat) → Value
  | .ok (x, k) => .tuple #[.int .u64 x, .int .i64 ((p + k : Nat) : Int), .int .i64 0]
  | .error e => .tuple #[.int .u64 0, .int .i64 p, .int .i64 ((e + 1 : Nat) : Int)]
theorem gu_errK {p er : Nat} {R : Except Nat (Nat × Nat)} {y z : Int} (h : R = .error er) (hy : y = p) (hz : z = ((er + 1 : Nat) : Int)) : Ending.returned (.tuple #[.int .u64 0, .int .i64 y, .int .i64 z]) = .returned (guVK p R) := by rw [h, hy, hz]; rfl
theorem gu_okK {p x k : Nat} {R : Except Nat (Nat × Nat)} {y z : Int} (h : R = .ok (x, k)) (hy : y = x) (hz : z = ((p + k : Nat) : Int)) : Ending.returned (.tuple #[.int .u64 y, .int .i64 z, .int .i64 0]) = .returned (guVK p R) := by rw [h, hy, hz]; rfl
set_option maxRecDepth 20000 in
set_option maxHeartbeats 8000000 in
theorem rgetu_anyK (l : List Int) (a : Option Addr) (n c p : Nat) (w : World) (hn : n = l.length) (hB : BytesAt w a l) (hI : IsBytes l) (hp : p ≤ l.length) (hl : l.length ≤ 140737488355328) :
    Calls Tryd.prog 55 #[.slice a n c, .int .i64 p] w fun e w' => e = .returned (guVK p (rdu 0 0 (l.drop p))) ∧ w' = w := by
  obtain ⟨L, hL⟩ : ∃ L, L = l.drop p := ⟨_, rfl⟩
  have hLl : L.length = n - p := by rw [hL, List.length_drop, hn]
  have HC : Hid (∀ k, p + k < n → ∃ b off d : Nat, a = some ⟨b, off, none⟩ ∧ w.cell? ⟨b, off + (p + k), none⟩ = some (.int .u8 (d : Int)) ∧ L[k]? = some (d : Int) ∧ d < 256) := hideH (fun k hk => by
    obtain ⟨b, off, e, hc⟩ := hB (by intro e; rw [e] at hn; simp at hn; omega)
    have h1 := hc (p + k) (by omega)
    have h2 := hI _ (List.getElem_mem (show p + k < l.length by omega))
    have h3 : l[p + k]?.getD 0 = l[p + k] := by rw [List.getElem?_eq_getElem (by omega)]; rfl
    refine ⟨b, off, l[p + k].toNat, e, ?_, ?_, by omega⟩
    · rw [h1, h3]; congr 2; omega
    · rw [hL, List.getElem?_drop, List.getElem?_eq_getElem (by omega)]; congr 1; omega)
  have HRl : Hid (∀ x k, rdu 0 0 L = .ok (x, k) → x < 18446744073709551616) := hideH (fun x k h => rdu_lt L 0 0 x k (by omega) (by decide) (fun y hy => by rw [hL] at hy; exact hI y (List.mem_of_mem_drop hy)) h)
  rw [← hL]
  have hpn : p ≤ n := by omega
  have hnb : n ≤ 140737488355328 := by omega
  clear hL hB hI hn hp hl
  obtain ⟨R, hR⟩ : ∃ R, R = rdu 0 0 L := ⟨_, rfl⟩
  rw [← hR]
  rw [← hR] at HRl
  have HR := hideH hR
  have HLl := hideH hLl
  clear hR hLl
  go_enter Tryd.func55, Tryd.ntmps55
  go_wp2
  go_loopw [7] (fun v7 wr => ∃ i : Nat, i ≤ 9 ∧ p + i ≤ n ∧ v7 = .int .i64 i ∧ Hid (FauK L i) ∧ wr = w) (fun v7 _ => 20 - (intOf v7).toNat)
  case atStart => exact ⟨0, by omega, by omega, rfl, hideH (fau_0K L), rfl⟩
  case round =>
    obtain ⟨i, hi9, hin, rfl, HF, rfl⟩ := hrel
    have s1 : IntKind.i64.wrap ((p : Int) + (i : Int)) = (p : Int) + (i : Int) := by rw [IntKind.wrap_i64]; omega
    by_cases hlt : p + i < n
    · obtain ⟨b, off, d, rfl, xc, hd, hd256⟩ := HC.out i hlt
      have hil : i < L.length := by rw [HLl.out]; omega
      have hdl : L[i] = (d : Int) := by rw [List.getElem?_eq_getElem hil] at hd; exact Option.some.inj hd
      have HA := hideH (HR.out.trans (fau_atK HF.out hil hdl))
      have HNx := hideH (fun h1 h2 => fau_nextK HF.out hil hdl h1 h2)
      have hlt2 : ¬ (n : Int) ≤ (p : Int) + (i : Int) := by omega
      have hlt3 : (p : Int) + (i : Int) < (n : Int) := by omega
      have hd1 : (d : Int) < 256 := by omega
      clear hd hdl
      by_cases h9 : i = 9 ∧ 1 < d
      · have HX : Hid (R = .error 1) := hideH (by rw [HA.out, if_pos h9])
        obtain ⟨rfl, h1d⟩ := h9
        have g1 : decide ((1 : Int) < (d : Int)) = true := decide_eq_true (by omega)
        have g2 : decide (1 < d) = true := decide_eq_true h1d
        clear HA HNx HC
        go_wp2
        go_ret3
        exact ⟨gu_errK HX.out rfl rfl, rfl⟩
      · have hA1 := HA.out
        rw [if_neg h9] at hA1
        have HA1 := hideH hA1
        have HNx1 := hideH (HNx.out h9)
        have H9 := hideH h9
        clear HA HNx h9 hA1
        obtain ⟨wr0, hwr0⟩ : ∃ wr0, wr0 = wr := ⟨_, rfl⟩
        by_cases e9 : i = 9
        · subst e9
          have hd1 : d ≤ 1 := by have := H9.out; omega
          have g1 : decide ((1 : Int) < (d : Int)) = false := decide_eq_false (by omega)
          have g2 : decide (1 < d) = false := decide_eq_false (by omega)
          have hA2 := HA1.out
          rw [if_pos (by omega)] at hA2
          by_cases hd0 : d = 0
          · subst hd0
            have HX : Hid (R = .error 1) := hideH (by rw [hA2, if_pos ⟨rfl, by omega⟩])
            clear hA2 HA1 HNx1 HC
            go_wp2
            go_ret3
            exact ⟨gu_errK HX.out rfl rfl, rfl⟩
          · obtain rfl : d = 1 := by omega
            have HX : Hid (R = .ok (loBK (L.take (9 + 1)), 9 + 1)) := hideH (by rw [hA2, if_neg (fun e => hd0 e.1)])
            clear hA2 HA1 HNx1
            subst hwr0
            have hbx := HRl.out _ _ HX.out
            have hil2 : 9 + 1 ≤ L.length := by rw [HLl.out]; omega
            have z1 : IntKind.i64.wrap (((9 : Nat) : Int) + 1) = ((9 : Nat) : Int) + 1 := by rw [IntKind.wrap_i64]; omega
            have z2 : IntKind.i64.wrap (((9 : Nat) : Int) + 1 - 1) = ((9 : Nat) : Int) := by rw [IntKind.wrap_i64]; omega
            have z3 : ((9 : Nat) : Int) + 1 - 1 = ((9 : Nat) : Int) := by omega
            go_wp2
            go_loopw [9, 10] (fun v9 v10 wr => ∃ q x : Nat, q ≤ 9 + 1 ∧ v10 = .int .i64 ((q : Int) - 1) ∧ v9 = .int .u64 x ∧ Hid (x = loBK ((L.take (9 + 1)).drop q)) ∧ wr = wr0) (fun _ v10 _ => (intOf v10 + 1).toNat)
            case atStart => exact ⟨9 + 1, 0, Nat.le_refl _, by go_num, rfl, hideH loB_allK.symm, rfl⟩
            case round =>
              obtain ⟨q, x, hq, rfl, rfl, HXq, rfl⟩ := hrel
              by_cases hq0 : q = 0
              · subst hq0
                have e0 : ((0 : Nat) : Int) - 1 = -1 := rfl
                rw [e0]
                have HV := hideH (HXq.out.trans (by rw [List.drop_zero]))
                have s9 : IntKind.i64.wrap ((p : Int) + (((9 : Nat) : Int) + 1)) = (p : Int) + (((9 : Nat) : Int) + 1) := by rw [IntKind.wrap_i64]; omega
                clear HC
                go_wp2
                go_ret3
                exact ⟨gu_okK HX.out (by rw [HV.out]) (by omega), rfl⟩
              · obtain ⟨r, rfl⟩ : ∃ r, q = r + 1 := ⟨q - 1, by omega⟩
                have e0 : ((r + 1 : Nat) : Int) - 1 = (r : Int) := by omega
                rw [e0]
                obtain ⟨b2, off2, d2, e2, xc2, hd2, hd2b⟩ := HC.out r (by omega)
                simp only [Option.some.injEq, Addr.mk.injEq, and_true] at e2
                obtain ⟨rfl, rfl⟩ := e2
                have HSt := hideH (loB_stepK (n := 9 + 1) (by omega) hil2 hd2)
                have hle := loB_dropK (L.take (9 + 1)) r
                have HXn : Hid (128 * x + d2 % 128 = loBK ((L.take (9 + 1)).drop r)) := hideH (by rw [HSt.out, ← HXq.out]; omega)
                have hxb : 128 * x + d2 % 128 < 18446744073709551616 := by rw [HXn.out]; omega
                have m1 : IntKind.u64.wrap (128 * (x : Int)) = 128 * (x : Int) := by rw [IntKind.wrap_u64]; omega
                have m2 : IntKind.u64.wrap ((d2 : Int) % 128) = (d2 : Int) % 128 := by rw [IntKind.wrap_u64]; omega
                have m3 : IntKind.u64.wrap (128 * (x : Int) + (d2 : Int) % 128) = 128 * (x : Int) + (d2 : Int) % 128 := by rw [IntKind.wrap_u64]; omega
                have m4 : IntKind.u8.wrap ((d2 : Int) % 128) = (d2 : Int) % 128 := by rw [IntKind.wrap_u8]; omega
                have s8 : IntKind.i64.wrap ((p : Int) + (r : Int)) = (p : Int) + (r : Int) := by rw [IntKind.wrap_i64]; omega
                have s7 : (p : Int) + (r : Int) < (n : Int) := by omega
                have hr0 : (0 : Int) ≤ (r : Int) := by omega
                clear HC HSt hle hd2
                go_wp2
                go_roundw
                case rel => exact ⟨r, 128 * x + d2 % 128, by omega, by go_num, by go_num, HXn, by first | rfl | trivial⟩
                case measure => simp [intOf]
        · have q9 : (((i : Int) + 1) == 10) = false := by rw [beq_eq_false_iff_ne]; omega
          have z0 : IntKind.i64.wrap ((i : Int) + 1) = (i : Int) + 1 := by rw [IntKind.wrap_i64]; omega
          by_cases h128 : d < 128
          · have hA2 := HA1.out
            rw [if_pos h128] at hA2
            have g1 : decide ((d : Int) < 128) = true := decide_eq_true (by omega)
            have g2 : decide (d < 128) = true := decide_eq_true h128
            by_cases hd0 : d = 0
            · subst hd0
              by_cases hi0 : i = 0
              · have HX : Hid (R = .ok (loBK (L.take (i + 1)), i + 1)) := hideH (by rw [hA2, if_neg (fun e => by omega)])
                have g3 : decide ((1 : Int) < (i : Int) + 1) = false := decide_eq_false (by omega)
                have g4 : ¬ (1 : Int) < (i : Int) + 1 := by omega
                have hi1 : i ≤ 1 := by omega
                clear hA2 HA1 HNx1 hi0
                subst hwr0
                have hbx := HRl.out _ _ HX.out
                have hil2 : i + 1 ≤ L.length := by rw [HLl.out]; omega
                have z1 : IntKind.i64.wrap (((i : Nat) : Int) + 1) = ((i : Nat) : Int) + 1 := by rw [IntKind.wrap_i64]; omega
                have z2 : IntKind.i64.wrap (((i : Nat) : Int) + 1 - 1) = ((i : Nat) : Int) := by rw [IntKind.wrap_i64]; omega
                have z3 : ((i : Nat) : Int) + 1 - 1 = ((i : Nat) : Int) := by omega
                go_wp2
                go_loopw [9, 10] (fun v9 v10 wr => ∃ q x : Nat, q ≤ i + 1 ∧ v10 = .int .i64 ((q : Int) - 1) ∧ v9 = .int .u64 x ∧ Hid (x = loBK ((L.take (i + 1)).drop q)) ∧ wr = wr0) (fun _ v10 _ => (intOf v10 + 1).toNat)
                case atStart => exact ⟨i + 1, 0, Nat.le_refl _, by go_num, rfl, hideH loB_allK.symm, rfl⟩
                case round =>
                  obtain ⟨q, x, hq, rfl, rfl, HXq, rfl⟩ := hrel
                  by_cases hq0 : q = 0
                  · subst hq0
                    have e0 : ((0 : Nat) : Int) - 1 = -1 := rfl
                    rw [e0]
                    have HV := hideH (HXq.out.trans (by rw [List.drop_zero]))
                    have s9 : IntKind.i64.wrap ((p : Int) + (((i : Nat) : Int) + 1)) = (p : Int) + (((i : Nat) : Int) + 1) := by rw [IntKind.wrap_i64]; omega
                    clear HC
                    go_wp2
                    go_ret3
                    exact ⟨gu_okK HX.out (by rw [HV.out]) (by omega), rfl⟩
                  · obtain ⟨r, rfl⟩ : ∃ r, q = r + 1 := ⟨q - 1, by omega⟩
                    have e0 : ((r + 1 : Nat) : Int) - 1 = (r : Int) := by omega
                    rw [e0]
                    obtain ⟨b2, off2, d2, e2, xc2, hd2, hd2b⟩ := HC.out r (by omega)
                    simp only [Option.some.injEq, Addr.mk.injEq, and_true] at e2
                    obtain ⟨rfl, rfl⟩ := e2
                    have HSt := hideH (loB_stepK (n := i + 1) (by omega) hil2 hd2)
                    have hle := loB_dropK (L.take (i + 1)) r
                    have HXn : Hid (128 * x + d2 % 128 = loBK ((L.take (i + 1)).drop r)) := hideH (by rw [HSt.out, ← HXq.out]; omega)
                    have hxb : 128 * x + d2 % 128 < 18446744073709551616 := by rw [HXn.out]; omega
                    have m1 : IntKind.u64.wrap (128 * (x : Int)) = 128 * (x : Int) := by rw [IntKind.wrap_u64]; omega
                    have m2 : IntKind.u64.wrap ((d2 : Int) % 128) = (d2 : Int) % 128 := by rw [IntKind.wrap_u64]; omega
                    have m3 : IntKind.u64.wrap (128 * (x : Int) + (d2 : Int) % 128) = 128 * (x : Int) + (d2 : Int) % 128 := by rw [IntKind.wrap_u64]; omega
                    have m4 : IntKind.u8.wrap ((d2 : Int) % 128) = (d2 : Int) % 128 := by rw [IntKind.wrap_u8]; omega
                    have s8 : IntKind.i64.wrap ((p : Int) + (r : Int)) = (p : Int) + (r : Int) := by rw [IntKind.wrap_i64]; omega
                    have s7 : (p : Int) + (r : Int) < (n : Int) := by omega
                    have hr0 : (0 : Int) ≤ (r : Int) := by omega
                    clear HC HSt hle hd2
                    go_wp2
                    go_roundw
                    case rel => exact ⟨r, 128 * x + d2 % 128, by omega, by go_num, by go_num, HXn, by first | rfl | trivial⟩
                    case measure => simp [intOf]
              · have HX : Hid (R = .error 1) := hideH (by rw [hA2, if_pos ⟨rfl, by omega⟩])
                have g3 : decide ((1 : Int) < (i : Int) + 1) = true := decide_eq_true (by omega)
                have g4 : (1 : Int) < (i : Int) + 1 := by omega
                clear hA2 HA1 HNx1 HC
                go_wp2
                go_ret3
                exact ⟨gu_errK HX.out rfl rfl, rfl⟩
            · have HX : Hid (R = .ok (loBK (L.take (i + 1)), i + 1)) := hideH (by rw [hA2, if_neg (fun e => hd0 e.1)])
              have g3 : ((d : Int) == 0) = false := by rw [beq_eq_false_iff_ne]; omega
              have g4 : (d == 0) = false := by rw [beq_eq_false_iff_ne]; exact hd0
              clear hA2 HA1 HNx1
              subst hwr0
              have hbx := HRl.out _ _ HX.out
              have hil2 : i + 1 ≤ L.length := by rw [HLl.out]; omega
              have z1 : IntKind.i64.wrap (((i : Nat) : Int) + 1) = ((i : Nat) : Int) + 1 := by rw [IntKind.wrap_i64]; omega
              have z2 : IntKind.i64.wrap (((i : Nat) : Int) + 1 - 1) = ((i : Nat) : Int) := by rw [IntKind.wrap_i64]; omega
              have z3 : ((i : Nat) : Int) + 1 - 1 = ((i : Nat) : Int) := by omega
              go_wp2
              go_loopw [9, 10] (fun v9 v10 wr => ∃ q x : Nat, q ≤ i + 1 ∧ v10 = .int .i64 ((q : Int) - 1) ∧ v9 = .int .u64 x ∧ Hid (x = loBK ((L.take (i + 1)).drop q)) ∧ wr = wr0) (fun _ v10 _ => (intOf v10 + 1).toNat)
              case atStart => exact ⟨i + 1, 0, Nat.le_refl _, by go_num, rfl, hideH loB_allK.symm, rfl⟩
              case round =>
                obtain ⟨q, x, hq, rfl, rfl, HXq, rfl⟩ := hrel
                by_cases hq0 : q = 0
                · subst hq0
                  have e0 : ((0 : Nat) : Int) - 1 = -1 := rfl
                  rw [e0]
                  have HV := hideH (HXq.out.trans (by rw [List.drop_zero]))
                  have s9 : IntKind.i64.wrap ((p : Int) + (((i : Nat) : Int) + 1)) = (p : Int) + (((i : Nat) : Int) + 1) := by rw [IntKind.wrap_i64]; omega
                  clear HC
                  go_wp2
                  go_ret3
                  exact ⟨gu_okK HX.out (by rw [HV.out]) (by omega), rfl⟩
                · obtain ⟨r, rfl⟩ : ∃ r, q = r + 1 := ⟨q - 1, by omega⟩
                  have e0 : ((r + 1 : Nat) : Int) - 1 = (r : Int) := by omega
                  rw [e0]
                  obtain ⟨b2, off2, d2, e2, xc2, hd2, hd2b⟩ := HC.out r (by omega)
                  simp only [Option.some.injEq, Addr.mk.injEq, and_true] at e2
                  obtain ⟨rfl, rfl⟩ := e2
                  have HSt := hideH (loB_stepK (n := i + 1) (by omega) hil2 hd2)
                  have hle := loB_dropK (L.take (i + 1)) r
                  have HXn : Hid (128 * x + d2 % 128 = loBK ((L.take (i + 1)).drop r)) := hideH (by rw [HSt.out, ← HXq.out]; omega)
                  have hxb : 128 * x + d2 % 128 < 18446744073709551616 := by rw [HXn.out]; omega
                  have m1 : IntKind.u64.wrap (128 * (x : Int)) = 128 * (x : Int) := by rw [IntKind.wrap_u64]; omega
                  have m2 : IntKind.u64.wrap ((d2 : Int) % 128) = (d2 : Int) % 128 := by rw [IntKind.wrap_u64]; omega
                  have m3 : IntKind.u64.wrap (128 * (x : Int) + (d2 : Int) % 128) = 128 * (x : Int) + (d2 : Int) % 128 := by rw [IntKind.wrap_u64]; omega
                  have m4 : IntKind.u8.wrap ((d2 : Int) % 128) = (d2 : Int) % 128 := by rw [IntKind.wrap_u8]; omega
                  have s8 : IntKind.i64.wrap ((p : Int) + (r : Int)) = (p : Int) + (r : Int) := by rw [IntKind.wrap_i64]; omega
                  have s7 : (p : Int) + (r : Int) < (n : Int) := by omega
                  have hr0 : (0 : Int) ≤ (r : Int) := by omega
                  clear HC HSt hle hd2
                  go_wp2
                  go_roundw
                  case rel => exact ⟨r, 128 * x + d2 % 128, by omega, by go_num, by go_num, HXn, by first | rfl | trivial⟩
                  case measure => simp [intOf]
          · have HN2 := hideH (HNx1.out h128)
            have g1 : decide ((d : Int) < 128) = false := decide_eq_false (by omega)
            have g2 : decide (d < 128) = false := decide_eq_false h128
            clear HA1 HNx1 HC
            go_wp2
            go_roundw
            case rel => exact ⟨i + 1, by omega, by omega, by go_num, HN2, by first | rfl | trivial⟩
            case measure => simp [intOf]; omega
    · have HX : Hid (R = .error 0) := hideH (HR.out.trans (fau_endK HF.out (by rw [HLl.out]; omega)))
      have hlt2 : (n : Int) ≤ (p : Int) + (i : Int) := by omega
      have hlt3 : decide ((n : Int) ≤ (p : Int) + (i : Int)) = true := decide_eq_true hlt2
      clear HC
      go_wp2
      go_ret3
      exact ⟨gu_errK HX.out rfl rfl, rfl⟩
theorem isb_dropK {l : List Int} (h : IsBytes l) (p : Nat) : IsBytes (l.drop p) := fun x hx => h x (List.mem_of_mem_drop hx)
theorem isb_takeK {l : List Int} (h : IsBytes l) (p : Nat) : IsBytes (l.take p) := fun x hx => h x (List.mem_of_mem_take hx)

theorem bit_stepK (V t j : Nat) : V / 2 ^ t % 2 ^ (j + 1) = 2 * (V / 2 ^ (t + 1) % 2 ^ j) + V / 2 ^ t % 2 := by
  rw [Nat.pow_succ, Nat.mul_comm (2 ^ j) 2, Nat.mod_mul, Nat.pow_succ 2 t, ← Nat.div_div_eq_div_mul]
  omega
theorem pad_zeroK {V N : Nat} : ∀ {M : Nat}, V < 2 ^ M → (∀ p, N ≤ p → p < M → V / 2 ^ p % 2 = 0) → V < 2 ^ N
  | 0, hV, _ => Nat.lt_of_lt_of_le hV (Nat.pow_le_pow_right (by decide) (Nat.zero_le _))
  | M + 1, hV, h => by
    rcases Nat.lt_or_ge M N with q | q
    · exact Nat.lt_of_lt_of_le hV (Nat.pow_le_pow_right (by decide) q)
    · refine pad_zeroK (M := M) ?_ (fun p h1 h2 => h p h1 (by omega))
      have h1 := h M q (by omega)
      have h2 : V / 2 ^ M < 2 := Nat.div_lt_of_lt_mul (by rw [← Nat.pow_succ]; exact hV)
      have h3 : V / 2 ^ M = 0 := by
        generalize V / 2 ^ M = x at *
        omega
      rcases Nat.div_eq_zero_iff.1 h3 with e | e
      · exact absurd e (Nat.pos_iff_ne_zero.1 (Nat.two_pow_pos M))
      · exact e
theorem pad_oneK {V N p : Nat} (h : V / 2 ^ p % 2 ≠ 0) (hp : N ≤ p) : ¬ V < 2 ^ N := by
  intro hV
  have : V < 2 ^ p := Nat.lt_of_lt_of_le hV (Nat.pow_le_pow_right (by decide) hp)
  rw [Nat.div_eq_of_lt this] at h
  exact h rfl
/-- A bit of the bytes from q on. -/
theorem bit_atK {l : List Int} {q m p d : Nat} (hI : IsBytes l) (hq : q + m ≤ l.length) (hp : p / 8 < m) (hd : l[q + p / 8]? = some (d : Int)) : d / 2 ^ (p % 8) % 2 = vle ((l.drop q).take m) / 2 ^ p % 2 := by
  have hR : IsBytes ((l.drop q).take m) := isb_takeK (isb_dropK hI q) m
  have hl : ((l.drop q).take m).length = m := by rw [List.length_take, List.length_drop]; omega
  have hj : p / 8 < ((l.drop q).take m).length := by omega
  have hc : ((l.drop q).take m)[p / 8] = (d : Int) := by
    rw [List.getElem_take, List.getElem_drop]
    rw [List.getElem?_eq_getElem (by omega)] at hd
    exact Option.some.inj hd
  have h := piece_at (r := p % 8) (t := 1) hR hj hc (by omega)
  rw [Nat.pow_one, show 8 * (p / 8) + p % 8 = p by omega] at h
  exact h
theorem unp_zeroK (V : Nat) : ∀ n, unp V 0 n = List.replicate n 0
  | 0 => rfl
  | n + 1 => by
    rw [unp_succ, unp_zeroK V n, List.replicate_succ', Nat.pow_zero, Nat.mod_one]
    rfl
end Go.Proofs.YtjmmdklgkcbihaaDoor

namespace Go.Proofs.YtjmmdklgkcbihaaDoor
open Go.ChangeShapes Go.WideShapes Go.ChangeAt Go.RowKit

set_option maxRecDepth 20000 in
/-- The document's Zag. -/
theorem dzag_anyK (u : Nat) (w : World) (hu : u < 18446744073709551616) :
    Calls Tryd.prog 84 #[.int .u64 (u : Int)] w fun e w' => e = .returned (.int .i64 (zag u)) ∧ w' = w := by
  go_enter Tryd.func84, Tryd.ntmps84
  go_wp2
  all_goals go_ret
  · rename_i q
    rw [beq_iff_eq] at q
    exact ⟨ret_int (by rw [zag, if_pos q]), rfl⟩
  · rename_i q
    rw [beq_eq_false_iff_ne] at q
    exact ⟨ret_int (by rw [zag, if_neg q]), rfl⟩
def gvVK (p : Nat) : Except Nat (Nat × Nat) → Value
  | .ok (x, k) => .tuple #[.int .i64 (zag x), .int .i64 ((p + k : Nat) : Int), .int .i64 0]
  | .error e => .tuple #[.int .i64 0, .int .i64 p, .int .i64 ((e + 1 : Nat) : Int)]
set_option maxRecDepth 20000 in
/-- The document's GetVarint. -/
theorem rgetv_anyK (l : List Int) (a : Option Addr) (n c p : Nat) (w : World) (hn : n = l.length) (hB : BytesAt w a l) (hI : IsBytes l) (hp : p ≤ l.length) (hl : l.length ≤ 140737488355328) :
    Calls Tryd.prog 56 #[.slice a n c, .int .i64 p] w fun e w' => e = .returned (gvVK p (rdu 0 0 (l.drop p))) ∧ w' = w := by
  have CU := hideH (rgetu_anyK l a n c p w hn hB hI hp hl)
  cases hr : rdu 0 0 (l.drop p) with
  | error er =>
    rw [hr] at CU
    simp only [guVK] at CU
    simp only [gvVK]
    have g1 : (((er + 1 : Nat) : Int) != 0) = true := by rw [bne, show (((er + 1 : Nat) : Int) == 0) = false from by rw [beq_eq_false_iff_ne]; omega]; rfl
    generalize ((er + 1 : Nat) : Int) = E at CU g1 ⊢
    clear hr hB hI hn hp hl
    go_enter Tryd.func56, Tryd.ntmps56
    go_wp2_with (go_at_call 55; refine CU.out.mono ?_; clear CU; rintro e W1 ⟨rfl, rfl⟩)
    go_ret3
    exact ⟨rfl, rfl⟩
  | ok xk =>
    obtain ⟨x, k⟩ := xk
    have hxl := rdu_lt (l.drop p) 0 0 x k (by omega) (by decide) (fun y hy => hI y (List.mem_of_mem_drop hy)) hr
    rw [hr] at CU
    simp only [guVK] at CU
    simp only [gvVK]
    have CZ := hideH (dzag_anyK x w hxl)
    generalize ((p + k : Nat) : Int) = pk at CU ⊢
    generalize zag (x : Int) = z at CZ ⊢
    clear hr hB hI hn hp hl hxl
    go_enter Tryd.func56, Tryd.ntmps56
    go_wp2_with (first
      | (go_at_call 55; refine CU.out.mono ?_; clear CU; rintro e W1 ⟨rfl, rfl⟩)
      | (go_at_call 84; refine CZ.out.mono ?_; clear CZ; rintro e W2 ⟨rfl, rfl⟩))
    go_ret3
    exact ⟨rfl, rfl⟩
/-- A number up to nn: it and the place behind it, or the error's number less one. -/
def upk (nn : Int) (l : List Int) (p : Nat) : Except Nat (Nat × Nat) := match rdu 0 0 (l.drop p) with
  | .error e => .error e
  | .ok (x, k) => if (x : Int) ≤ nn then .ok (x, p + k) else .error 2
def gqVK (p : Nat) : Except Nat (Nat × Nat) → Value
  | .ok (x, q) => .tuple #[.int .i64 x, .int .i64 (q : Int), .int .i64 0]
  | .error e => .tuple #[.int .i64 0, .int .i64 p, .int .i64 ((e + 1 : Nat) : Int)]
theorem upk_ok {nn : Int} {l : List Int} {p x q : Nat} (h : upk nn l p = .ok (x, q)) : p < q ∧ q ≤ l.length ∧ (x : Int) ≤ nn ∧ ∃ k, rdu 0 0 (l.drop p) = .ok (x, k) ∧ q = p + k := by
  unfold upk at h
  cases hr : rdu 0 0 (l.drop p) with
  | error e => rw [hr] at h; cases h
  | ok xk =>
    obtain ⟨x', k⟩ := xk
    rw [hr] at h
    simp only at h
    by_cases hx : (x' : Int) ≤ nn
    · rw [if_pos hx] at h
      simp only [Except.ok.injEq, Prod.mk.injEq] at h
      obtain ⟨rfl, rfl⟩ := h
      have hk := rdu_le _ _ _ _ _ hr
      rw [List.length_drop] at hk
      exact ⟨by omega, by omega, hx, k, rfl, rfl⟩
    · rw [if_neg hx] at h; cases h
set_option maxRecDepth 20000 in
set_option maxHeartbeats 4000000 in
/-- The document's GetUpto. -/
theorem rgetq_anyK (nn : Int) (l : List Int) (a : Option Addr) (n c p : Nat) (w : World) (hn : n = l.length) (hB : BytesAt w a l) (hI : IsBytes l) (hp : p ≤ l.length) (hl : l.length ≤ 140737488355328) (hm : nn ≤ 9223372036854775807) :
    Calls Tryd.prog 57 #[.slice a n c, .int .i64 p, .int .i64 nn] w fun e w' => e = .returned (gqVK p (upk nn l p)) ∧ w' = w := by
  have CU := hideH (rgetu_anyK l a n c p w hn hB hI hp hl)
  cases hr : rdu 0 0 (l.drop p) with
  | error er =>
    have HX : Hid (upk nn l p = .error er) := hideH (by rw [upk, hr])
    rw [hr] at CU
    simp only [guVK] at CU
    rw [HX.out]
    simp only [gqVK]
    have g1 : (((er + 1 : Nat) : Int) != 0) = true := by rw [bne, show (((er + 1 : Nat) : Int) == 0) = false from by rw [beq_eq_false_iff_ne]; omega]; rfl
    generalize ((er + 1 : Nat) : Int) = E at CU g1 ⊢
    clear hr hB hI hn hp hl HX
    go_enter Tryd.func57, Tryd.ntmps57
    go_wp2_with (go_at_call 55; refine CU.out.mono ?_; clear CU; rintro e W1 ⟨rfl, rfl⟩)
    go_ret3
    exact ⟨rfl, rfl⟩
  | ok xk =>
    obtain ⟨x, k⟩ := xk
    have hxl := rdu_lt (l.drop p) 0 0 x k (by omega) (by decide) (fun y hy => hI y (List.mem_of_mem_drop hy)) hr
    rw [hr] at CU
    simp only [guVK] at CU
    by_cases hx : (x : Int) ≤ nn
    · have HX : Hid (upk nn l p = .ok (x, p + k)) := hideH (by rw [upk, hr]; simp only; rw [if_pos hx])
      obtain ⟨most, rfl⟩ : ∃ most : Nat, nn = most := ⟨nn.toNat, by omega⟩
      have hm0 : ¬ ((most : Nat) : Int) < 0 := by omega
      have hmw : IntKind.u64.wrap ((most : Nat) : Int) = ((most : Nat) : Int) := by rw [IntKind.wrap_u64]; omega
      have g1 : decide (((most : Nat) : Int) < (x : Int)) = false := decide_eq_false (by omega)
      have g2 : decide (most < x) = false := decide_eq_false (by omega)
      have g3 : IntKind.i64.wrap (x : Int) = (x : Int) := by rw [IntKind.wrap_i64]; omega
      rw [HX.out]
      simp only [gqVK]
      generalize ((p + k : Nat) : Int) = pk at CU ⊢
      clear hr hB hI hn hp hl HX
      go_enter Tryd.func57, Tryd.ntmps57
      go_wp2_with (go_at_call 55; refine CU.out.mono ?_; clear CU; rintro e W1 ⟨rfl, rfl⟩)
      go_ret3
      exact ⟨rfl, rfl⟩
    · have HX : Hid (upk nn l p = .error 2) := hideH (by rw [upk, hr]; simp only; rw [if_neg hx])
      rw [HX.out]
      simp only [gqVK]
      generalize ((p + k : Nat) : Int) = pk at CU ⊢
      by_cases hneg : nn < 0
      · have g0 : decide (nn < 0) = true := decide_eq_true hneg
        clear hr hB hI hn hp hl HX
        go_enter Tryd.func57, Tryd.ntmps57
        go_wp2_with (go_at_call 55; refine CU.out.mono ?_; clear CU; rintro e W1 ⟨rfl, rfl⟩)
        go_ret3
        exact ⟨rfl, rfl⟩
      · obtain ⟨most, rfl⟩ : ∃ most : Nat, nn = most := ⟨nn.toNat, by omega⟩
        have hm0 : ¬ ((most : Nat) : Int) < 0 := by omega
        have hmw : IntKind.u64.wrap ((most : Nat) : Int) = ((most : Nat) : Int) := by rw [IntKind.wrap_u64]; omega
        have g1 : decide (((most : Nat) : Int) < (x : Int)) = true := decide_eq_true (by omega)
        have g2 : decide (most < x) = true := decide_eq_true (by omega)
        clear hr hB hI hn hp hl HX
        go_enter Tryd.func57, Tryd.ntmps57
        go_wp2_with (go_at_call 55; refine CU.out.mono ?_; clear CU; rintro e W1 ⟨rfl, rfl⟩)
        go_ret3
        exact ⟨rfl, rfl⟩
set_option maxRecDepth 20000 in
/-- The document's GetByte. -/
theorem rgetb_okK (l : List Int) (a : Option Addr) (n c p : Nat) (w : World) (hn : n = l.length) (hB : BytesAt w a l) (hp : p < l.length) (hl : l.length ≤ 140737488355328) :
    Calls Tryd.prog 54 #[.slice a n c, .int .i64 p] w fun e w' => e = .returned (.tuple #[.int .u8 (l[p]?.getD 0), .int .i64 ((p + 1 : Nat) : Int), .int .i64 0]) ∧ w' = w := by
  obtain ⟨b, off, rfl, hcell⟩ := hB (by intro e; rw [e] at hp; simp at hp)
  have xc := hcell p hp
  have s1 : IntKind.i64.wrap ((p : Int) + 1) = (p : Int) + 1 := by rw [IntKind.wrap_i64]; omega
  have s2 : ¬ (n : Int) ≤ (p : Int) := by omega
  have s3 : (p : Int) < (n : Int) := by omega
  have s4 : decide ((n : Int) ≤ (p : Int)) = false := decide_eq_false s2
  have s5 : decide (n ≤ p) = false := decide_eq_false (by omega)
  have e1 : ((p + 1 : Nat) : Int) = (p : Int) + 1 := by omega
  rw [e1]
  generalize l[p]?.getD 0 = d at *
  clear hcell hB hn hl hp e1
  go_enter Tryd.func54, Tryd.ntmps54
  go_wp2
  go_ret3
  exact ⟨rfl, rfl⟩
set_option maxRecDepth 20000 in
theorem rgetb_endK (a : Option Addr) (n c : Nat) (w : World) :
    Calls Tryd.prog 54 #[.slice a n c, .int .i64 n] w fun e w' => e = .returned (.tuple #[.int .u8 0, .int .i64 n, .int .i64 1]) ∧ w' = w := by
  go_enter Tryd.func54, Tryd.ntmps54
  go_wp2
  go_ret3
  exact ⟨rfl, rfl⟩
end Go.Proofs.YtjmmdklgkcbihaaDoor

namespace Go.Proofs.YtjmmdklgkcbihaaDoor
open Go.ChangeShapes Go.WideShapes Go.ChangeAt Go.RowKit

theorem vle_hiK {l : List Int} {p q m c : Nat} (hq : q < m) (hm : p + m ≤ l.length) (hc : l[p + q]? = some (c : Int)) : vle ((l.drop (p + q)).take (m - q)) = c + 256 * vle ((l.drop (p + (q + 1))).take (m - (q + 1))) := by
  have hlt : p + q < l.length := by omega
  have e : l[p + q] = (c : Int) := by rw [List.getElem?_eq_getElem hlt] at hc; exact Option.some.inj hc
  obtain ⟨d, hd⟩ : ∃ d, m - q = d + 1 := ⟨m - q - 1, by omega⟩
  rw [List.drop_eq_getElem_cons hlt, hd, List.take_succ_cons, e, vle, Int.toNat_natCast, show m - (q + 1) = d by omega, Nat.add_assoc]
theorem vle_ltK : ∀ (R : List Int), IsBytes R → vle R < 256 ^ R.length := fun R h => vle_lt R h
set_option maxRecDepth 20000 in
set_option maxHeartbeats 4000000 in
/-- The document's GetWord. -/
theorem rgetw_okK (m : Nat) (l : List Int) (a : Option Addr) (n c p : Nat) (w : World) (hn : n = l.length) (hB : BytesAt w a l) (hI : IsBytes l) (hm : 1 ≤ m) (hm8 : m ≤ 8) (hp : p + m ≤ l.length) (hl : l.length ≤ 140737488355328) :
    Calls Tryd.prog 58 #[.slice a n c, .int .i64 p, .int .i64 m] w fun e w' => e = .returned (.tuple #[.int .u64 ((vle ((l.drop p).take m) : Nat) : Int), .int .i64 ((p + m : Nat) : Int), .int .i64 0]) ∧ w' = w := by
  have HC : Hid (∀ q, q < m → ∃ b off d : Nat, a = some ⟨b, off, none⟩ ∧ w.cell? ⟨b, off + (p + q), none⟩ = some (.int .u8 (d : Int)) ∧ l[p + q]? = some (d : Int) ∧ d < 256) := hideH (fun q hq => by
    obtain ⟨b, off, e, hc⟩ := hB (by intro e; rw [e] at hp; simp at hp; omega)
    have h1 := hc (p + q) (by omega)
    have h2 := hI _ (List.getElem_mem (show p + q < l.length by omega))
    have h3 : l[p + q]?.getD 0 = l[p + q] := by rw [List.getElem?_eq_getElem (by omega)]; rfl
    refine ⟨b, off, l[p + q].toNat, e, ?_, ?_, by omega⟩
    · rw [h1, h3]; congr 2; omega
    · rw [List.getElem?_eq_getElem (by omega)]; congr 1; omega)
  obtain ⟨V, hV⟩ : ∃ V : Nat → Nat, V = fun q => vle ((l.drop (p + q)).take (m - q)) := ⟨_, rfl⟩
  have HS : Hid (∀ (q d : Nat), q < m → l[p + q]? = some (d : Int) → V q = d + 256 * V (q + 1)) := hideH (fun q d hq hd => by rw [hV]; exact vle_hiK hq hp hd)
  have HVm : Hid (V m = 0) := hideH (by rw [hV]; simp [vle])
  have HVb : Hid (∀ q, V q < 18446744073709551616) := hideH (fun q => by
    rw [hV]
    have h1 := vle_ltK ((l.drop (p + q)).take (m - q)) (isb_takeK (isb_dropK hI _) _)
    have h2 : ((l.drop (p + q)).take (m - q)).length ≤ 8 := by rw [List.length_take]; omega
    have h3 : (256 : Nat) ^ ((l.drop (p + q)).take (m - q)).length ≤ 256 ^ 8 := Nat.pow_le_pow_right (by decide) h2
    exact Nat.lt_of_lt_of_le h1 (Nat.le_trans h3 (by decide)))
  have HV0 : Hid (vle ((l.drop p).take m) = V 0) := hideH (by rw [hV]; rfl)
  have HPm : Hid (((p + m : Nat) : Int) = (p : Int) + (m : Int)) := hideH (by omega)
  have s1 : ¬ (n : Int) - (p : Int) < (m : Int) := by omega
  have s2 : decide ((n : Int) - (p : Int) < (m : Int)) = false := decide_eq_false s1
  have s3 : IntKind.i64.wrap ((n : Int) - (p : Int)) = (n : Int) - (p : Int) := by rw [IntKind.wrap_i64]; omega
  have s4 : IntKind.i64.wrap ((m : Int) - 1) = (m : Int) - 1 := by rw [IntKind.wrap_i64]; omega
  have s5 : IntKind.i64.wrap ((p : Int) + (m : Int)) = (p : Int) + (m : Int) := by rw [IntKind.wrap_i64]; omega
  have hpn : p + m ≤ n := by omega
  have hnb : n ≤ 140737488355328 := by omega
  rw [HV0.out, HPm.out]
  clear hV hB hI hn hp hl HV0 HPm
  go_enter Tryd.func58, Tryd.ntmps58
  go_wp2
  go_loopw [9, 10] (fun v9 v10 wr => ∃ (q x : Nat), q ≤ m ∧ v10 = .int .i64 ((q : Int) - 1) ∧ v9 = .int .u64 x ∧ Hid (x = V q) ∧ w = wr) (fun _ v10 _ => (intOf v10 + 1).toNat)
  case atStart => exact ⟨m, 0, Nat.le_refl _, by first | rfl | go_num, rfl, hideH HVm.out.symm, rfl⟩
  case round =>
  obtain ⟨q, x, hq, rfl, rfl, HX, rfl⟩ := hrel
  by_cases hq0 : q = 0
  · subst hq0
    have e0 : ((0 : Nat) : Int) - 1 = -1 := rfl
    rw [e0]
    have HXE := hideH (HX.out)
    clear HC
    go_wp2
    go_ret3
    exact ⟨by rw [HXE.out]; rfl, rfl⟩
  · obtain ⟨r, rfl⟩ : ∃ r, q = r + 1 := ⟨q - 1, by omega⟩
    have e0 : ((r + 1 : Nat) : Int) - 1 = (r : Int) := by omega
    rw [e0]
    obtain ⟨b, off, d, rfl, xc, hd, hdb⟩ := HC.out r (by omega)
    have hs := HS.out r d (by omega) hd
    rw [← HX.out] at hs
    have hb := HVb.out r
    have HN : Hid (256 * x + d = V r) := hideH (by omega)
    have hxb : 256 * x + d < 18446744073709551616 := by omega
    have m1 : IntKind.u64.wrap (256 * (x : Int)) = 256 * (x : Int) := by rw [IntKind.wrap_u64]; omega
    have m2 : IntKind.u64.wrap (d : Int) = (d : Int) := by rw [IntKind.wrap_u64]; omega
    have m3 : IntKind.u64.wrap (256 * (x : Int) + (d : Int)) = 256 * (x : Int) + (d : Int) := by rw [IntKind.wrap_u64]; omega
    have s8 : IntKind.i64.wrap ((p : Int) + (r : Int)) = (p : Int) + (r : Int) := by rw [IntKind.wrap_i64]; omega
    have s7 : (p : Int) + (r : Int) < (n : Int) := by omega
    have hr0 : (0 : Int) ≤ (r : Int) := by omega
    clear HC hs hb hd HX
    go_wp2
    go_roundw
    case rel => exact ⟨r, 256 * x + d, by omega, by go_num, by go_num, HN, by first | rfl | trivial⟩
    case measure => simp [intOf]
set_option maxRecDepth 20000 in
theorem rgetw_noK (m : Nat) (a : Option Addr) (n c p : Nat) (w : World) (hm8 : m ≤ 8) (hp : p ≤ n) (hpm : n < p + m) (_hl : n ≤ 140737488355328) :
    Calls Tryd.prog 58 #[.slice a n c, .int .i64 p, .int .i64 m] w fun e w' => e = .returned (.tuple #[.int .u64 0, .int .i64 p, .int .i64 1]) ∧ w' = w := by
  have s1 : (n : Int) - (p : Int) < (m : Int) := by omega
  have s2 : decide ((n : Int) - (p : Int) < (m : Int)) = true := decide_eq_true s1
  have s3 : IntKind.i64.wrap ((n : Int) - (p : Int)) = (n : Int) - (p : Int) := by rw [IntKind.wrap_i64]; omega
  clear hpm
  go_enter Tryd.func58, Tryd.ntmps58
  go_wp2
  go_ret3
  exact ⟨rfl, rfl⟩
end Go.Proofs.YtjmmdklgkcbihaaDoor

namespace Go.Proofs.YtjmmdklgkcbihaaDoor
open Go.ChangeShapes Go.WideShapes Go.ChangeAt Go.RowKit

theorem conv_atK {W : World} {a : Option Addr} {B : List Int} {c : Nat} (h : BytesAt W a B) : (convert 26 9 (.slice a B.length c)).run Tryd.prog W = .ok (.string (strOfNums B)) W := by
  by_cases hne : B = []
  · subst hne
    cases a with
    | none => exact run_convert_bytes_nil W 26 5 Tryd.underlying26 Tryd.underlying5 0 c 9 Tryd.underlying9
    | some ad =>
      have hl : (loadCells ad 0).run Tryd.prog W = .ok (([] : List Int).map (Value.int .u8)).toArray W := by
        have := run_loadCells_list (P := Tryd.prog) W ad [] (fun j v hj => by simp at hj)
        simpa using this
      show (convert 26 9 (.slice (some ad) 0 c)).run Tryd.prog W = _
      rw [run_convert_bytes_string W 26 9 5 _ 0 c Tryd.underlying26 Tryd.underlying5 Tryd.underlying9, run_bytesToString W _ 0 c [] hl]
      rfl
  · obtain ⟨b, off, rfl, hc⟩ := h hne
    refine run_convert_bytes_arg W 26 5 Tryd.underlying26 Tryd.underlying5 b off B.length c B rfl (fun i hi => ?_) 9 Tryd.underlying9
    simpa [List.getD] using hc i hi
/-- A text of at most nn bytes. -/
def txk (nn : Int) (l : List Int) (p : Nat) : Except Nat (List Int × Nat) := match upk nn l p with
  | .error e => .error e
  | .ok (x, q) => if q + x ≤ l.length then .ok ((l.drop q).take x, q + x) else .error 0
def gtVK (p : Nat) : Except Nat (List Int × Nat) → Value
  | .ok (t, q) => .tuple #[.string (strOfNums t), .int .i64 (q : Int), .int .i64 0]
  | .error e => .tuple #[.string ⟨#[]⟩, .int .i64 p, .int .i64 ((e + 1 : Nat) : Int)]
theorem gt_okK {p q : Nat} {R : Except Nat (List Int × Nat)} {t : List Int} {T : ByteArray} {z : Int} (h : R = .ok (t, q)) (hT : T = strOfNums t) (hz : z = (q : Int)) : Ending.returned (.tuple #[.string T, .int .i64 z, .int .i64 0]) = .returned (gtVK p R) := by rw [h, hT, hz]; rfl
set_option maxRecDepth 20000 in
set_option maxHeartbeats 4000000 in
/-- The document's GetText. -/
theorem rgett_anyK (nn : Int) (l : List Int) (a : Option Addr) (n c p : Nat) (w : World) (hn : n = l.length) (hB : BytesAt w a l) (hI : IsBytes l) (hp : p ≤ l.length) (hl : l.length ≤ 140737488355328) (hc : n ≤ c) (hm : nn ≤ 9223372036854775807) :
    Calls Tryd.prog 60 #[.slice a n c, .int .i64 p, .int .i64 nn] w fun e w' => e = .returned (gtVK p (txk nn l p)) ∧ w' = w := by
  have CU := hideH (rgetq_anyK nn l a n c p w hn hB hI hp hl hm)
  cases hr : upk nn l p with
  | error er =>
    have HX : Hid (txk nn l p = .error er) := hideH (by rw [txk, hr])
    rw [hr] at CU
    simp only [gqVK] at CU
    have g1 : (((er + 1 : Nat) : Int) != 0) = true := by rw [bne, show (((er + 1 : Nat) : Int) == 0) = false from by rw [beq_eq_false_iff_ne]; omega]; rfl
    rw [HX.out]
    simp only [gtVK]
    generalize ((er + 1 : Nat) : Int) = E at CU g1 ⊢
    clear hr hB hI hn hp hl hc HX
    go_enter Tryd.func60, Tryd.ntmps60
    go_wp2_with (go_at_call 57; refine CU.out.mono ?_; clear CU; rintro e W1 ⟨rfl, rfl⟩)
    go_ret3
    exact ⟨rfl, rfl⟩
  | ok xk =>
    obtain ⟨x, q⟩ := xk
    obtain ⟨hx1, hx2, hx3, -⟩ := upk_ok hr
    rw [hr] at CU
    simp only [gqVK] at CU
    have hqn : q ≤ n := by omega
    have hxb : x ≤ 9223372036854775807 := by omega
    have hnb : n ≤ 140737488355328 := by omega
    have s1 : IntKind.i64.wrap ((n : Int) - (q : Int)) = (n : Int) - (q : Int) := by rw [IntKind.wrap_i64]; omega
    by_cases hle : q + x ≤ n
    · have HX : Hid (txk nn l p = .ok ((l.drop q).take x, q + x)) := hideH (by rw [txk, hr]; simp only [if_pos (show q + x ≤ l.length by omega)])
      obtain ⟨b, off, rfl, hcell⟩ := hB (by intro e; rw [e] at hx2; simp at hx2; omega)
      have hBc := BytesAt.cut (w := w) hcell (show q + x ≤ l.length by omega)
      have htl : ((l.drop q).take x).length = x := by rw [List.length_take, List.length_drop]; omega
      obtain ⟨T, hT⟩ : ∃ T, T = strOfNums ((l.drop q).take x) := ⟨_, rfl⟩
      have cv : ∀ c', (convert 26 9 (.slice (some ⟨b, off + q, none⟩) x c')).run Tryd.prog w = .ok (.string T) w := fun c' => by
        have := conv_atK (c := c') hBc
        rw [htl, ← hT] at this
        exact this
      have HTe := hideH hT
      have s2 : IntKind.i64.wrap ((q : Int) + (x : Int)) = (q : Int) + (x : Int) := by rw [IntKind.wrap_i64]; omega
      have g1 : decide ((n : Int) - (q : Int) < (x : Int)) = false := decide_eq_false (by omega)
      have g2 : ¬ (n : Int) - (q : Int) < (x : Int) := by omega
      have s3 : (q : Int) ≤ (q : Int) + (x : Int) := by omega
      have s4 : (q : Int) + (x : Int) ≤ (c : Int) := by omega
      have s5 : q ≤ q + x := by omega
      have s6 : q + x ≤ c := by omega
      have HQX : Hid (((q + x : Nat) : Int) = (q : Int) + (x : Int)) := hideH (by omega)
      have cv0 : x = 0 → ∀ (ad : Addr) c', (convert 26 9 (.slice (some ad) 0 c')).run Tryd.prog w = .ok (.string T) w := fun h0 ad c' => by
        have := conv_atK (c := c') (W := w) (a := some ad) (B := []) (fun h => absurd rfl h)
        rw [hT, h0, List.take_zero]
        exact this
      clear hr hcell hBc htl hT hI hp hl hn hx1 hx2 hx3
      by_cases hx0 : x = 0
      · subst hx0
        have cv1 := cv0 rfl
        clear cv0 cv
        go_enter Tryd.func60, Tryd.ntmps60
        go_wp2_with (go_at_call 57; refine CU.out.mono ?_; clear CU; rintro e W1 ⟨rfl, rfl⟩)
        all_goals go_ret3
        all_goals exact ⟨gt_okK HX.out HTe.out (by have := HQX.out; omega), rfl⟩
      · have nq1 : ¬ q = c := by omega
        have nq2 : ¬ (q : Int) = (c : Int) := by omega
        clear cv0
        go_enter Tryd.func60, Tryd.ntmps60
        go_wp2_with (go_at_call 57; refine CU.out.mono ?_; clear CU; rintro e W1 ⟨rfl, rfl⟩)
        go_ret3
        exact ⟨gt_okK HX.out HTe.out (by have := HQX.out; omega), rfl⟩
    · have HX : Hid (txk nn l p = .error 0) := hideH (by rw [txk, hr]; simp only [if_neg (show ¬ q + x ≤ l.length by omega)])
      have g1 : decide ((n : Int) - (q : Int) < (x : Int)) = true := decide_eq_true (by omega)
      have g2 : (n : Int) - (q : Int) < (x : Int) := by omega
      clear hr hI hp hl hn hB hx1 hx2 hx3
      go_enter Tryd.func60, Tryd.ntmps60
      go_wp2_with (go_at_call 57; refine CU.out.mono ?_; clear CU; rintro e W1 ⟨rfl, rfl⟩)
      go_ret3
      exact ⟨by rw [HX.out]; rfl, rfl⟩
/-- nn bytes. -/
def rwk (nn : Int) (l : List Int) (p : Nat) : Except Nat (List Int × Nat) := if nn < 0 then .error 7 else if p + nn.toNat ≤ l.length then .ok ((l.drop p).take nn.toNat, p + nn.toNat) else .error 0
theorem grr_okK {v : Value} {z : Int} {q : Nat} (hz : z = (q : Int)) : Ending.returned (.tuple #[v, .int .i64 z, .int .i64 0]) = .returned (.tuple #[v, .int .i64 (q : Int), .int .i64 0]) := by rw [hz]
/-- What the document's GetRaw leaves. -/
def grPK (w : World) (p : Nat) (e : Ending) (w' : World) : Except Nat (List Int × Nat) → Prop
  | .error er => e = .returned (.tuple #[.slice (some ⟨w.heap.size, 0, none⟩) 0 0, .int .i64 p, .int .i64 ((er + 1 : Nat) : Int)]) ∧ Kept (fun _ => False) w w'
  | .ok (t, q) => ∃ v, e = .returned (.tuple #[v, .int .i64 (q : Int), .int .i64 0]) ∧ GroK w w' 5 1 v t.length (bs t)
set_option maxRecDepth 20000 in
set_option maxHeartbeats 4000000 in
/-- The document's GetRaw. -/
theorem rgetr_anyK (nn : Int) (l : List Int) (b off : Nat) (n c p : Nat) (w : World) (hn : n = l.length) (hB : BytesAt w (some ⟨b, off, none⟩) l) (hp : p ≤ l.length) (hl : l.length ≤ 35184372088832) (hc : n ≤ c) (hm0 : -9223372036854775808 ≤ nn) (hm : nn ≤ 9223372036854775807) :
    Calls Tryd.prog 59 #[.slice (some ⟨b, off, none⟩) n c, .int .i64 p, .int .i64 nn] w fun e w' => grPK w p e w' (rwk nn l p) := by
  by_cases hneg : nn < 0
  · have g0 : decide (nn < 0) = true := decide_eq_true hneg
    rw [rwk, if_pos hneg]
    clear hB hp hl hn hc
    go_enter Tryd.func59, Tryd.ntmps59
    go_wp2
    go_ret3
    exact ⟨rfl, Kept.alloc _ _⟩
  obtain ⟨m, rfl⟩ : ∃ m : Nat, nn = m := ⟨nn.toNat, by omega⟩
  have g0 : ¬ (m : Int) < 0 := hneg
  have s1 : IntKind.i64.wrap ((n : Int) - (p : Int)) = (n : Int) - (p : Int) := by rw [IntKind.wrap_i64]; omega
  have hnb : n ≤ 35184372088832 := by omega
  rw [rwk, if_neg hneg, Int.toNat_natCast]
  by_cases hle : p + m ≤ n
  · rw [if_pos (by omega)]
    have g1 : decide ((n : Int) - (p : Int) < (m : Int)) = false := decide_eq_false (by omega)
    have g2 : ¬ (n : Int) - (p : Int) < (m : Int) := by omega
    have s2 : IntKind.i64.wrap ((p : Int) + (m : Int)) = (p : Int) + (m : Int) := by rw [IntKind.wrap_i64]; omega
    have s3 : (p : Int) ≤ (p : Int) + (m : Int) := by omega
    have s4 : (p : Int) + (m : Int) ≤ (c : Int) := by omega
    have s5 : p ≤ p + m := by omega
    have s6 : p + m ≤ c := by omega
    have HPM : Hid (((p + m : Nat) : Int) = (p : Int) + (m : Int)) := hideH (by omega)
    have htl : ((l.drop p).take m).length = m := by rw [List.length_take, List.length_drop]; omega
    have HTL := hideH htl
    have HG0 := hideH (gro_emptyK w w 5 1 (Kept.refl _ _))
    have HKA := hideH (Kept.alloc w (.cells #[] 5))
    have HBt : Hid (∀ W, Kept (fun _ => False) w W → 0 < m → BytesAt W (some ⟨b, off + p, none⟩) ((l.drop p).take m)) := hideH (fun W kW h0 => by
      obtain ⟨b', off', e', hcell⟩ := hB (by intro e2; rw [e2] at htl; simp at htl; omega)
      simp only [Option.some.injEq, Addr.mk.injEq, and_true] at e'
      obtain ⟨rfl, rfl⟩ := e'
      exact BytesAt.cut (w := W) (fun k hk => kW.cell (hcell k hk) (fun f => f)) (show p + m ≤ l.length by omega))
    have HR0 := hideH HG0.out.own
    obtain ⟨T, hT⟩ : ∃ T, T = (l.drop p).take m := ⟨_, rfl⟩
    rw [← hT] at HBt HTL ⊢
    by_cases hm0' : m = 0
    · subst hm0'
      have hT0 : T = [] := List.eq_nil_of_length_eq_zero HTL.out
      subst hT0
      clear hB hp hl hn hc htl HBt hT HTL
      go_enter Tryd.func59, Tryd.ntmps59
      go_wp2_with (at_builtin; refine StpH.go ?_)
      all_goals refine ⟨?_⟩
      all_goals refine wpList_catH rfl _ _ rfl (.slice (some ⟨w.heap.size, 0, none⟩) 0 0) 0 [] [] rfl HR0 _ 0 _ rfl (hideH rfl) (hideH (fun h => absurd rfl h)) (hideH (fun e => by cases e)) (by omega) (hideH (by simp)) ?_
      all_goals (
        intro a' c' W' HO1 HK1
        have HKF : Hid (Kept (fun _ => False) w W') := hideH (HKA.out.trans HK1.out (fun k e => .inr (by have e2 : w.heap.size = k := Option.some.inj e; omega)))
        clear HK1 HR0 HG0 HKA
        go_wp2
        go_ret3
        exact ⟨_, by first | rfl | (congr 1; go_num), HO1.out, HKF.out⟩)
    · have nq1 : ¬ p = c := by omega
      have nq2 : ¬ (p : Int) = (c : Int) := by omega
      have HBa := hideH (HBt.out _ HKA.out (by omega))
      clear hB hp hl hn hc htl HBt hT
      go_enter Tryd.func59, Tryd.ntmps59
      go_wp2_with (at_builtin; refine StpH.go ?_)
      refine ⟨?_⟩
      refine wpList_catH rfl _ _ rfl (.slice (some ⟨w.heap.size, 0, none⟩) 0 0) 0 [] T rfl HR0 _ m _ rfl (hideH HTL.out.symm) HBa (hideH (fun e => by cases e)) (by omega) (hideH (by simp)) ?_
      intro a' c' W' HO1 HK1
      have HKF : Hid (Kept (fun _ => False) w W') := hideH (HKA.out.trans HK1.out (fun k e => .inr (by have e2 : w.heap.size = k := Option.some.inj e; omega)))
      have HO2 : Hid (W'.ownsRow w.heap.size 5 1 (.slice a' m c') T.length (bs T)) := hideH (by rw [HTL.out]; have q := HO1.out; rw [List.nil_append, Nat.zero_add] at q; exact q)
      clear HK1 HR0 HG0 HKA HBa HO1
      go_wp2
      go_ret3
      exact ⟨_, grr_okK (by have := HPM.out; omega), HO2.out, HKF.out⟩
  · rw [if_neg (by omega)]
    have g1 : decide ((n : Int) - (p : Int) < (m : Int)) = true := decide_eq_true (by omega)
    have g2 : (n : Int) - (p : Int) < (m : Int) := by omega
    clear hB hp hl hn hc
    go_enter Tryd.func59, Tryd.ntmps59
    go_wp2
    go_ret3
    exact ⟨rfl, Kept.alloc _ _⟩
end Go.Proofs.YtjmmdklgkcbihaaDoor

namespace Go.Proofs.YtjmmdklgkcbihaaDoor
open Go.ChangeShapes Go.WideShapes Go.ChangeAt Go.RowKit

theorem is_appK (L : List Int) (x : Int) : is (L ++ [x]) = is L ++ [.int .i64 x] := by unfold is; simp
/-- 'append(s, y)' to a list of numbers that grows. -/
theorem wpList_pushNK {w0 W : World} {ops : Array Oper} {rest : List Oper} {o : Oper} {act : Act} {Q : Exit → Act → World → Prop} (hgd : o.guard = none) (s x : Operand)
    (ho : o.op = .call { callee := .builtin .append, args := #[s, x], argTypes := #[35, 35] }) (v : Value) (n : Nat) (xs : List Int) (y : Int) (hs : act.eval s = v) (hG : Hid (GroK w0 W 3 1 v n (is xs))) (b : Nat) (hbb : b = W.heap.size) (hx : act.eval x = .slice (some ⟨b, 0, none⟩) 1 1) (hb : n ≤ 1099511627776)
    (h : ∀ g c' W', Hid (GroK w0 W' 3 1 (.slice (some ⟨g, 0, none⟩) (n + 1) c') (n + 1) (is (xs ++ [y]))) → Hid (GStepK W W' v (.slice (some ⟨g, 0, none⟩) (n + 1) c')) → wpList Tryd.prog ops Q rest (act.put o.dst (.slice (some ⟨g, 0, none⟩) (n + 1) c')) W') : wpList Tryd.prog ops Q (o :: rest) act (W.alloc (.cells #[.int .i64 y] 3)) := by
  subst hbb
  obtain ⟨i0, hi, hz0, hz1, hz2⟩ := info_parts Tryd.infoI
  rw [is_appK] at h
  refine wpList_catXK hgd s x 35 ho 3 i0 (.int .i64 0) 1 8 Tryd.underlying35 hi hz0 hz1 hz2 rfl (by decide) v n (is xs) [.int .i64 y] hs (hideH (hG.out.later (Kept.alloc W _))) ⟨W.heap.size, 0, none⟩ 1 1 hx (by simp) (row_newsK W [.int .i64 y] 3) (by intro u hu; simp at hu; subst hu; rfl) (by decide) (by omega) (by unfold maxLen; omega) ?_
  intro g c' W' hG2 hS
  exact h g c' W' hG2 (hideH (GStepK.ahead (Kept.alloc W _) hS.out))
/-- A rising list of at most nn elements. -/
def rsk (nn : Int) (l : List Int) (p : Nat) : Except Nat (List Int × Nat) := match upk nn l p with
  | .error e => .error e
  | .ok (n, q) => match rdr n 0 (l.drop q) with
    | .error e => .error e
    | .ok (xs, m) => .ok (xs, q + m)
/-- What the document's GetRising and GetPacked leave. -/
def glPK (w : World) (p : Nat) (e : Ending) (w' : World) : Except Nat (List Int × Nat) → Prop
  | .error er => ∃ g, e = .returned (.tuple #[.slice (some ⟨g, 0, none⟩) 0 0, .int .i64 p, .int .i64 ((er + 1 : Nat) : Int)]) ∧ Kept (fun _ => False) w w'
  | .ok (t, q) => ∃ v, e = .returned (.tuple #[v, .int .i64 (q : Int), .int .i64 0]) ∧ GroK w w' 3 1 v t.length (is t)
theorem gl_errK {w : World} {p er g : Nat} {e : Ending} {w' : World} {R : Except Nat (List Int × Nat)} (h : R = .error er) (he : e = .returned (.tuple #[.slice (some ⟨g, 0, none⟩) 0 0, .int .i64 p, .int .i64 ((er + 1 : Nat) : Int)])) (k : Kept (fun _ => False) w w') : glPK w p e w' R := by rw [h]; exact ⟨g, he, k⟩
theorem gl_okK {w : World} {p q : Nat} {e : Ending} {w' : World} {R : Except Nat (List Int × Nat)} {t : List Int} {v : Value} {z : Int} (h : R = .ok (t, q)) (hz : z = (q : Int)) (he : e = .returned (.tuple #[v, .int .i64 z, .int .i64 0])) (k : GroK w w' 3 1 v t.length (is t)) : glPK w p e w' R := by rw [h]; exact ⟨v, by rw [he, hz], k⟩
set_option maxRecDepth 20000 in
set_option maxHeartbeats 4000000 in
/-- The document's GetRising. -/
theorem rgetl_anyK (nn : Int) (l : List Int) (a : Option Addr) (n c p : Nat) (w : World) (hn : n = l.length) (hB : BytesAt w a l) (hI : IsBytes l) (hp : p ≤ l.length) (hl : l.length ≤ 1099511627776) (hm : nn ≤ 9223372036854775807) :
    Calls Tryd.prog 61 #[.slice a n c, .int .i64 p, .int .i64 nn] w fun e w' => glPK w p e w' (rsk nn l p) := by
  have CU := hideH (rgetq_anyK nn l a n c p w hn hB hI hp (by omega) hm)
  cases hr : upk nn l p with
  | error er =>
    have HX : Hid (rsk nn l p = .error er) := hideH (by rw [rsk, hr])
    rw [hr] at CU
    simp only [gqVK] at CU
    have g1 : (((er + 1 : Nat) : Int) != 0) = true := by rw [bne, show (((er + 1 : Nat) : Int) == 0) = false from by rw [beq_eq_false_iff_ne]; omega]; rfl
    rw [HX.out]
    simp only [glPK]
    generalize ((er + 1 : Nat) : Int) = E at CU g1 ⊢
    clear hr hB hI hn hp hl HX
    go_enter Tryd.func61, Tryd.ntmps61
    go_wp2_with (go_at_call 57; refine CU.out.mono ?_; clear CU; rintro e W1 ⟨rfl, rfl⟩)
    go_ret3
    exact ⟨_, rfl, Kept.alloc _ _⟩
  | ok xk =>
    obtain ⟨m, q0⟩ := xk
    obtain ⟨hx1, hx2, hx3, -⟩ := upk_ok hr
    rw [hr] at CU
    simp only [gqVK] at CU
    have HRS : Hid (rsk nn l p = match rdr m 0 (l.drop q0) with | .error e => .error e | .ok (xs, k) => .ok (xs, q0 + k)) := hideH (by rw [rsk, hr])
    have hmb : m ≤ 9223372036854775807 := by omega
    have hnb : n ≤ 1099511627776 := by omega
    have HBA := hideH hB
    have HI := hideH hI
    have HNL := hideH hn
    have hqn : q0 ≤ n := by omega
    clear hr hB hI hn hp hl hx1 hx2 hx3
    go_enter Tryd.func61, Tryd.ntmps61
    have HG0 := hideH (gro_emptyK w w 3 1 (Kept.refl _ _))
    go_wp2_with (go_at_call 57; refine CU.out.mono ?_; clear CU; rintro e W1 ⟨rfl, rfl⟩)
    go_loopw [10, 12, 13] (fun s10 s12 s13 wr => ∃ (acc : List Int) (s q i : Nat) (vl : Value), s10 = .int .i64 q ∧ vl = s12 ∧ s13 = .int .u64 s ∧ i ≤ m ∧ q ≤ n ∧ q0 ≤ q ∧ s ≤ 9223372036854775808 ∧ i ≤ q - q0 ∧ Hid (i = acc.length) ∧ Hid (GroK W1 wr 3 1 vl i (is acc)) ∧ Hid (rdr m 0 (l.drop q0) = ahead acc (q - q0) (rdr (m - i) s (l.drop q)))) (fun s10 _ _ _ => n - (intOf s10).toNat)
    case atStart =>
      refine ⟨[], 0, q0, 0, _, rfl, rfl, rfl, Nat.zero_le _, hqn, Nat.le_refl _, by omega, by omega, hideH rfl, HG0, hideH ?_⟩
      cases hx : rdr m 0 (l.drop q0) with
      | error e => simp [ahead]
      | ok rm => simp [ahead]
    case round =>
    obtain ⟨acc, s, q, i, vl, rfl, rfl, rfl, him, hq, hqq, hs, hiq, HIL, HG, HR⟩ := hrel
    obtain ⟨W2, hW2⟩ : ∃ W2, W2 = wr := ⟨_, rfl⟩
    rw [← hW2] at HG ⊢
    clear hW2
    obtain ⟨sa, sc, eS⟩ := HG.out.shape
    subst eS
    by_cases hlt : i < m
    · have i1 : (i : Int) < (m : Int) := by omega
      obtain ⟨nn', hnn⟩ : ∃ nn', m - i = nn' + 1 := ⟨m - i - 1, by omega⟩
      have hBw : BytesAt W2 a l := by
        intro hne
        obtain ⟨b, off, e, hcc⟩ := HBA.out hne
        exact ⟨b, off, e, fun i hi => HG.out.kept.cell (hcc i hi) (fun f => f)⟩
      have CV := hideH (rgetu_anyK l a n c q W2 HNL.out hBw HI.out (by rw [← HNL.out]; exact hq) (by rw [← HNL.out]; omega))
      clear hBw
      cases hu : rdu 0 0 (l.drop q) with
      | error er =>
        have HX : Hid (rsk nn l p = .error er) := hideH (by rw [HRS.out, HR.out, hnn, rdr_err _ _ _ _ hu]; rfl)
        rw [hu] at CV
        simp only [guVK] at CV
        have g1 : (((er + 1 : Nat) : Int) != 0) = true := by rw [bne, show (((er + 1 : Nat) : Int) == 0) = false from by rw [beq_eq_false_iff_ne]; omega]; rfl
        obtain ⟨E, hE⟩ : ∃ E : Int, E = ((er + 1 : Nat) : Int) := ⟨_, rfl⟩
        rw [← hE] at CV g1
        have HEE := hideH hE
        have HKF := hideH (HG.out.kept.trans (Kept.alloc W2 (.cells #[] 3)) (fun _ f => f.elim))
        clear hu hE hnn HG HR HRS
        go_wp2_with (go_at_call 55; refine CV.out.mono ?_; clear CV; rintro e W3 ⟨rfl, rfl⟩)
        go_ret3
        exact gl_errK HX.out (by rw [← HEE.out]; rfl) HKF.out
      | ok xk =>
        obtain ⟨x, k2⟩ := xk
        have hk2 := rdu_le _ _ _ _ _ hu
        rw [List.length_drop, ← HNL.out] at hk2
        have hx := rdu_lt (l.drop q) 0 0 x k2 (by omega) (by decide) (fun y hy => HI.out y (List.mem_of_mem_drop hy)) hu
        rw [hu] at CV
        simp only [guVK] at CV
        have r1 : IntKind.u64.wrap (9223372036854775807 - (s : Int)) = 9223372036854775807 - (s : Int) ∨ 9223372036854775807 < s := by
          by_cases h : 9223372036854775807 < s
          · exact .inr h
          · exact .inl (by rw [IntKind.wrap_u64]; omega)
        by_cases hbig : 9223372036854775807 < s + x
        · have HX : Hid (rsk nn l p = .error 2) := hideH (by rw [HRS.out, HR.out, hnn, rdr_lim _ _ _ _ _ hu hbig]; rfl)
          have HKF := hideH (HG.out.kept.trans (Kept.alloc W2 (.cells #[] 3)) (fun _ f => f.elim))
          generalize ((q + k2 : Nat) : Int) = qk at CV
          by_cases hs2 : 9223372036854775807 < s
          · have g2 : decide ((9223372036854775807 : Int) < (s : Int)) = true := decide_eq_true (by omega)
            have g3 : (9223372036854775807 : Int) < (s : Int) := by omega
            clear hu hnn HG HR HRS r1
            go_wp2_with (go_at_call 55; refine CV.out.mono ?_; clear CV; rintro e W3 ⟨rfl, rfl⟩)
            go_ret3
            exact gl_errK HX.out rfl HKF.out
          · have r2 := r1.resolve_right hs2
            have g2 : decide ((9223372036854775807 : Int) < (s : Int)) = false := decide_eq_false (by omega)
            have g4 : decide (9223372036854775807 - (s : Int) < (x : Int)) = true := decide_eq_true (by omega)
            have g5 : 9223372036854775807 - (s : Int) < (x : Int) := by omega
            have g3 : ¬ (9223372036854775807 : Int) < (s : Int) := by omega
            clear hu hnn HG HR HRS r1
            go_wp2_with (go_at_call 55; refine CV.out.mono ?_; clear CV; rintro e W3 ⟨rfl, rfl⟩)
            go_ret3
            exact gl_errK HX.out rfl HKF.out
        · have r2 := r1.resolve_right (by omega)
          have HRN : Hid (rdr m 0 (l.drop q0) = ahead (acc ++ [((s + x : Nat) : Int)]) (q + k2 - q0) (rdr (m - (i + 1)) (s + x + 1) (l.drop (q + k2)))) := hideH (by
            rw [HR.out, hnn, rdr_step _ _ _ _ _ hu (by omega), ahead_step, List.drop_drop, show q - q0 + k2 = q + k2 - q0 by omega, show m - (i + 1) = nn' by omega])
          have g2 : decide ((9223372036854775807 : Int) < (s : Int)) = false := decide_eq_false (by omega)
          have g4 : decide (9223372036854775807 - (s : Int) < (x : Int)) = false := decide_eq_false (by omega)
          have g5 : ¬ 9223372036854775807 - (s : Int) < (x : Int) := by omega
          have g3 : ¬ (9223372036854775807 : Int) < (s : Int) := by omega
          have e1 : IntKind.u64.wrap ((s : Int) + (x : Int)) = (s : Int) + (x : Int) := by rw [IntKind.wrap_u64]; omega
          have e2 : IntKind.i64.wrap ((s : Int) + (x : Int)) = (s : Int) + (x : Int) := by rw [IntKind.wrap_i64]; omega
          have e3 : IntKind.u64.wrap ((x : Int) + 1) = (x : Int) + 1 := by rw [IntKind.wrap_u64]; omega
          have e4 : IntKind.u64.wrap ((s : Int) + ((x : Int) + 1)) = (s : Int) + ((x : Int) + 1) := by rw [IntKind.wrap_u64]; omega
          have HSX : Hid (((s + x : Nat) : Int) = (s : Int) + (x : Int)) := hideH (by omega)
          clear hu hnn HR r1
          go_wp2_with (first
            | (go_at_call 55; refine CV.out.mono ?_; clear CV; rintro e W3 ⟨rfl, rfl⟩)
            | (at_builtin; refine StpH.go ?_))
          refine ⟨?_⟩
          refine wpList_pushNK rfl _ _ rfl (.slice sa i sc) i acc ((s : Int) + (x : Int)) rfl HG _ rfl rfl (by omega) ?_
          intro g5' c5 W5 HG5 HS5
          have HG6 : Hid (GroK W1 W5 3 1 (.slice (some ⟨g5', 0, none⟩) (i + 1) c5) (i + 1) (is (acc ++ [((s + x : Nat) : Int)]))) := hideH (by rw [HSX.out]; exact HG5.out)
          have HIL2 : Hid (i + 1 = (acc ++ [((s + x : Nat) : Int)]).length) := hideH (by rw [List.length_append, List.length_singleton, HIL.out])
          clear HG5 HS5 HG
          go_wp2
          go_roundw
          case rel => exact ⟨_, s + x + 1, q + k2, i + 1, _, by first | rfl | go_num, rfl, by go_num, by omega, by omega, by omega, by omega, by omega, HIL2, HG6, HRN⟩
          case measure => simp [intOf]; omega
    · obtain rfl : i = m := by omega
      have i1 : ¬ (i : Int) < (i : Int) := by omega
      have HX : Hid (rsk nn l p = .ok (acc, q)) := hideH (by
        rw [HRS.out, HR.out, Nat.sub_self, rdr]
        simp only [ahead, List.append_nil, Nat.add_zero]
        rw [show q0 + (q - q0) = q by omega])
      have HGF : Hid (GroK W1 W2 3 1 (.slice sa i sc) acc.length (is acc)) := hideH (by rw [← HIL.out]; exact HG.out)
      clear HR HRS HG
      go_wp2
      go_ret3
      exact gl_okK HX.out rfl rfl HGF.out
end Go.Proofs.YtjmmdklgkcbihaaDoor

namespace Go.Proofs.YtjmmdklgkcbihaaDoor
open Go.ChangeShapes Go.WideShapes Go.ChangeAt Go.RowKit

/-- A packed list of at most nn elements. -/
def pkk (nn : Int) (l : List Int) (p : Nat) : Except Nat (List Int × Nat) := match upk nn l p with
  | .error e => .error e
  | .ok (n, q) => match rdp n (l.drop q) with
    | .error e => .error e
    | .ok (xs, m) => .ok (xs, q + m)
theorem gro_intsXK {w0 w : World} {v : Value} {n : Nat} {l : List Int} (h : GroK w0 w 3 1 v n (is l)) (hn : n = l.length) : ∃ (a : Option Addr) (c : Nat), v = .slice a n c ∧ IntsAt w a l := by
  obtain ⟨a, c, rfl⟩ := h.shape
  refine ⟨a, c, rfl, fun hne => ?_⟩
  obtain ⟨g', e, _, hc⟩ := h.cell (by rw [hn]; exact List.length_pos_iff.2 hne)
  subst e
  refine ⟨g', 0, rfl, fun k hk => ?_⟩
  rw [Nat.zero_add]
  exact hc k _ (by simp [is, List.getElem?_eq_getElem hk])
theorem is_newXK (W : World) (l : List Int) : IntsAt (W.alloc (.cells (is l).toArray 3)) (some ⟨W.heap.size, 0, none⟩) l := by
  intro _
  refine ⟨W.heap.size, 0, rfl, fun k hk => ?_⟩
  rw [Nat.zero_add, cell_of_row _ _ _ _ _ _ (heap_alloc_new W _)]
  simp [is, List.getElem?_eq_getElem hk]
theorem madeIXK (n : Nat) : madeCells #[Value.int .i64 0] n = (is (List.replicate n (0 : Int))).toArray := by
  apply Array.ext
  · rw [size_madeCells, List.size_toArray]; simp [is]
  · intro i h1 h2
    simp [madeCells, is, Nat.mod_one]
theorem make_intsXK (n : Nat) (W : World) (hn : n ≤ 1099511627776) :
    (Instr.makeSlice 35 (.int .i64 (n : Int)) (.int .i64 (n : Int))).run Tryd.prog W = .ok (.slice (some ⟨W.heap.size, 0, none⟩) n n) (W.alloc (.cells (is (List.replicate n (0 : Int))).toArray 3)) := by
  obtain ⟨i0, hi, hz0, hz1, hz2⟩ := info_parts Tryd.infoI
  have q := run_make (P := Tryd.prog) W 35 3 i0 (.int .i64 0) Tryd.underlying35 hi hz0 .i64 .i64 (n : Int) (n : Int) (by omega) (by omega) (by rw [hz2]; omega) (by omega)
  rw [hz1, Nat.mul_one, Int.toNat_natCast] at q
  rw [q, show (Value.int .i64 0).cells = #[Value.int .i64 0] from rfl, madeIXK]
theorem make_groK (n : Nat) (W : World) (hn : n ≤ 65536) : GroK W (W.alloc (.cells (is (List.replicate n (0 : Int))).toArray 3)) 3 1 (.slice (some ⟨W.heap.size, 0, none⟩) n n) (List.replicate n (0 : Int)).length (is (List.replicate n (0 : Int))) := by
  have hs : (is (List.replicate n (0 : Int))).length = n := by simp [is]
  refine ⟨⟨by rw [hs, List.length_replicate, Nat.mul_one], .inr ⟨W.heap.size, n, (is (List.replicate n (0 : Int))).toArray, by rw [List.length_replicate], Nat.le_refl _, heap_alloc_new W _, by rw [List.length_replicate]; exact Nat.le_refl _, ?_, ?_, ?_⟩⟩, Kept.alloc _ _⟩
  · unfold maxLen; omega
  · simp [is]
  · rw [List.length_replicate, Nat.mul_one, List.take_of_length_le (by simp [is])]
theorem pkk_body {nn : Int} {l : List Int} {p m q d : Nat} (hu : upk nn l p = .ok (m, q)) (hm : m ≠ 0) (hq : q < l.length) (hd : l[q] = (d : Int)) :
    pkk nn l p = if 63 < d then .error 2 else if d = 0 ∧ 65536 < m then .error 2 else if 8 * (l.length - (q + 1)) < m * d then .error 0 else if vle ((l.drop (q + 1)).take ((m * d + 7) / 8)) < 2 ^ (m * d) ∧ bitLen (orl (unp (vle ((l.drop (q + 1)).take ((m * d + 7) / 8))) d m)) = d then .ok (unp (vle ((l.drop (q + 1)).take ((m * d + 7) / 8))) d m, q + 1 + (m * d + 7) / 8) else .error 3 := by
  unfold pkk
  rw [hu]
  simp only
  rw [List.drop_eq_getElem_cons hq, hd, rdp, if_neg hm]
  simp only [Int.toNat_natCast]
  by_cases h1 : 63 < d
  · rw [if_pos (.inl h1), if_pos h1]
  · by_cases h0 : d = 0 ∧ 65536 < m
    · rw [if_pos (.inr h0), if_neg h1, if_pos h0]
    · rw [if_neg (fun h => h.elim h1 h0), if_neg h1, if_neg h0, List.length_drop]
      by_cases h2 : 8 * (l.length - (q + 1)) < m * d
      · rw [if_pos (by omega), if_pos h2]
      · rw [if_neg (by omega), if_neg h2]
        unfold tightB
        rw [unp_length]
        by_cases h3 : vle ((l.drop (q + 1)).take ((m * d + 7) / 8)) < 2 ^ (m * d) ∧ bitLen (orl (unp (vle ((l.drop (q + 1)).take ((m * d + 7) / 8))) d m)) = d
        · rw [if_pos h3, if_pos (by simp only [Bool.and_eq_true, decide_eq_true_eq]; exact h3)]
          simp only [Except.ok.injEq, Prod.mk.injEq, true_and]
          omega
        · rw [if_neg h3, if_neg (by simp only [Bool.and_eq_true, decide_eq_true_eq]; exact h3)]
set_option maxRecDepth 20000 in
set_option maxHeartbeats 16000000 in
/-- The document's GetPacked. -/
theorem rgetk_anyK (nn : Int) (l : List Int) (a : Option Addr) (n c p : Nat) (w : World) (hn : n = l.length) (hB : BytesAt w a l) (hI : IsBytes l) (hp : p ≤ l.length) (hl : l.length ≤ 1073741824) (hm9 : nn ≤ 9223372036854775807) :
    Calls Tryd.prog 62 #[.slice a n c, .int .i64 p, .int .i64 nn] w fun e w' => glPK w p e w' (pkk nn l p) := by
  have CU := hideH (rgetq_anyK nn l a n c p w hn hB hI hp (by omega) hm9)
  have HC : Hid (∀ k, k < n → ∃ b off d : Nat, a = some ⟨b, off, none⟩ ∧ w.cell? ⟨b, off + k, none⟩ = some (.int .u8 (d : Int)) ∧ l[k]? = some (d : Int) ∧ d < 256) := hideH (fun k hk => by
    obtain ⟨b, off, e, hc⟩ := hB (by intro e; rw [e] at hn; simp at hn; omega)
    have h1 := hc k (by omega)
    have h2 := hI _ (List.getElem_mem (show k < l.length by omega))
    have h3 : l[k]?.getD 0 = l[k] := by rw [List.getElem?_eq_getElem (by omega)]; rfl
    refine ⟨b, off, l[k].toNat, e, ?_, ?_, by omega⟩
    · rw [h1, h3]; congr 2; omega
    · rw [List.getElem?_eq_getElem (by omega)]; congr 1; omega)
  have HI := hideH hI
  have HNL := hideH hn
  have hnb : n ≤ 1073741824 := by omega
  cases hu : upk nn l p with
  | error er =>
    have hk : pkk nn l p = .error er := by unfold pkk; rw [hu]
    rw [hk]
    rw [hu] at CU
    simp only [gqVK] at CU
    simp only [glPK]
    have g1 : (((er + 1 : Nat) : Int) != 0) = true := by rw [bne, show (((er + 1 : Nat) : Int) == 0) = false from by rw [beq_eq_false_iff_ne]; omega]; rfl
    generalize ((er + 1 : Nat) : Int) = E at CU g1 ⊢
    clear hu hk hB hI hn hp hl HC
    go_enter Tryd.func62, Tryd.ntmps62
    go_wp2_with (go_at_call 57; refine StpH.go ?_)
    refine ⟨?_⟩
    refine CU.out.mono ?_
    clear CU
    rintro e W1 ⟨rfl, rfl⟩
    go_wp2
    go_ret3
    exact ⟨_, rfl, Kept.alloc _ _⟩
  | ok mq =>
    obtain ⟨m, q⟩ := mq
    obtain ⟨up1, up2, up3, up4⟩ := upk_ok hu
    rw [hu] at CU
    simp only [gqVK] at CU
    have hm63 : m ≤ 9223372036854775807 := by omega
    have hqn : q ≤ n := by omega
    by_cases hm : m = 0
    · have hk : pkk nn l p = .ok ([], q) := by unfold pkk; rw [hu]; simp only; rw [hm, show rdp 0 (l.drop q) = .ok ([], 0) from by unfold rdp; rw [if_pos rfl]]; rfl
      rw [hk]
      subst hm
      clear hu hk hB hI hn hp hl HC up4
      go_enter Tryd.func62, Tryd.ntmps62
      go_wp2_with (go_at_call 57; refine StpH.go ?_)
      refine ⟨?_⟩
      refine CU.out.mono ?_
      clear CU
      rintro e W1 ⟨rfl, rfl⟩
      go_wp2
      go_ret3
      exact ⟨_, rfl, gro_emptyK _ _ 3 1 (Kept.refl _ _)⟩
    · by_cases hqe : q = n
      · have hk : pkk nn l p = .error 0 := by
          unfold pkk
          rw [hu]
          simp only
          rw [List.drop_eq_nil_of_le (by omega), rdp, if_neg hm]
        rw [hk]
        have g0 : ((m : Int) == 0) = false := by rw [beq_eq_false_iff_ne]; omega
        have g1 : (n : Int) ≤ (n : Int) := by omega
        subst hqe
        clear hu hk hB hI hn hp hl HC up4
        go_enter Tryd.func62, Tryd.ntmps62
        go_wp2_with (go_at_call 57; refine StpH.go ?_)
        refine ⟨?_⟩
        refine CU.out.mono ?_
        clear CU
        rintro e W1 ⟨rfl, rfl⟩
        go_wp2
        go_ret3
        exact ⟨_, rfl, Kept.alloc _ _⟩
      · have hql : q < l.length := by omega
        have hqn2 : q < n := by omega
        obtain ⟨b, off, d, rfl, xc, hd?, hd256⟩ := HC.out q hqn2
        have hd : l[q] = (d : Int) := by rw [List.getElem?_eq_getElem hql] at hd?; exact Option.some.inj hd?
        have hk := pkk_body hu hm hql hd
        rw [← hn] at hk
        have g0 : ((m : Int) == 0) = false := by rw [beq_eq_false_iff_ne]; omega
        have g1 : ¬ (n : Int) ≤ (q : Int) := by omega
        have g2 : (q : Int) < (n : Int) := by omega
        have g1b : decide (n ≤ q) = false := decide_eq_false (by omega)
        have g1c : decide ((n : Int) ≤ (q : Int)) = false := decide_eq_false (by omega)
        obtain ⟨V, hV⟩ : ∃ V, V = vle ((l.drop (q + 1)).take ((m * d + 7) / 8)) := ⟨_, rfl⟩
        rw [← hV] at hk
        have HV := hideH hV
        clear hu hB hI hp hl up4 hd? hd hV
        by_cases h63 : 63 < d
        · rw [hk, if_pos h63]
          have g3 : decide ((63 : Int) < (d : Int)) = true := decide_eq_true (by omega)
          have g4 : (63 : Int) < (d : Int) := by omega
          clear hk HC hn
          go_enter Tryd.func62, Tryd.ntmps62
          go_wp2_with (go_at_call 57; refine StpH.go ?_)
          refine ⟨?_⟩
          refine CU.out.mono ?_
          clear CU
          rintro e W1 ⟨rfl, rfl⟩
          go_wp2
          go_ret3
          exact ⟨_, rfl, Kept.alloc _ _⟩
        rw [if_neg h63] at hk
        have g3 : decide ((63 : Int) < (d : Int)) = false := decide_eq_false (by omega)
        have g4 : ¬ (63 : Int) < (d : Int) := by omega
        by_cases hd0 : d = 0
        · subst hd0
          by_cases hz6 : 65536 < m
          · have g5 : (65536 : Int) < (m : Int) := by omega
            have g6 : decide ((65536 : Int) < (m : Int)) = true := decide_eq_true g5
            rw [hk, if_pos ⟨rfl, hz6⟩]
            clear hk HC hn
            go_enter Tryd.func62, Tryd.ntmps62
            go_wp2_with (go_at_call 57; refine StpH.go ?_)
            refine ⟨?_⟩
            refine CU.out.mono ?_
            clear CU
            rintro e W1 ⟨rfl, rfl⟩
            go_wp2
            go_ret3
            exact ⟨_, rfl, Kept.alloc _ _⟩
          rw [if_neg (fun h => hz6 h.2)] at hk
          have g5 : ¬ (65536 : Int) < (m : Int) := by omega
          have g6 : decide ((65536 : Int) < (m : Int)) = false := decide_eq_false g5
          have hk2 : pkk nn l p = .ok (List.replicate m 0, q + 1) := by
            rw [hk, Nat.mul_zero, if_neg (by omega)]
            have hV0 : V = 0 := by rw [HV.out]; simp [vle]
            rw [hV0, unp_zeroK]
            have ho : bitLen (orl (List.replicate m (0 : Int))) = 0 := by
              have h := (bitLen_le_iff (orl (List.replicate m (0 : Int))) 0).2 (orl_lt 0 _ (fun x hx => by rw [List.mem_replicate] at hx; rw [hx.2]; decide))
              omega
            rw [if_pos ⟨by decide, ho⟩]
          rw [hk2]
          have mk := fun W => make_intsXK m W (by omega)
          have HMK := hideH (make_groK m w (by omega))
          clear hk hk2 HC hn
          go_enter Tryd.func62, Tryd.ntmps62
          go_wp2_with (go_at_call 57; refine StpH.go ?_)
          refine ⟨?_⟩
          refine CU.out.mono ?_
          clear CU
          rintro e W1 ⟨rfl, rfl⟩
          go_wp2
          go_ret3
          exact gl_okK (t := List.replicate m 0) (q := q + 1) rfl (by first | rfl | omega) rfl HMK.out
        have g7 : ((d : Int) == 0) = false := by rw [beq_eq_false_iff_ne]; omega
        obtain ⟨md, hmd⟩ : ∃ md, md = m * d := ⟨_, rfl⟩
        have hmdi : (m : Int) * (d : Int) = (md : Int) := by rw [hmd]; push_cast; rfl
        rw [if_neg (fun h => hd0 h.1)] at hk
        rw [← hmd] at hk HV
        obtain ⟨bt, hbt⟩ : ∃ bt, bt = 8 * (n - (q + 1)) := ⟨_, rfl⟩
        have b1 : (8 : Int) * ((n : Int) - ((q : Int) + 1)) = (bt : Int) := by omega
        obtain ⟨qt, hqt⟩ : ∃ qt, qt = bt / d := ⟨_, rfl⟩
        have b2 : (bt : Int).tdiv (d : Int) = (qt : Int) := by rw [Int.tdiv_eq_ediv_of_nonneg (by omega), hqt]; rfl
        have b3 : (bt : Int) / (d : Int) = (qt : Int) := by rw [hqt]; rfl
        have hqm : qt < m ↔ bt < md := by rw [hqt, hmd, Nat.div_lt_iff_lt_mul (by omega)]
        have b5 : 0 < (d : Int) := by omega
        have hbb : bt ≤ 8589934592 := by omega
        have hqb : qt ≤ 8589934592 := by rw [hqt]; exact Nat.le_trans (Nat.div_le_self _ _) hbb
        have b6 : ¬ (d : Int) = 0 := by omega
        by_cases hsh : bt < md
        · have hk2 : pkk nn l p = .error 0 := by rw [hk, if_pos (by omega)]
          rw [hk2]
          have b4 : (qt : Int) < (m : Int) := by have := hqm.2 hsh; omega
          have HX := hideH hqm
          clear hk hk2 HC hn hmd hqt hbt hqm
          go_enter Tryd.func62, Tryd.ntmps62
          go_wp2_with (go_at_call 57; refine StpH.go ?_)
          refine ⟨?_⟩
          refine CU.out.mono ?_
          clear CU
          rintro e W1 ⟨rfl, rfl⟩
          go_wp2
          go_ret3
          exact ⟨_, rfl, Kept.alloc _ _⟩
        rw [if_neg (by omega)] at hk
        have hmdb : md ≤ 8589934592 := by omega
        have hmb : m ≤ 8589934592 := by have h9 : m ≤ md := (by rw [hmd]; exact Nat.le_mul_of_pos_right _ (by omega)); omega
        have b4 : ¬ (qt : Int) < (m : Int) := by have h9 : ¬ qt < m := fun h => hsh (hqm.1 h); omega
        have b7 : ¬ qt < m := by omega
        have b8 : decide ((qt : Int) < (m : Int)) = false := decide_eq_false b4
        have b9 : decide (qt < m) = false := decide_eq_false b7
        have b10 : decide (bt / d < m) = false := decide_eq_false (by rw [← hqt]; exact b7)
        have b11 : ¬ bt / d < m := by rw [← hqt]; exact b7
        obtain ⟨M, hM⟩ : ∃ M, M = (md + 7) / 8 := ⟨_, rfl⟩
        rw [← hM] at hk HV
        have hMb : q + 1 + M ≤ n := by omega
        have HK := hideH hk
        have HMD := hideH hmd
        have HMM := hideH hM
        have HBit : Hid (∀ P, P / 8 < M → ∃ dd : Nat, w.cell? ⟨b, off + (q + 1 + P / 8), none⟩ = some (.int .u8 (dd : Int)) ∧ dd < 256 ∧ dd / 2 ^ (P % 8) % 2 = V / 2 ^ P % 2) := hideH (fun P hP => by
          obtain ⟨b', off', dd, e', xc', hd', hd25⟩ := HC.out (q + 1 + P / 8) (by omega)
          simp only [Option.some.injEq, Addr.mk.injEq, and_true] at e'
          obtain ⟨rfl, rfl⟩ := e'
          exact ⟨dd, xc', hd25, by rw [HV.out]; exact bit_atK HI.out (by have := HNL.out; omega) hP hd'⟩)
        have hdm : d ≤ md := by rw [hmd]; exact Nat.le_mul_of_pos_left _ (by omega)
        clear hk hn hmd hM hqt hqm HC hbt
        go_enter Tryd.func62, Tryd.ntmps62
        go_wp2_with (go_at_call 57; refine StpH.go ?_)
        refine ⟨?_⟩
        refine CU.out.mono ?_
        clear CU
        rintro e W1 ⟨rfl, hW⟩
        obtain rfl : w = W1 := hW.symm
        have HG0 := hideH (gro_emptyK w w 3 1 (Kept.refl _ _))
        go_wp2
        go_loopw [14, 15] (fun s14 s15 wr => ∃ (i : Nat) (vl : Value), i ≤ m ∧ vl = s14 ∧ s15 = .int .i64 i ∧ Hid (GroK w wr 3 1 vl i (is (unp V d i)))) (fun _ s15 _ => m - (intOf s15).toNat)
        case atStart => exact ⟨0, _, by omega, rfl, rfl, HG0⟩
        case round =>
        obtain ⟨i, vl, hi, rfl, rfl, HG⟩ := hrel
        obtain ⟨W2, hW2⟩ : ∃ W2, W2 = wr := ⟨_, rfl⟩
        rw [← hW2] at HG ⊢
        clear hW2
        by_cases hlt : i < m
        · have hii : (i : Int) < (m : Int) := by omega
          obtain ⟨I, hIe⟩ : ∃ I, I = i * d := ⟨_, rfl⟩
          have hId : I + d ≤ md := by
            have h1 : (i + 1) * d ≤ m * d := Nat.mul_le_mul_right d hlt
            rw [Nat.succ_mul] at h1
            rw [HMD.out, hIe]
            exact h1
          have i1 : (i : Int) * (d : Int) = (I : Int) := by rw [hIe]; push_cast; rfl
          have HIe := hideH hIe
          clear hIe
          go_wp2
          go_loopw [16, 17] (fun s16 s17 wr => ∃ (j x : Nat) (z : Int), j ≤ d ∧ s16 = .int .i64 x ∧ s17 = .int .i64 z ∧ -1 ≤ z ∧ z ≤ 63 ∧ W2 = wr ∧ Hid (z = (d : Int) - 1 - j) ∧ Hid (x = V / 2 ^ (I + (d - j)) % 2 ^ j)) (fun _ s17 _ => (intOf s17 + 1).toNat)
          case atStart => exact ⟨0, 0, (d : Int) - 1, by omega, rfl, by first | rfl | go_num, by omega, by omega, rfl, hideH (by omega), hideH (by rw [Nat.pow_zero, Nat.mod_one])⟩
          case round =>
          obtain ⟨j, x, z, hj, rfl, rfl, z1, z2, rfl, HZ, HX⟩ := hrel
          have hx63 : x < 2 ^ 63 := by
            rw [HX.out]
            exact Nat.lt_of_lt_of_le (Nat.mod_lt _ (Nat.two_pow_pos _)) (Nat.pow_le_pow_right (by decide) (by omega))
          by_cases hjd : j < d
          · obtain ⟨t, ht⟩ : ∃ t, t = d - 1 - j := ⟨_, rfl⟩
            obtain rfl : z = (t : Int) := by have := HZ.out; omega
            obtain ⟨P, hP⟩ : ∃ P, P = I + t := ⟨_, rfl⟩
            have hPm : P < md := by omega
            obtain ⟨dd, c1, hdd, hbit⟩ := HBit.out P (by have := HMM.out; omega)
            have c2 := HG.out.kept.cell c1 (fun f => f)
            obtain ⟨P8, hP8⟩ : ∃ P8, P8 = P / 8 := ⟨_, rfl⟩
            obtain ⟨r, hr⟩ : ∃ r, r = P % 8 := ⟨_, rfl⟩
            obtain ⟨y, hy⟩ : ∃ y, y = dd / 2 ^ r := ⟨_, rfl⟩
            obtain ⟨bb, hbb⟩ : ∃ bb, bb = y % 2 := ⟨_, rfl⟩
            obtain ⟨x', hx'⟩ : ∃ x', x' = 2 * x + bb := ⟨_, rfl⟩
            rw [← hP8] at c2
            have hyb : y < 256 := by rw [hy]; exact Nat.lt_of_le_of_lt (Nat.div_le_self _ _) hdd
            have HX2 : Hid (x' = V / 2 ^ (I + (d - (j + 1))) % 2 ^ (j + 1)) := hideH (by
              have e1 : I + (d - (j + 1)) = P := by omega
              have e2 : I + (d - j) = P + 1 := by omega
              rw [e1, bit_stepK, ← e2, ← HX.out, hx', hbb, hy, hr, hbit])
            have hx'63 : x' < 2 ^ 63 := by
              rw [HX2.out]
              exact Nat.lt_of_lt_of_le (Nat.mod_lt _ (Nat.two_pow_pos _)) (Nat.pow_le_pow_right (by decide) (by omega))
            have p1 : (I : Int) + (t : Int) = (P : Int) := by omega
            have p2 : (P : Int).tdiv 8 = (P8 : Int) := by rw [Int.tdiv_eq_ediv_of_nonneg (by omega)]; omega
            have p3 : (P : Int) / 8 = (P8 : Int) := by omega
            have p4 : (P : Int).tmod 8 = (r : Int) := by rw [Int.tmod_eq_emod_of_nonneg (by omega)]; omega
            have p5 : (P : Int) % 8 = (r : Int) := by omega
            have p6 : (dd : Int) / (2 : Int) ^ r = (y : Int) := by rw [shr_castK, hy]
            have p7 : (y : Int).tmod 2 = (bb : Int) := by rw [Int.tmod_eq_emod_of_nonneg (by omega)]; omega
            have p8 : (y : Int) % 2 = (bb : Int) := by omega
            have p9 : (2 : Int) * (x : Int) + (bb : Int) = (x' : Int) := by omega
            have q1 : (0 : Int) ≤ (t : Int) := by omega
            have q2 : q + 1 + P8 < n := by omega
            have q3 : (q : Int) + 1 + (P8 : Int) < (n : Int) := by omega
            have q4 : r < 64 := by omega
            have HT : Hid ((t : Int) - 1 = (d : Int) - 1 - ((j + 1 : Nat) : Int)) := hideH (by omega)
            clear ht hP hP8 hr hy hbb hx' hbit c1 HX
            go_wp2
            go_roundw
            case rel => exact ⟨j + 1, x', (t : Int) - 1, by omega, by first | rfl | go_num, by first | rfl | go_num, by omega, by omega, by first | rfl | trivial, HT, HX2⟩
            case measure => first | (simp [intOf]; done) | (simp [intOf]; omega)
          obtain rfl : j = d := by omega
          have hzz : z = -1 := by have := HZ.out; omega
          subst hzz
          have hxe := HX.out
          rw [Nat.sub_self, Nat.add_zero, HIe.out] at hxe
          have HXE : Hid (is (unp V j (i + 1)) = is (unp V j i) ++ [.int .i64 (x : Int)]) := hideH (by rw [unp_succ, ← hxe]; unfold is; rw [List.map_append]; rfl)
          have gz : ¬ (0 : Int) ≤ -1 := by omega
          clear hxe HX HZ
          go_wp2_with (at_builtin; refine StpH.go ?_)
          refine ⟨?_⟩
          refine wpList_pushNK rfl (.tmp 112) (.tmp 114) rfl vl i (unp V j i) (x : Int) rfl HG W2.heap.size rfl (by rfl) (by omega) ?_
          intro g5 c5 W5 HG5 HS5
          have HG6 : Hid (GroK w W5 3 1 (.slice (some ⟨g5, 0, none⟩) (i + 1) c5) (i + 1) (is (unp V j (i + 1)))) := hideH (by rw [HXE.out, ← is_appK]; exact HG5.out)
          clear HG5 HS5 HG
          go_wp2
          go_roundw
          case rel => exact ⟨i + 1, _, by omega, rfl, by go_num, HG6⟩
          case measure => simp [intOf]; omega
        obtain rfl : i = m := by omega
        have hii : ¬ (i : Int) < (i : Int) := by omega
        obtain ⟨sa, sc, rfl⟩ := HG.out.shape
        obtain ⟨a9, c9, e9, hI9⟩ := gro_intsXK HG.out (by rw [unp_length])
        injection e9 with e9 e8 e7
        subst e9 e7
        have HI9 := hideH hI9
        have HGF0 := hideH HG.out
        have HQM : Hid ((q : Int) + 1 + (M : Int) = ((q + 1 + M : Nat) : Int)) := hideH (by omega)
        have HKW := hideH HG.out.kept
        have CW := hideH (dwid_anyK (unp V d i) sa sc W2 hI9 (fun x hx => (unp_mem hx).1) (unp_ints (by omega)) (by rw [unp_length]; omega))
        rw [unp_length] at CW
        have HUL := hideH (unp_length V d i)
        obtain ⟨U, hU⟩ : ∃ U, U = unp V d i := ⟨_, rfl⟩
        rw [← hU] at HK CW HI9 HUL HGF0
        have HGF : Hid (GroK w W2 3 1 (.slice sa i sc) U.length (is U)) := hideH (by rw [HUL.out]; exact HGF0.out)
        clear HGF0
        obtain ⟨bl, hbl⟩ : ∃ bl, bl = bitLen (orl U) := ⟨_, rfl⟩
        rw [← hbl] at HK CW
        have hblb : bl ≤ 64 := by
          rw [hbl, hU]
          have := (bitLen_le_iff (orl (unp V d i)) 63).2 (orl_lt 63 _ (fun x hx => by
            have h := unp_mem hx
            have h2 : (2 : Int) ^ d ≤ 2 ^ 63 := by
              have : (2 : Nat) ^ d ≤ 2 ^ 63 := Nat.pow_le_pow_right (by decide) (by omega)
              exact_mod_cast this
            have h3 : x.toNat < 2 ^ 63 := by
              have h4 : x < (2 : Int) ^ 63 := by omega
              have h5 : (2 : Int) ^ 63 = 9223372036854775808 := rfl
              have h6 : (2 : Nat) ^ 63 = 9223372036854775808 := rfl
              omega
            exact h3))
          omega
        have m1 : ((md : Int) + 7).tdiv 8 = (M : Int) := by rw [Int.tdiv_eq_ediv_of_nonneg (by omega)]; have := HMM.out; omega
        have m2 : ((md : Int) + 7) / 8 = (M : Int) := by have := HMM.out; omega
        have hM8 : md ≤ 8 * M := by have := HMM.out; omega
        have hMs : M ≤ 1073741825 := by have := HMM.out; omega
        clear hU hbl hI9 HG
        go_wp2
        go_loopw [20] (fun s20 wr => ∃ P : Nat, md ≤ P ∧ P ≤ 8 * M ∧ s20 = .int .i64 P ∧ W2 = wr ∧ Hid (∀ P', md ≤ P' → P' < P → V / 2 ^ P' % 2 = 0)) (fun s20 _ => 8 * M - (intOf s20).toNat)
        case atStart => exact ⟨md, Nat.le_refl _, hM8, by first | rfl | go_num, rfl, hideH (fun P' h1 h2 => by omega)⟩
        case round =>
        obtain ⟨P, hP1, hP2, rfl, rfl, HP⟩ := hrel
        by_cases hlt : P < 8 * M
        · obtain ⟨dd, c1, hdd, hbit⟩ := HBit.out P (by omega)
          have c2 := HKW.out.cell c1 (fun f => f)
          obtain ⟨P8, hP8⟩ : ∃ P8, P8 = P / 8 := ⟨_, rfl⟩
          obtain ⟨r, hr⟩ : ∃ r, r = P % 8 := ⟨_, rfl⟩
          obtain ⟨y, hy⟩ : ∃ y, y = dd / 2 ^ r := ⟨_, rfl⟩
          obtain ⟨bb, hbb⟩ : ∃ bb, bb = y % 2 := ⟨_, rfl⟩
          rw [← hP8] at c2
          have hyb : y < 256 := by rw [hy]; exact Nat.lt_of_le_of_lt (Nat.div_le_self _ _) hdd
          have HBB : Hid (bb = V / 2 ^ P % 2) := hideH (by rw [hbb, hy, hr, hbit])
          have p0 : (P : Int) < 8 * (M : Int) := by omega
          have p2 : (P : Int).tdiv 8 = (P8 : Int) := by rw [Int.tdiv_eq_ediv_of_nonneg (by omega)]; omega
          have p3 : (P : Int) / 8 = (P8 : Int) := by omega
          have p4 : (P : Int).tmod 8 = (r : Int) := by rw [Int.tmod_eq_emod_of_nonneg (by omega)]; omega
          have p5 : (P : Int) % 8 = (r : Int) := by omega
          have p6 : (dd : Int) / (2 : Int) ^ r = (y : Int) := by rw [shr_castK, hy]
          have p7 : (y : Int).tmod 2 = (bb : Int) := by rw [Int.tmod_eq_emod_of_nonneg (by omega)]; omega
          have p8 : (y : Int) % 2 = (bb : Int) := by omega
          have q2 : q + 1 + P8 < n := by omega
          have q3 : (q : Int) + 1 + (P8 : Int) < (n : Int) := by omega
          have q4 : r < 64 := by omega
          have hb2 : bb < 2 := by omega
          by_cases hb0 : bb = 0
          · have v1 : ((bb : Int) != 0) = false := by rw [hb0]; rfl
            have v2 : ((bb : Int) == 0) = true := by rw [hb0]; rfl
            have HP2 : Hid (∀ P', md ≤ P' → P' < P + 1 → V / 2 ^ P' % 2 = 0) := hideH (fun P' h1 h2 => by
              rcases Nat.lt_or_ge P' P with o | o
              · exact HP.out P' h1 o
              · obtain rfl : P' = P := by omega
                rw [← HBB.out]
                exact hb0)
            have HB0 := hideH hb0
            clear hP8 hr hy hbb hbit c1 HP hb0
            go_wp2
            go_roundw
            case rel => exact ⟨P + 1, by omega, by omega, by go_num, by first | rfl | trivial, HP2⟩
            case measure => simp [intOf]; omega
          · have v1 : ((bb : Int) != 0) = true := by simp; omega
            have v2 : ((bb : Int) == 0) = false := by rw [beq_eq_false_iff_ne]; omega
            have HN9 : Hid (pkk nn l p = .error 3) := hideH (by
              rw [HK.out, if_neg]
              rintro ⟨h1, -⟩
              exact pad_oneK (by rw [← HBB.out]; exact hb0) hP1 h1)
            clear hP8 hr hy hbb hbit c1 HP HK
            go_wp2
            go_ret3
            exact gl_errK HN9.out rfl (HKW.out.trans (Kept.alloc _ _) (fun _ f => f.elim))
        obtain rfl : P = 8 * M := by omega
        have p0 : ¬ ((8 * M : Nat) : Int) < 8 * (M : Int) := by omega
        have p00 : ¬ 8 * (M : Int) < 8 * (M : Int) := by omega
        have hVl : V < 2 ^ md := pad_zeroK (M := 8 * M) (by
          rw [HV.out]
          have h1 := vle_lt ((l.drop (q + 1)).take M) (isb_takeK (isb_dropK HI.out _) _)
          rw [List.length_take, List.length_drop, Nat.min_eq_left (by have := HNL.out; omega), show (256 : Nat) = 2 ^ 8 from rfl, ← Nat.pow_mul] at h1
          exact h1) HP.out
        by_cases hbd : bl = d
        · have HS9 : Hid (pkk nn l p = .ok (U, q + 1 + M)) := hideH (by rw [HK.out, if_pos ⟨hVl, hbd⟩])
          have v1 : ((bl : Int) != (d : Int)) = false := by simp [hbd]
          have v2 : ((bl : Int) == (d : Int)) = true := by simp [hbd]
          have HBD := hideH hbd
          clear HP hVl hbd HK
          go_wp2_with (go_at_call 85; refine CW.out.mono ?_; clear CW; rintro e W7 ⟨rfl, rfl⟩)
          go_ret3
          exact gl_okK HS9.out HQM.out rfl HGF.out
        · have HS9 : Hid (pkk nn l p = .error 3) := hideH (by rw [HK.out, if_neg (fun h => hbd h.2)])
          have v1 : ((bl : Int) != (d : Int)) = true := by simp; omega
          have v2 : ((bl : Int) == (d : Int)) = false := by rw [beq_eq_false_iff_ne]; omega
          clear HP hVl HK
          go_wp2_with (go_at_call 85; refine CW.out.mono ?_; clear CW; rintro e W7 ⟨rfl, rfl⟩)
          go_ret3
          exact gl_errK HS9.out rfl (HKW.out.trans (Kept.alloc _ _) (fun _ f => f.elim))
end Go.Proofs.YtjmmdklgkcbihaaDoor

namespace Go.Proofs.YtjmmdklgkcbihaaDoor
open Go.ChangeShapes Go.WideShapes Go.ChangeAt Go.RowKit

theorem results_cellK {fn : Func} {p : Tmp} {ty : TypeId} (h : fn.results = #[.cell p ty]) (tmps : Array Value) (P : Program) (w : World) (g : Nat) (cs : Array Value)
    (hp : tmps.getD p undef = .pointer (some ⟨g, 0, none⟩)) (hld : (loadVar ty ⟨g, 0, none⟩).run P w = .ok (.agg cs) w) :
    (results fn tmps).run P w = .ok (.agg cs) w := by
  have hp' : tmps[p]?.getD undef = .pointer (some ⟨g, 0, none⟩) := by simpa using hp
  simp [results, h, hp', asAddr, hld]
theorem load_lookK {W : World} {g : Nat} {x0 x1 x2 x3 x4 : Value} (h : W.heap[g]? = some (.cells #[x0, x1, x2, x3, x4] 60 (0, 0))) : (loadVar 60 ⟨g, 0, none⟩).run Tryd.prog W = .ok (.agg #[x0, x1, x2, x3, x4]) W :=
  run_loadVar_row W g 60 60 #[x0, x1, x2, x3, x4] (0, 0) _ h Tryd.underlying60 rfl (by kernel_rfl)
theorem look_put5K {W : World} {g : Nat} {x0 x1 x2 x3 x4 v0 v1 v2 v3 v4 : Value} {t : TypeId} (h : W.heap[g]? = some (.cells #[x0, x1, x2, x3, x4] t (0, 0))) : (((((W.setCell ⟨g, 0, none⟩ v0).setCell ⟨g, 1, none⟩ v1).setCell ⟨g, 2, none⟩ v2).setCell ⟨g, 3, none⟩ v3).setCell ⟨g, 4, none⟩ v4).heap[g]? = some (.cells #[v0, v1, v2, v3, v4] t (0, 0)) := by
  have h1 := heap_setCell_same W g 0 _ t v0 h
  have h2 := heap_setCell_same _ g 1 _ t v1 h1
  have h3 := heap_setCell_same _ g 2 _ t v2 h2
  have h4 := heap_setCell_same _ g 3 _ t v3 h3
  have h5 := heap_setCell_same _ g 4 _ t v4 h4
  simpa using h5
theorem kept_put5K {w W : World} {g : Nat} {v0 v1 v2 v3 v4 : Value} (h : Kept (fun _ => False) w W) (hg : w.heap.size ≤ g) : Kept (fun _ => False) w (((((W.setCell ⟨g, 0, none⟩ v0).setCell ⟨g, 1, none⟩ v1).setCell ⟨g, 2, none⟩ v2).setCell ⟨g, 3, none⟩ v3).setCell ⟨g, 4, none⟩ v4) :=
  ((((h.trans (Kept.setCell W ⟨g, 0, none⟩ v0) (fun i e => .inr (by simp only at e; omega))).trans (Kept.setCell _ ⟨g, 1, none⟩ v1) (fun i e => .inr (by simp only at e; omega))).trans (Kept.setCell _ ⟨g, 2, none⟩ v2) (fun i e => .inr (by simp only at e; omega))).trans (Kept.setCell _ ⟨g, 3, none⟩ v3) (fun i e => .inr (by simp only at e; omega))).trans (Kept.setCell _ ⟨g, 4, none⟩ v4) (fun i e => .inr (by simp only at e; omega))
theorem mid_newK (w : World) (a b c : Obj) : (((w.alloc a).alloc b).alloc c).heap[w.heap.size + 1]? = some b := by
  have h := heap_alloc_new (w.alloc a) b
  have e : (w.alloc a).heap.size = w.heap.size + 1 := by simp
  rw [e] at h
  exact (Kept.alloc ((w.alloc a).alloc b) c).heap h (fun f => f)
theorem last_newK (w : World) (a b c : Obj) : (((w.alloc a).alloc b).alloc c).heap[w.heap.size + 1 + 1]? = some c := by
  have h := heap_alloc_new ((w.alloc a).alloc b) c
  have e : ((w.alloc a).alloc b).heap.size = w.heap.size + 1 + 1 := by simp
  rw [e] at h
  exact h
theorem three_newK (w : World) (a b c : Obj) : Kept (fun _ => False) w (((w.alloc a).alloc b).alloc c) := ((Kept.alloc _ _).trans (Kept.alloc _ _) (fun _ f => f.elim)).trans (Kept.alloc _ _) (fun _ f => f.elim)

set_option maxRecDepth 20000 in
set_option maxHeartbeats 4000000 in
theorem told_1K (sec : Bool) (nn U ii : Int) (bv : Value) (s : ByteArray) (lv : Value) (dv : Value) (p : Nat) (x u : Int) (hx : IntKind.u64.wrap x = u) (z E : Int) (w : World)
    (CG : Hid (∀ W, Kept (fun _ => False) w W → Calls Tryd.prog 54 #[dv, .int .i64 p] W fun e w' => e = .returned (.tuple #[.int .u8 x, .int .i64 z, .int .i64 E]) ∧ w' = W)) :
    Calls Tryd.prog 24 #[dv, .int .i64 p, .agg #[.int .i64 1, .bool sec, .int .i64 nn, .int .u64 U, .int .i64 ii, bv, .string s, lv]] w fun e w' => e = .returned (.agg #[.int .u64 u, .string ⟨#[]⟩, .slice none 0 0, .int .i64 z, .int .i64 E]) ∧ Kept (fun _ => False) w w' := by
  go_enter Tryd.func24, Tryd.ntmps24
  go_wp2_with (go_at_call 54; refine StpH.go ?_)
  refine ⟨?_⟩
  refine (CG.out _ (three_newK _ _ _ _)).mono ?_
  clear CG
  rintro e W1 ⟨rfl, rfl⟩
  go_wp2_with fail
  refine bodyPost_ret (results_cellK rfl _ _ _ (w.heap.size + 1) _ rfl (load_lookK (mid_newK _ _ _ _))) rfl ?_
  exact ⟨rfl, three_newK _ _ _ _⟩

set_option maxRecDepth 20000 in
set_option maxHeartbeats 4000000 in
theorem told_2K (sec : Bool) (nn U ii : Int) (bv : Value) (s : ByteArray) (lv : Value) (dv : Value) (p : Nat) (u : Int) (z E : Int) (w : World)
    (CG : Hid (∀ W, Kept (fun _ => False) w W → Calls Tryd.prog 55 #[dv, .int .i64 p] W fun e w' => e = .returned (.tuple #[.int .u64 u, .int .i64 z, .int .i64 E]) ∧ w' = W)) :
    Calls Tryd.prog 24 #[dv, .int .i64 p, .agg #[.int .i64 2, .bool sec, .int .i64 nn, .int .u64 U, .int .i64 ii, bv, .string s, lv]] w fun e w' => e = .returned (.agg #[.int .u64 u, .string ⟨#[]⟩, .slice none 0 0, .int .i64 z, .int .i64 E]) ∧ Kept (fun _ => False) w w' := by
  go_enter Tryd.func24, Tryd.ntmps24
  go_wp2_with (go_at_call 55; refine StpH.go ?_)
  refine ⟨?_⟩
  refine (CG.out _ (three_newK _ _ _ _)).mono ?_
  clear CG
  rintro e W1 ⟨rfl, rfl⟩
  go_wp2_with fail
  refine bodyPost_ret (results_cellK rfl _ _ _ (w.heap.size + 1) _ rfl (load_lookK (mid_newK _ _ _ _))) rfl ?_
  exact ⟨rfl, three_newK _ _ _ _⟩

set_option maxRecDepth 20000 in
set_option maxHeartbeats 4000000 in
theorem told_3K (sec : Bool) (nn U ii : Int) (bv : Value) (s : ByteArray) (lv : Value) (dv : Value) (p : Nat) (x u : Int) (hx : IntKind.u64.wrap x = u) (z E : Int) (w : World)
    (CG : Hid (∀ W, Kept (fun _ => False) w W → Calls Tryd.prog 56 #[dv, .int .i64 p] W fun e w' => e = .returned (.tuple #[.int .i64 x, .int .i64 z, .int .i64 E]) ∧ w' = W)) :
    Calls Tryd.prog 24 #[dv, .int .i64 p, .agg #[.int .i64 3, .bool sec, .int .i64 nn, .int .u64 U, .int .i64 ii, bv, .string s, lv]] w fun e w' => e = .returned (.agg #[.int .u64 u, .string ⟨#[]⟩, .slice none 0 0, .int .i64 z, .int .i64 E]) ∧ Kept (fun _ => False) w w' := by
  go_enter Tryd.func24, Tryd.ntmps24
  go_wp2_with (go_at_call 56; refine StpH.go ?_)
  refine ⟨?_⟩
  refine (CG.out _ (three_newK _ _ _ _)).mono ?_
  clear CG
  rintro e W1 ⟨rfl, rfl⟩
  go_wp2_with fail
  refine bodyPost_ret (results_cellK rfl _ _ _ (w.heap.size + 1) _ rfl (load_lookK (mid_newK _ _ _ _))) rfl ?_
  exact ⟨rfl, three_newK _ _ _ _⟩

set_option maxRecDepth 20000 in
set_option maxHeartbeats 4000000 in
theorem told_10K (sec : Bool) (nn U ii : Int) (bv : Value) (s : ByteArray) (lv : Value) (dv : Value) (p : Nat) (x u : Int) (hx : IntKind.u64.wrap x = u) (z E : Int) (w : World)
    (CG : Hid (∀ W, Kept (fun _ => False) w W → Calls Tryd.prog 57 #[dv, .int .i64 p, .int .i64 nn] W fun e w' => e = .returned (.tuple #[.int .i64 x, .int .i64 z, .int .i64 E]) ∧ w' = W)) :
    Calls Tryd.prog 24 #[dv, .int .i64 p, .agg #[.int .i64 10, .bool sec, .int .i64 nn, .int .u64 U, .int .i64 ii, bv, .string s, lv]] w fun e w' => e = .returned (.agg #[.int .u64 u, .string ⟨#[]⟩, .slice none 0 0, .int .i64 z, .int .i64 E]) ∧ Kept (fun _ => False) w w' := by
  go_enter Tryd.func24, Tryd.ntmps24
  go_wp2_with (go_at_call 57; refine StpH.go ?_)
  refine ⟨?_⟩
  refine (CG.out _ (three_newK _ _ _ _)).mono ?_
  clear CG
  rintro e W1 ⟨rfl, rfl⟩
  go_wp2_with fail
  refine bodyPost_ret (results_cellK rfl _ _ _ (w.heap.size + 1) _ rfl (load_lookK (mid_newK _ _ _ _))) rfl ?_
  exact ⟨rfl, three_newK _ _ _ _⟩

set_option maxRecDepth 20000 in
set_option maxHeartbeats 4000000 in
theorem told_4K (sec : Bool) (nn U ii : Int) (bv : Value) (s : ByteArray) (lv : Value) (dv : Value) (p : Nat) (u : Int) (z E : Int) (w : World)
    (CG : Hid (∀ W, Kept (fun _ => False) w W → Calls Tryd.prog 58 #[dv, .int .i64 p, .int .i64 4] W fun e w' => e = .returned (.tuple #[.int .u64 u, .int .i64 z, .int .i64 E]) ∧ w' = W)) :
    Calls Tryd.prog 24 #[dv, .int .i64 p, .agg #[.int .i64 4, .bool sec, .int .i64 nn, .int .u64 U, .int .i64 ii, bv, .string s, lv]] w fun e w' => e = .returned (.agg #[.int .u64 u, .string ⟨#[]⟩, .slice none 0 0, .int .i64 z, .int .i64 E]) ∧ Kept (fun _ => False) w w' := by
  go_enter Tryd.func24, Tryd.ntmps24
  go_wp2_with (go_at_call 58; refine StpH.go ?_)
  refine ⟨?_⟩
  refine (CG.out _ (three_newK _ _ _ _)).mono ?_
  clear CG
  rintro e W1 ⟨rfl, rfl⟩
  go_wp2_with fail
  refine bodyPost_ret (results_cellK rfl _ _ _ (w.heap.size + 1) _ rfl (load_lookK (mid_newK _ _ _ _))) rfl ?_
  exact ⟨rfl, three_newK _ _ _ _⟩

set_option maxRecDepth 20000 in
set_option maxHeartbeats 4000000 in
theorem told_5K (sec : Bool) (nn U ii : Int) (bv : Value) (s : ByteArray) (lv : Value) (dv : Value) (p : Nat) (u : Int) (z E : Int) (w : World)
    (CG : Hid (∀ W, Kept (fun _ => False) w W → Calls Tryd.prog 58 #[dv, .int .i64 p, .int .i64 8] W fun e w' => e = .returned (.tuple #[.int .u64 u, .int .i64 z, .int .i64 E]) ∧ w' = W)) :
    Calls Tryd.prog 24 #[dv, .int .i64 p, .agg #[.int .i64 5, .bool sec, .int .i64 nn, .int .u64 U, .int .i64 ii, bv, .string s, lv]] w fun e w' => e = .returned (.agg #[.int .u64 u, .string ⟨#[]⟩, .slice none 0 0, .int .i64 z, .int .i64 E]) ∧ Kept (fun _ => False) w w' := by
  go_enter Tryd.func24, Tryd.ntmps24
  go_wp2_with (go_at_call 58; refine StpH.go ?_)
  refine ⟨?_⟩
  refine (CG.out _ (three_newK _ _ _ _)).mono ?_
  clear CG
  rintro e W1 ⟨rfl, rfl⟩
  go_wp2_with fail
  refine bodyPost_ret (results_cellK rfl _ _ _ (w.heap.size + 1) _ rfl (load_lookK (mid_newK _ _ _ _))) rfl ?_
  exact ⟨rfl, three_newK _ _ _ _⟩

set_option maxRecDepth 20000 in
set_option maxHeartbeats 4000000 in
theorem told_7K (sec : Bool) (nn U ii : Int) (bv : Value) (s : ByteArray) (lv : Value) (dv : Value) (p : Nat) (t : ByteArray) (z E : Int) (w : World)
    (CG : Hid (∀ W, Kept (fun _ => False) w W → Calls Tryd.prog 60 #[dv, .int .i64 p, .int .i64 nn] W fun e w' => e = .returned (.tuple #[.string t, .int .i64 z, .int .i64 E]) ∧ w' = W)) :
    Calls Tryd.prog 24 #[dv, .int .i64 p, .agg #[.int .i64 7, .bool sec, .int .i64 nn, .int .u64 U, .int .i64 ii, bv, .string s, lv]] w fun e w' => e = .returned (.agg #[.int .u64 0, .string t, .slice none 0 0, .int .i64 z, .int .i64 E]) ∧ Kept (fun _ => False) w w' := by
  go_enter Tryd.func24, Tryd.ntmps24
  go_wp2_with (go_at_call 60; refine StpH.go ?_)
  refine ⟨?_⟩
  refine (CG.out _ (three_newK _ _ _ _)).mono ?_
  clear CG
  rintro e W1 ⟨rfl, rfl⟩
  go_wp2_with fail
  refine bodyPost_ret (results_cellK rfl _ _ _ (w.heap.size + 1) _ rfl (load_lookK (mid_newK _ _ _ _))) rfl ?_
  exact ⟨rfl, three_newK _ _ _ _⟩

theorem heap_put3K {W : World} {g h i j l : Nat} {x y z : Value} {o : Obj} (hn : g ≠ h) (hg : W.heap[g]? = some o) : (((W.setCell ⟨h, i, none⟩ x).setCell ⟨h, j, none⟩ y).setCell ⟨h, l, none⟩ z).heap[g]? = some o :=
  (((Kept.setCell W ⟨h, i, none⟩ x).trans (Kept.setCell _ ⟨h, j, none⟩ y) (fun _ e => .inl e)).trans (Kept.setCell _ ⟨h, l, none⟩ z) (fun _ e => .inl e)).heap hg (fun e => hn e)
theorem size3K (w : World) (a b c : Obj) : (((w.alloc a).alloc b).alloc c).heap.size = w.heap.size + 3 := by simp
theorem kept_put8K {W : World} {z0 z g h i j l : Nat} {x y u v0 v1 v2 v3 v4 : Value} (hg : z0 ≤ g ∧ g < z) (hh : z0 ≤ h ∧ h < z) : Kept (fun k => z0 ≤ k ∧ k < z) W ((((((((W.setCell ⟨h, i, none⟩ x).setCell ⟨h, j, none⟩ y).setCell ⟨h, l, none⟩ u).setCell ⟨g, 0, none⟩ v0).setCell ⟨g, 1, none⟩ v1).setCell ⟨g, 2, none⟩ v2).setCell ⟨g, 3, none⟩ v3).setCell ⟨g, 4, none⟩ v4) := by
  have st : ∀ (A B : World) (b o : Nat) (t : Value), z0 ≤ b ∧ b < z → Kept (fun k => z0 ≤ k ∧ k < z) A B → Kept (fun k => z0 ≤ k ∧ k < z) A (B.setCell ⟨b, o, none⟩ t) := fun A B b o t hb k => k.trans (Kept.setCell B ⟨b, o, none⟩ t) (fun q e => .inl (by have e2 : q = b := e; rw [e2]; exact hb))
  exact st _ _ _ _ _ hg (st _ _ _ _ _ hg (st _ _ _ _ _ hg (st _ _ _ _ _ hg (st _ _ _ _ _ hg (st _ _ _ _ _ hh (st _ _ _ _ _ hh (st _ _ _ _ _ hh (Kept.refl _ _))))))))

set_option maxRecDepth 20000 in
set_option maxHeartbeats 4000000 in
theorem told_8K (sec : Bool) (nn U ii : Int) (bv : Value) (s : ByteArray) (lv : Value) (dv : Value) (p : Nat) (w : World) (Q : World → Option Addr → Nat → Nat → Int → Int → World → Prop)
    (CG : Hid (∀ W, Kept (fun _ => False) w W → Calls Tryd.prog 61 #[dv, .int .i64 p, .int .i64 nn] W fun e w' => ∃ (a : Option Addr) (m c : Nat) (z E : Int), e = .returned (.tuple #[.slice a m c, .int .i64 z, .int .i64 E]) ∧ Hid (Kept (fun _ => False) W w') ∧ Hid (Q W a m c z E w'))) :
    Calls Tryd.prog 24 #[dv, .int .i64 p, .agg #[.int .i64 8, .bool sec, .int .i64 nn, .int .u64 U, .int .i64 ii, bv, .string s, lv]] w fun e w' => ∃ (a : Option Addr) (m c : Nat) (z E : Int) (W0 W1 : World), e = .returned (.agg #[.int .u64 0, .string ⟨#[]⟩, .slice a m c, .int .i64 z, .int .i64 E]) ∧ Kept (fun _ => False) w W0 ∧ Q W0 a m c z E W1 ∧ Kept (fun k => k < W0.heap.size) W1 w' ∧ Kept (fun _ => False) w w' := by
  go_enter Tryd.func24, Tryd.ntmps24
  go_wp2_with (go_at_call 61; refine StpH.go ?_)
  refine ⟨?_⟩
  refine (CG.out _ (three_newK _ _ _ _)).mono ?_
  clear CG
  rintro e W1 ⟨a, m, c, z, E, rfl, HK, HQ⟩
  have h7 := HK.out.heap (last_newK w _ _ _) (fun f => f)
  have h6 := HK.out.heap (mid_newK w _ _ _) (fun f => f)
  have c0 : W1.cell? ⟨w.heap.size + 1 + 1, 0, none⟩ = some (.int .u64 0) := by rw [cell_of_row _ _ 0 _ _ _ h7]; rfl
  have c1 : W1.cell? ⟨w.heap.size + 1 + 1, 1, none⟩ = some (.string ⟨#[]⟩) := by rw [cell_of_row _ _ 1 _ _ _ h7]; rfl
  have c2 : W1.cell? ⟨w.heap.size + 1 + 1, 2, none⟩ = some (.slice none 0 0) := by rw [cell_of_row _ _ 2 _ _ _ h7]; rfl
  have c3 : W1.cell? ⟨w.heap.size + 1 + 1, 3, none⟩ = some (.int .i64 p) := by rw [cell_of_row _ _ 3 _ _ _ h7]; rfl
  have c4 : W1.cell? ⟨w.heap.size + 1 + 1, 4, none⟩ = some (.int .i64 0) := by rw [cell_of_row _ _ 4 _ _ _ h7]; rfl
  have d0 : W1.cell? ⟨w.heap.size + 1, 0, none⟩ = some (.int .u64 0) := by rw [cell_of_row _ _ 0 _ _ _ h6]; rfl
  have d1 : W1.cell? ⟨w.heap.size + 1, 1, none⟩ = some (.string ⟨#[]⟩) := by rw [cell_of_row _ _ 1 _ _ _ h6]; rfl
  have d2 : W1.cell? ⟨w.heap.size + 1, 2, none⟩ = some (.slice none 0 0) := by rw [cell_of_row _ _ 2 _ _ _ h6]; rfl
  have d3 : W1.cell? ⟨w.heap.size + 1, 3, none⟩ = some (.int .i64 0) := by rw [cell_of_row _ _ 3 _ _ _ h6]; rfl
  have d4 : W1.cell? ⟨w.heap.size + 1, 4, none⟩ = some (.int .i64 0) := by rw [cell_of_row _ _ 4 _ _ _ h6]; rfl
  have f7 : ∀ j, W1.frozen? ⟨w.heap.size + 1 + 1, j, none⟩ = false := fun j => by simp [World.frozen?, h7]
  have f6 : ∀ j, W1.frozen? ⟨w.heap.size + 1, j, none⟩ = false := fun j => by simp [World.frozen?, h6]
  have H6 := hideH h6
  have H7 := hideH h7
  clear h6 h7
  go_wp2_with fail
  refine bodyPost_ret (results_cellK rfl _ _ _ (w.heap.size + 1) _ rfl (load_lookK (by exact look_put5K (heap_put3K (by omega) H6.out)))) rfl ?_
  have k0 := three_newK w (.cells #[.int .i64 8, .bool sec, .int .i64 nn, .int .u64 U, .int .i64 ii, bv, .string s, lv] 37) (.cells #[.int .u64 0, .string ⟨#[]⟩, .slice none 0 0, .int .i64 0, .int .i64 0] 60) (.cells #[.int .u64 0, .string ⟨#[]⟩, .slice none 0 0, .int .i64 p, .int .i64 0] 60)
  have sz := size3K w (.cells #[.int .i64 8, .bool sec, .int .i64 nn, .int .u64 U, .int .i64 ii, bv, .string s, lv] 37) (.cells #[.int .u64 0, .string ⟨#[]⟩, .slice none 0 0, .int .i64 0, .int .i64 0] 60) (.cells #[.int .u64 0, .string ⟨#[]⟩, .slice none 0 0, .int .i64 p, .int .i64 0] 60)
  refine ⟨_, _, _, _, _, _, _, rfl, k0, HQ.out, ?_, ?_⟩
  · rw [sz]
    exact (kept_put8K (z0 := w.heap.size) ⟨by omega, by omega⟩ ⟨by omega, by omega⟩).mono (fun _ e => .inl e.2)
  · exact (k0.trans HK.out (fun _ f => f.elim)).trans (kept_put8K (z0 := w.heap.size) (z := w.heap.size + 3) ⟨by omega, by omega⟩ ⟨by omega, by omega⟩) (fun _ e => .inr e.1)

set_option maxRecDepth 20000 in
set_option maxHeartbeats 4000000 in
theorem told_9K (sec : Bool) (nn U ii : Int) (bv : Value) (s : ByteArray) (lv : Value) (dv : Value) (p : Nat) (w : World) (Q : World → Option Addr → Nat → Nat → Int → Int → World → Prop)
    (CG : Hid (∀ W, Kept (fun _ => False) w W → Calls Tryd.prog 62 #[dv, .int .i64 p, .int .i64 nn] W fun e w' => ∃ (a : Option Addr) (m c : Nat) (z E : Int), e = .returned (.tuple #[.slice a m c, .int .i64 z, .int .i64 E]) ∧ Hid (Kept (fun _ => False) W w') ∧ Hid (Q W a m c z E w'))) :
    Calls Tryd.prog 24 #[dv, .int .i64 p, .agg #[.int .i64 9, .bool sec, .int .i64 nn, .int .u64 U, .int .i64 ii, bv, .string s, lv]] w fun e w' => ∃ (a : Option Addr) (m c : Nat) (z E : Int) (W0 W1 : World), e = .returned (.agg #[.int .u64 0, .string ⟨#[]⟩, .slice a m c, .int .i64 z, .int .i64 E]) ∧ Kept (fun _ => False) w W0 ∧ Q W0 a m c z E W1 ∧ Kept (fun k => k < W0.heap.size) W1 w' ∧ Kept (fun _ => False) w w' := by
  go_enter Tryd.func24, Tryd.ntmps24
  go_wp2_with (go_at_call 62; refine StpH.go ?_)
  refine ⟨?_⟩
  refine (CG.out _ (three_newK _ _ _ _)).mono ?_
  clear CG
  rintro e W1 ⟨a, m, c, z, E, rfl, HK, HQ⟩
  have h7 := HK.out.heap (last_newK w _ _ _) (fun f => f)
  have h6 := HK.out.heap (mid_newK w _ _ _) (fun f => f)
  have c0 : W1.cell? ⟨w.heap.size + 1 + 1, 0, none⟩ = some (.int .u64 0) := by rw [cell_of_row _ _ 0 _ _ _ h7]; rfl
  have c1 : W1.cell? ⟨w.heap.size + 1 + 1, 1, none⟩ = some (.string ⟨#[]⟩) := by rw [cell_of_row _ _ 1 _ _ _ h7]; rfl
  have c2 : W1.cell? ⟨w.heap.size + 1 + 1, 2, none⟩ = some (.slice none 0 0) := by rw [cell_of_row _ _ 2 _ _ _ h7]; rfl
  have c3 : W1.cell? ⟨w.heap.size + 1 + 1, 3, none⟩ = some (.int .i64 p) := by rw [cell_of_row _ _ 3 _ _ _ h7]; rfl
  have c4 : W1.cell? ⟨w.heap.size + 1 + 1, 4, none⟩ = some (.int .i64 0) := by rw [cell_of_row _ _ 4 _ _ _ h7]; rfl
  have d0 : W1.cell? ⟨w.heap.size + 1, 0, none⟩ = some (.int .u64 0) := by rw [cell_of_row _ _ 0 _ _ _ h6]; rfl
  have d1 : W1.cell? ⟨w.heap.size + 1, 1, none⟩ = some (.string ⟨#[]⟩) := by rw [cell_of_row _ _ 1 _ _ _ h6]; rfl
  have d2 : W1.cell? ⟨w.heap.size + 1, 2, none⟩ = some (.slice none 0 0) := by rw [cell_of_row _ _ 2 _ _ _ h6]; rfl
  have d3 : W1.cell? ⟨w.heap.size + 1, 3, none⟩ = some (.int .i64 0) := by rw [cell_of_row _ _ 3 _ _ _ h6]; rfl
  have d4 : W1.cell? ⟨w.heap.size + 1, 4, none⟩ = some (.int .i64 0) := by rw [cell_of_row _ _ 4 _ _ _ h6]; rfl
  have f7 : ∀ j, W1.frozen? ⟨w.heap.size + 1 + 1, j, none⟩ = false := fun j => by simp [World.frozen?, h7]
  have f6 : ∀ j, W1.frozen? ⟨w.heap.size + 1, j, none⟩ = false := fun j => by simp [World.frozen?, h6]
  have H6 := hideH h6
  have H7 := hideH h7
  clear h6 h7
  go_wp2_with fail
  refine bodyPost_ret (results_cellK rfl _ _ _ (w.heap.size + 1) _ rfl (load_lookK (by exact look_put5K (heap_put3K (by omega) H6.out)))) rfl ?_
  have k0 := three_newK w (.cells #[.int .i64 9, .bool sec, .int .i64 nn, .int .u64 U, .int .i64 ii, bv, .string s, lv] 37) (.cells #[.int .u64 0, .string ⟨#[]⟩, .slice none 0 0, .int .i64 0, .int .i64 0] 60) (.cells #[.int .u64 0, .string ⟨#[]⟩, .slice none 0 0, .int .i64 p, .int .i64 0] 60)
  have sz := size3K w (.cells #[.int .i64 9, .bool sec, .int .i64 nn, .int .u64 U, .int .i64 ii, bv, .string s, lv] 37) (.cells #[.int .u64 0, .string ⟨#[]⟩, .slice none 0 0, .int .i64 0, .int .i64 0] 60) (.cells #[.int .u64 0, .string ⟨#[]⟩, .slice none 0 0, .int .i64 p, .int .i64 0] 60)
  refine ⟨_, _, _, _, _, _, _, rfl, k0, HQ.out, ?_, ?_⟩
  · rw [sz]
    exact (kept_put8K (z0 := w.heap.size) ⟨by omega, by omega⟩ ⟨by omega, by omega⟩).mono (fun _ e => .inl e.2)
  · exact (k0.trans HK.out (fun _ f => f.elim)).trans (kept_put8K (z0 := w.heap.size) (z := w.heap.size + 3) ⟨by omega, by omega⟩ ⟨by omega, by omega⟩) (fun _ e => .inr e.1)

set_option maxRecDepth 20000 in
set_option maxHeartbeats 4000000 in
theorem told_6K (sec : Bool) (nn U ii : Int) (bv : Value) (s : ByteArray) (lv : Value) (dv : Value) (p : Nat) (w : World) (Q : World → Option Addr → Nat → Nat → ByteArray → Int → Int → World → Prop)
    (CG : Hid (∀ W, Kept (fun _ => False) w W → Calls Tryd.prog 59 #[dv, .int .i64 p, .int .i64 nn] W fun e w' => ∃ (a : Option Addr) (m c : Nat) (T : ByteArray) (z E : Int), e = .returned (.tuple #[.slice a m c, .int .i64 z, .int .i64 E]) ∧ Hid (Kept (fun _ => False) W w') ∧ (convert 26 9 (.slice a m c)).run Tryd.prog w' = .ok (.string T) w' ∧ Hid (Q W a m c T z E w'))) :
    Calls Tryd.prog 24 #[dv, .int .i64 p, .agg #[.int .i64 6, .bool sec, .int .i64 nn, .int .u64 U, .int .i64 ii, bv, .string s, lv]] w fun e w' => ∃ (a : Option Addr) (m c : Nat) (T : ByteArray) (z E : Int) (W0 W1 : World), e = .returned (.agg #[.int .u64 0, .string T, .slice none 0 0, .int .i64 z, .int .i64 E]) ∧ Kept (fun _ => False) w W0 ∧ Q W0 a m c T z E W1 ∧ Kept (fun k => k < W0.heap.size) W1 w' ∧ Kept (fun _ => False) w w' := by
  go_enter Tryd.func24, Tryd.ntmps24
  go_wp2_with (go_at_call 59; refine StpH.go ?_)
  refine ⟨?_⟩
  refine (CG.out _ (three_newK _ _ _ _)).mono ?_
  clear CG
  rintro e W1 ⟨a, m, c, T, z, E, rfl, HK, cv, HQ⟩
  have h7 := HK.out.heap (last_newK w _ _ _) (fun f => f)
  have h6 := HK.out.heap (mid_newK w _ _ _) (fun f => f)
  have c0 : W1.cell? ⟨w.heap.size + 1 + 1, 0, none⟩ = some (.int .u64 0) := by rw [cell_of_row _ _ 0 _ _ _ h7]; rfl
  have c1 : W1.cell? ⟨w.heap.size + 1 + 1, 1, none⟩ = some (.string ⟨#[]⟩) := by rw [cell_of_row _ _ 1 _ _ _ h7]; rfl
  have c2 : W1.cell? ⟨w.heap.size + 1 + 1, 2, none⟩ = some (.slice none 0 0) := by rw [cell_of_row _ _ 2 _ _ _ h7]; rfl
  have c3 : W1.cell? ⟨w.heap.size + 1 + 1, 3, none⟩ = some (.int .i64 p) := by rw [cell_of_row _ _ 3 _ _ _ h7]; rfl
  have c4 : W1.cell? ⟨w.heap.size + 1 + 1, 4, none⟩ = some (.int .i64 0) := by rw [cell_of_row _ _ 4 _ _ _ h7]; rfl
  have d0 : W1.cell? ⟨w.heap.size + 1, 0, none⟩ = some (.int .u64 0) := by rw [cell_of_row _ _ 0 _ _ _ h6]; rfl
  have d1 : W1.cell? ⟨w.heap.size + 1, 1, none⟩ = some (.string ⟨#[]⟩) := by rw [cell_of_row _ _ 1 _ _ _ h6]; rfl
  have d2 : W1.cell? ⟨w.heap.size + 1, 2, none⟩ = some (.slice none 0 0) := by rw [cell_of_row _ _ 2 _ _ _ h6]; rfl
  have d3 : W1.cell? ⟨w.heap.size + 1, 3, none⟩ = some (.int .i64 0) := by rw [cell_of_row _ _ 3 _ _ _ h6]; rfl
  have d4 : W1.cell? ⟨w.heap.size + 1, 4, none⟩ = some (.int .i64 0) := by rw [cell_of_row _ _ 4 _ _ _ h6]; rfl
  have f7 : ∀ j, W1.frozen? ⟨w.heap.size + 1 + 1, j, none⟩ = false := fun j => by simp [World.frozen?, h7]
  have f6 : ∀ j, W1.frozen? ⟨w.heap.size + 1, j, none⟩ = false := fun j => by simp [World.frozen?, h6]
  have H6 := hideH h6
  have H7 := hideH h7
  clear h6 h7
  go_wp2_with fail
  refine bodyPost_ret (results_cellK rfl _ _ _ (w.heap.size + 1) _ rfl (load_lookK (by exact look_put5K (heap_put3K (by omega) H6.out)))) rfl ?_
  have k0 := three_newK w (.cells #[.int .i64 6, .bool sec, .int .i64 nn, .int .u64 U, .int .i64 ii, bv, .string s, lv] 37) (.cells #[.int .u64 0, .string ⟨#[]⟩, .slice none 0 0, .int .i64 0, .int .i64 0] 60) (.cells #[.int .u64 0, .string ⟨#[]⟩, .slice none 0 0, .int .i64 p, .int .i64 0] 60)
  have sz := size3K w (.cells #[.int .i64 6, .bool sec, .int .i64 nn, .int .u64 U, .int .i64 ii, bv, .string s, lv] 37) (.cells #[.int .u64 0, .string ⟨#[]⟩, .slice none 0 0, .int .i64 0, .int .i64 0] 60) (.cells #[.int .u64 0, .string ⟨#[]⟩, .slice none 0 0, .int .i64 p, .int .i64 0] 60)
  refine ⟨_, _, _, _, _, _, _, _, rfl, k0, HQ.out, ?_, ?_⟩
  · rw [sz]
    exact (kept_put8K (z0 := w.heap.size) ⟨by omega, by omega⟩ ⟨by omega, by omega⟩).mono (fun _ e => .inl e.2)
  · exact (k0.trans HK.out (fun _ f => f.elim)).trans (kept_put8K (z0 := w.heap.size) (z := w.heap.size + 3) ⟨by omega, by omega⟩ ⟨by omega, by omega⟩) (fun _ e => .inr e.1)

set_option maxRecDepth 20000 in
set_option maxHeartbeats 4000000 in
theorem told_xK (kd : Int) (sec : Bool) (nn U ii : Int) (bv : Value) (s : ByteArray) (lv : Value) (dv : Value) (p : Nat) (w : World) (hk : kd < 1 ∨ 10 < kd) :
    Calls Tryd.prog 24 #[dv, .int .i64 p, .agg #[.int .i64 kd, .bool sec, .int .i64 nn, .int .u64 U, .int .i64 ii, bv, .string s, lv]] w fun e w' => e = .returned (.agg #[.int .u64 0, .string ⟨#[]⟩, .slice none 0 0, .int .i64 p, .int .i64 0]) ∧ Kept (fun _ => False) w w' := by
  have n1 : (kd == 1) = false := by rw [beq_eq_false_iff_ne]; omega
  have n2 : (kd == 2) = false := by rw [beq_eq_false_iff_ne]; omega
  have n3 : (kd == 3) = false := by rw [beq_eq_false_iff_ne]; omega
  have n4 : (kd == 4) = false := by rw [beq_eq_false_iff_ne]; omega
  have n5 : (kd == 5) = false := by rw [beq_eq_false_iff_ne]; omega
  have n6 : (kd == 6) = false := by rw [beq_eq_false_iff_ne]; omega
  have n7 : (kd == 7) = false := by rw [beq_eq_false_iff_ne]; omega
  have n8 : (kd == 8) = false := by rw [beq_eq_false_iff_ne]; omega
  have n9 : (kd == 9) = false := by rw [beq_eq_false_iff_ne]; omega
  have n10 : (kd == 10) = false := by rw [beq_eq_false_iff_ne]; omega
  clear hk
  go_enter Tryd.func24, Tryd.ntmps24
  go_wp2_with fail
  refine bodyPost_ret (results_cellK rfl _ _ _ (w.heap.size + 1) _ rfl (load_lookK (mid_newK _ _ _ _))) rfl ?_
  exact ⟨rfl, three_newK _ _ _ _⟩

end Go.Proofs.YtjmmdklgkcbihaaDoor

namespace Go.Proofs.YtjmmdklgkcbihaaDoor
open Go.ChangeShapes Go.WideShapes Go.ChangeAt Go.RowKit

/-- What a call of a Reader answers: a number, a text, a list, the place behind it, the error's number. -/
structure Lk where
  u : Int
  t : List Int
  ls : List Int
  nx : Nat
  e : Nat
def lkN (p : Nat) : Except Nat (Int × Nat) → Lk
  | .ok (x, q) => ⟨x, [], [], q, 0⟩
  | .error e => ⟨0, [], [], p, e + 1⟩
def lkT (p : Nat) : Except Nat (List Int × Nat) → Lk
  | .ok (x, q) => ⟨0, x, [], q, 0⟩
  | .error e => ⟨0, [], [], p, e + 1⟩
def lkL (p : Nat) : Except Nat (List Int × Nat) → Lk
  | .ok (x, q) => ⟨0, [], x, q, 0⟩
  | .error e => ⟨0, [], [], p, e + 1⟩
def byk (l : List Int) (p : Nat) : Except Nat (Int × Nat) := if p < l.length then .ok (l[p]?.getD 0, p + 1) else .error 0
def uvk (f : Int → Int) (l : List Int) (p : Nat) : Except Nat (Int × Nat) := match rdu 0 0 (l.drop p) with
  | .ok (x, k) => .ok (f x, p + k)
  | .error e => .error e
def upi (nn : Int) (l : List Int) (p : Nat) : Except Nat (Int × Nat) := match upk nn l p with
  | .ok (x, q) => .ok ((x : Int), q)
  | .error e => .error e
def wdk (m : Nat) (l : List Int) (p : Nat) : Except Nat (Int × Nat) := if p + m ≤ l.length then .ok (((vle ((l.drop p).take m) : Nat) : Int), p + m) else .error 0
/-- What a call of kind kd answers over the bytes l from the place p on. -/
def rlk (kd nn : Int) (l : List Int) (p : Nat) : Lk :=
  if kd = 1 then lkN p (byk l p) else if kd = 2 then lkN p (uvk id l p) else if kd = 3 then lkN p (uvk (fun x => IntKind.u64.wrap (zag x)) l p) else if kd = 10 then lkN p (upi nn l p) else if kd = 4 then lkN p (wdk 4 l p) else if kd = 5 then lkN p (wdk 8 l p) else if kd = 6 then lkT p (rwk nn l p) else if kd = 7 then lkT p (txk nn l p) else if kd = 8 then lkL p (rsk nn l p) else if kd = 9 then lkL p (pkk nn l p) else ⟨0, [], [], p, 0⟩
/-- A look as it lies. -/
def lkV (R : Lk) (a : Option Addr) (c : Nat) : Value := .agg #[.int .u64 R.u, .string (strOfNums R.t), .slice a R.ls.length c, .int .i64 (R.nx : Int), .int .i64 (R.e : Int)]
def tdP (w : World) (R : Lk) (e : Ending) (w' : World) : Prop := ∃ a c, e = .returned (lkV R a c) ∧ IntsAt w' a R.ls ∧ Kept (fun _ => False) w w' ∧ (R.ls ≠ [] → ∀ b off, a = some ⟨b, off, none⟩ → w.heap.size ≤ b)
theorem td_plain {w w' : World} {R : Lk} {e : Ending} (hl : R.ls = []) (h : e = .returned (.agg #[.int .u64 R.u, .string (strOfNums R.t), .slice none 0 0, .int .i64 (R.nx : Int), .int .i64 (R.e : Int)]) ∧ Kept (fun _ => False) w w') : tdP w R e w' := by
  refine ⟨none, 0, ?_, ?_, h.2, fun _ b off e => by cases e⟩
  · rw [h.1, lkV, hl]; rfl
  · rw [hl]; exact fun e => (e rfl).elim
theorem BytesAt.laterK {w w' : World} {a : Option Addr} {l : List Int} (h : BytesAt w a l) (k : Kept (fun _ => False) w w') : BytesAt w' a l := by
  intro hne
  obtain ⟨b, off, e, hc⟩ := h hne
  exact ⟨b, off, e, fun j hj => k.cell (hc j hj) (fun f => f)⟩
theorem gro_libIK {w0 w : World} {v : Value} {n : Nat} {l : List Int} (h : GroK w0 w 3 1 v n (is l)) : ∃ a c, v = .slice a l.length c ∧ IntsAt w a l ∧ ∀ b off, a = some ⟨b, off, none⟩ → w0.heap.size ≤ b ∧ b < w.heap.size := by
  have hn : n = l.length := by have := h.own.1; rw [show (is l).length = l.length by simp [is]] at this; omega
  obtain ⟨a, c, e, hI⟩ := gro_intsXK h hn
  refine ⟨a, c, by rw [e, hn], hI, fun b off ea => ?_⟩
  exact h.own.lt b (by rw [e, ea]; rfl)
theorem td_list {w : World} {p : Nat} {R : Except Nat (List Int × Nat)} {e : Ending} {w' : World}
    (h : ∃ (a : Option Addr) (m c : Nat) (z E : Int) (W0 W1 : World), e = .returned (.agg #[.int .u64 0, .string ⟨#[]⟩, .slice a m c, .int .i64 z, .int .i64 E]) ∧ Kept (fun _ => False) w W0 ∧ (∃ v, glPK W0 p (.returned (.tuple #[v, .int .i64 z, .int .i64 E])) W1 R ∧ v = .slice a m c) ∧ Kept (fun k => k < W0.heap.size) W1 w' ∧ Kept (fun _ => False) w w') : tdP w (lkL p R) e w' := by
  obtain ⟨a, m, c, z, E, W0, W1, rfl, k0, ⟨v, hg, rfl⟩, k1, k2⟩ := h
  cases R with
  | error er =>
    obtain ⟨g, he, _⟩ := hg
    simp only [Ending.returned.injEq, Value.tuple.injEq, Array.mk.injEq, List.cons.injEq, Value.slice.injEq, Value.int.injEq, true_and, and_true] at he
    obtain ⟨⟨rfl, rfl, rfl⟩, rfl, rfl⟩ := he
    exact ⟨_, _, rfl, fun e => (e rfl).elim, k2, fun e => (e rfl).elim⟩
  | ok xq =>
    obtain ⟨xs, q⟩ := xq
    obtain ⟨v, he, hG⟩ := hg
    simp only [Ending.returned.injEq, Value.tuple.injEq, Array.mk.injEq, List.cons.injEq, Value.int.injEq, true_and, and_true] at he
    obtain ⟨rfl, rfl, rfl⟩ := he
    obtain ⟨a', c', e2, hI, hnew⟩ := gro_libIK hG
    simp only [Value.slice.injEq] at e2
    obtain ⟨rfl, rfl, rfl⟩ := e2
    refine ⟨_, _, rfl, fun hne => ?_, k2, fun _ b off e => Nat.le_trans k0.size (hnew b off e).1⟩
    obtain ⟨b, off, ea, hc⟩ := hI hne
    exact ⟨b, off, ea, fun j hj => k1.cell (hc j hj) (fun f => by have h1 := (hnew b off ea).1; have f2 : b < W0.heap.size := f; omega)⟩
set_option maxRecDepth 20000 in
/-- The law's told of any Op. -/
theorem told_allK (kd : Int) (sec : Bool) (nn U ii : Int) (bv : Value) (s : ByteArray) (lv : Value) (l : List Int) (b off n c p : Nat) (w : World) (hn : n = l.length) (hB : BytesAt w (some ⟨b, off, none⟩) l) (hI : IsBytes l) (hp : p ≤ l.length) (hl : l.length ≤ 1048576) (hc : n ≤ c) (hm0 : -9223372036854775808 ≤ nn) (hm : nn ≤ 9223372036854775807) :
    Calls Tryd.prog 24 #[.slice (some ⟨b, off, none⟩) n c, .int .i64 p, .agg #[.int .i64 kd, .bool sec, .int .i64 nn, .int .u64 U, .int .i64 ii, bv, .string s, lv]] w (tdP w (rlk kd nn l p)) := by
  have hBW : ∀ W, Kept (fun _ => False) w W → BytesAt W (some ⟨b, off, none⟩) l := fun W k => hB.laterK k
  unfold rlk
  by_cases q1 : kd = 1
  · rw [if_pos q1, q1]
    by_cases hlt : p < l.length
    · have hd := hI _ (List.getElem_mem hlt)
      have h3 : l[p]?.getD 0 = l[p] := by rw [List.getElem?_eq_getElem hlt]; rfl
      rw [byk, if_pos hlt]
      exact (told_1K sec nn U ii bv s lv _ p (l[p]?.getD 0) (l[p]?.getD 0) (by rw [IntKind.wrap_u64, h3]; omega) ((p + 1 : Nat) : Int) 0 w (fun W k => rgetb_okK l _ n c p W hn (hBW W k) hlt (by omega))).mono fun e w' h => td_plain rfl h
    · obtain rfl : p = n := by omega
      rw [byk, if_neg hlt]
      exact (told_1K sec nn U ii bv s lv _ p 0 0 rfl p 1 w (fun W k => rgetb_endK _ p c W)).mono fun e w' h => td_plain rfl h
  rw [if_neg q1]
  by_cases q2 : kd = 2
  · rw [if_pos q2, q2]
    have CG := fun W k => rgetu_anyK l _ n c p W hn (hBW W k) hI hp (by omega)
    cases hr : rdu 0 0 (l.drop p) with
    | error er =>
      rw [uvk, hr]
      rw [hr] at CG
      exact (told_2K sec nn U ii bv s lv _ p 0 p ((er + 1 : Nat) : Int) w CG).mono fun e w' h => td_plain rfl h
    | ok xk =>
      rw [uvk, hr]
      rw [hr] at CG
      exact (told_2K sec nn U ii bv s lv _ p xk.1 ((p + xk.2 : Nat) : Int) 0 w CG).mono fun e w' h => td_plain rfl h
  rw [if_neg q2]
  by_cases q3 : kd = 3
  · rw [if_pos q3, q3]
    have CG := fun W k => rgetv_anyK l _ n c p W hn (hBW W k) hI hp (by omega)
    cases hr : rdu 0 0 (l.drop p) with
    | error er =>
      rw [uvk, hr]
      rw [hr] at CG
      exact (told_3K sec nn U ii bv s lv _ p 0 0 rfl p ((er + 1 : Nat) : Int) w CG).mono fun e w' h => td_plain rfl h
    | ok xk =>
      rw [uvk, hr]
      rw [hr] at CG
      exact (told_3K sec nn U ii bv s lv _ p (zag xk.1) (IntKind.u64.wrap (zag xk.1)) rfl ((p + xk.2 : Nat) : Int) 0 w CG).mono fun e w' h => td_plain rfl h
  rw [if_neg q3]
  by_cases q10 : kd = 10
  · rw [if_pos q10, q10]
    have CG := fun W k => rgetq_anyK nn l _ n c p W hn (hBW W k) hI hp (by omega) hm
    cases hr : upk nn l p with
    | error er =>
      rw [upi, hr]
      rw [hr] at CG
      exact (told_10K sec nn U ii bv s lv _ p 0 0 rfl p ((er + 1 : Nat) : Int) w CG).mono fun e w' h => td_plain rfl h
    | ok xk =>
      have hx := (upk_ok (x := xk.1) (q := xk.2) hr).2.2.1
      rw [upi, hr]
      rw [hr] at CG
      exact (told_10K sec nn U ii bv s lv _ p (xk.1 : Int) (xk.1 : Int) (by rw [IntKind.wrap_u64]; omega) (xk.2 : Int) 0 w CG).mono fun e w' h => td_plain rfl h
  rw [if_neg q10]
  by_cases q4 : kd = 4
  · rw [if_pos q4, q4]
    by_cases hw : p + 4 ≤ l.length
    · rw [wdk, if_pos hw]
      exact (told_4K sec nn U ii bv s lv _ p _ ((p + 4 : Nat) : Int) 0 w (fun W k => rgetw_okK 4 l _ n c p W hn (hBW W k) hI (by decide) (by decide) hw (by omega))).mono fun e w' h => td_plain rfl h
    · rw [wdk, if_neg hw]
      exact (told_4K sec nn U ii bv s lv _ p 0 p 1 w (fun W _ => rgetw_noK 4 _ n c p W (by decide) (by omega) (by omega) (by omega))).mono fun e w' h => td_plain rfl h
  rw [if_neg q4]
  by_cases q5 : kd = 5
  · rw [if_pos q5, q5]
    by_cases hw : p + 8 ≤ l.length
    · rw [wdk, if_pos hw]
      exact (told_5K sec nn U ii bv s lv _ p _ ((p + 8 : Nat) : Int) 0 w (fun W k => rgetw_okK 8 l _ n c p W hn (hBW W k) hI (by decide) (by decide) hw (by omega))).mono fun e w' h => td_plain rfl h
    · rw [wdk, if_neg hw]
      exact (told_5K sec nn U ii bv s lv _ p 0 p 1 w (fun W _ => rgetw_noK 8 _ n c p W (by decide) (by omega) (by omega) (by omega))).mono fun e w' h => td_plain rfl h
  rw [if_neg q5]
  by_cases q6 : kd = 6
  · rw [if_pos q6, q6]
    refine (told_6K sec nn U ii bv s lv _ p w (fun _ _ _ _ T z E _ => lkT p (rwk nn l p) = ⟨0, (lkT p (rwk nn l p)).t, [], (lkT p (rwk nn l p)).nx, (lkT p (rwk nn l p)).e⟩ ∧ T = strOfNums (lkT p (rwk nn l p)).t ∧ z = ((lkT p (rwk nn l p)).nx : Int) ∧ E = ((lkT p (rwk nn l p)).e : Int)) (fun W k => ?_)).mono ?_
    · refine (rgetr_anyK nn l b off n c p W hn (hBW W k) hp (by omega) hc hm0 hm).mono ?_
      intro e w' h
      cases hr : rwk nn l p with
      | error er =>
        rw [hr] at h
        obtain ⟨rfl, k2⟩ := h
        exact ⟨_, _, _, _, _, _, rfl, k2, conv_atK (B := []) (fun h => absurd rfl h), rfl, rfl, rfl, rfl⟩
      | ok tq =>
        rw [hr] at h
        obtain ⟨v, rfl, hG⟩ := h
        obtain ⟨a', c', e2⟩ := hG.shape
        subst e2
        obtain ⟨hb, hn2, _⟩ := gro_bytesK hG
        exact ⟨_, _, _, _, _, _, rfl, hG.kept, conv_atK hb, rfl, rfl, rfl, rfl⟩
    · rintro e w' ⟨a, m, c2, T, z, E, W0, W1, rfl, k0, ⟨hR, rfl, rfl, rfl⟩, k1, k2⟩
      exact td_plain (by rw [hR]) ⟨by rw [hR], k2⟩
  rw [if_neg q6]
  by_cases q7 : kd = 7
  · rw [if_pos q7, q7]
    have CG := fun W k => rgett_anyK nn l _ n c p W hn (hBW W k) hI hp (by omega) hc hm
    cases hr : txk nn l p with
    | error er =>
      rw [hr] at CG
      exact (told_7K sec nn U ii bv s lv _ p ⟨#[]⟩ p ((er + 1 : Nat) : Int) w CG).mono fun e w' h => td_plain rfl h
    | ok xk =>
      rw [hr] at CG
      exact (told_7K sec nn U ii bv s lv _ p (strOfNums xk.1) (xk.2 : Int) 0 w CG).mono fun e w' h => td_plain rfl h
  rw [if_neg q7]
  have lst : ∀ {R : Except Nat (List Int × Nat)} {W w' : World} {e : Ending}, glPK W p e w' R → ∃ (a : Option Addr) (m c : Nat) (z E : Int), e = .returned (.tuple #[.slice a m c, .int .i64 z, .int .i64 E]) ∧ Kept (fun _ => False) W w' ∧ ∃ v, glPK W p (.returned (.tuple #[v, .int .i64 z, .int .i64 E])) w' R ∧ v = .slice a m c := by
    intro R W w' e h
    cases R with
    | error er =>
      obtain ⟨g, rfl, k2⟩ := h
      exact ⟨_, _, _, _, _, rfl, k2, _, ⟨g, rfl, k2⟩, rfl⟩
    | ok tq =>
      obtain ⟨v, rfl, hG⟩ := h
      obtain ⟨a', c', e2⟩ := hG.shape
      subst e2
      exact ⟨_, _, _, _, _, rfl, hG.kept, _, ⟨_, rfl, hG⟩, rfl⟩
  by_cases q8 : kd = 8
  · rw [if_pos q8, q8]
    exact (told_8K sec nn U ii bv s lv _ p w (fun W a m c z E w' => ∃ v, glPK W p (.returned (.tuple #[v, .int .i64 z, .int .i64 E])) w' (rsk nn l p) ∧ v = .slice a m c) (fun W k => (rgetl_anyK nn l _ n c p W hn (hBW W k) hI hp (by omega) hm).mono fun e w' h => lst h)).mono fun e w' h => td_list h
  rw [if_neg q8]
  by_cases q9 : kd = 9
  · rw [if_pos q9, q9]
    exact (told_9K sec nn U ii bv s lv _ p w (fun W a m c z E w' => ∃ v, glPK W p (.returned (.tuple #[v, .int .i64 z, .int .i64 E])) w' (pkk nn l p) ∧ v = .slice a m c) (fun W k => (rgetk_anyK nn l _ n c p W hn (hBW W k) hI hp (by omega) hm).mono fun e w' h => lst h)).mono fun e w' h => td_list h
  rw [if_neg q9]
  exact (told_xK kd sec nn U ii bv s lv _ p w (by omega)).mono fun e w' h => td_plain rfl h
end Go.Proofs.YtjmmdklgkcbihaaDoor
