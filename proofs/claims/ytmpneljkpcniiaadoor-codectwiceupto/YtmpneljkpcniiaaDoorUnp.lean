import Derived.Test.YtmpneljkpcniiaaDoorRdJ
namespace Go.Proofs.YtmpneljkpcniiaaDoor
open Go.ChangeShapes Go.WideShapes Go.ChangeAt Go.RowKit

/-- The n elements of the width w that a number stands for. -/
def unp (V w n : Nat) : List Int := (List.range n).map fun i => ((V / 2 ^ (i * w) % 2 ^ w : Nat) : Int)
theorem unp_length (V w n : Nat) : (unp V w n).length = n := by simp [unp]
theorem unp_succ (V w n : Nat) : unp V w (n + 1) = unp V w n ++ [((V / 2 ^ (n * w) % 2 ^ w : Nat) : Int)] := by simp [unp, List.range_succ]
/-- A piece of a byte is a piece of the number. -/
theorem piece_of (A r t : Nat) (h : r + t ≤ 8) : A % 256 / 2 ^ r % 2 ^ t = A / 2 ^ r % 2 ^ t := by
  have e : (256 : Nat) = 2 ^ r * 2 ^ (8 - r) := by rw [← Nat.pow_add, show r + (8 - r) = 8 by omega]
  rw [e, Nat.mod_mul_right_div_self, Nat.mod_mod_of_dvd]
  exact Nat.pow_dvd_pow 2 (by omega)
theorem vle_digit : ∀ (R : List Int) (j : Nat), IsBytes R → (h : j < R.length) → ((vle R / 256 ^ j % 256 : Nat) : Int) = R[j] := by
  intro R
  induction R with
  | nil => intro j _ h; simp at h
  | cons c r ih =>
    intro j hB h
    have h1 := hB c (List.mem_cons_self ..)
    cases j with
    | zero => rw [vle]; simp; omega
    | succ j =>
      have h2 := ih j (fun x hx => hB x (List.mem_cons_of_mem _ hx)) (by simpa using h)
      rw [vle, Nat.pow_succ, Nat.mul_comm (256 ^ j) 256, ← Nat.div_div_eq_div_mul]
      have e : (c.toNat + 256 * vle r) / 256 = vle r := by omega
      rw [e, h2]; rfl
/-- The bits from a place on, in one byte. -/
theorem piece_at {R : List Int} {j r t c : Nat} (hB : IsBytes R) (hj : j < R.length) (hc : R[j] = c) (h : r + t ≤ 8) : c / 2 ^ r % 2 ^ t = vle R / 2 ^ (8 * j + r) % 2 ^ t := by
  have e := vle_digit R j hB hj
  rw [hc] at e
  have e2 : vle R / 256 ^ j % 256 = c := by omega
  rw [← e2, piece_of _ _ _ h, pow8, Nat.div_div_eq_div_mul, ← Nat.pow_add]
theorem mod_more (A g t : Nat) : A % 2 ^ g + A / 2 ^ g % 2 ^ t * 2 ^ g = A % 2 ^ (g + t) := by
  rw [Nat.pow_add, Nat.mod_mul, Nat.mul_comm (2 ^ g)]
theorem and_mask (a t : Nat) (ha : a < 2 ^ 64) (ht : t ≤ 8) : bits .and .u64 (a : Int) ((2 : Int) ^ t - 1) = ((a % 2 ^ t : Nat) : Int) := by
  have h2 : 2 ^ t ≤ 2 ^ 8 := Nat.pow_le_pow_right (by decide) ht
  have hp := Nat.two_pow_pos t
  have e : (2 : Int) ^ t - 1 = ((2 ^ t - 1 : Nat) : Int) := by
    have : ((2 ^ t : Nat) : Int) = (2 : Int) ^ t := by push_cast; rfl
    omega
  rw [e]
  show IntKind.u64.wrap ((BitVec.ofInt 64 (a : Int) &&& BitVec.ofInt 64 ((2 ^ t - 1 : Nat) : Int)).toNat : Int) = _
  rw [BitVec.toNat_and, ofInt_nat a ha, ofInt_nat _ (by omega), Nat.and_two_pow_sub_one_eq_mod, IntKind.wrap_u64]
  have := Nat.mod_lt a hp
  omega

theorem mask_piece (cc r t : Nat) (hc : cc < 256) (ht : t ≤ 8) : bits .and .u64 ((cc : Int) / 2 ^ r) (IntKind.u64.wrap (IntKind.u64.wrap (2 ^ t) - 1)) = ((cc / 2 ^ r % 2 ^ t : Nat) : Int) := by
  have h2 : 2 ^ t ≤ 2 ^ 8 := Nat.pow_le_pow_right (by decide) ht
  have hp := Nat.two_pow_pos t
  have e0 : ((2 ^ t : Nat) : Int) = (2 : Int) ^ t := by push_cast; rfl
  have e : IntKind.u64.wrap (IntKind.u64.wrap (2 ^ t) - 1) = (2 : Int) ^ t - 1 := by
    rw [IntKind.wrap_u64, IntKind.wrap_u64]
    omega
  have e2 : ((cc : Int) / 2 ^ r) = ((cc / 2 ^ r : Nat) : Int) := by push_cast; rfl
  rw [e, e2, and_mask _ _ (Nat.lt_of_le_of_lt (Nat.div_le_self _ _) (by omega)) ht]
theorem or_shift (y pc g : Nat) (hy : y < 2 ^ g) (h : y + pc * 2 ^ g < 2 ^ 64) : bits .or .u64 (y : Int) (IntKind.u64.wrap ((pc : Int) * 2 ^ g)) = ((y + pc * 2 ^ g : Nat) : Int) := by
  have e : IntKind.u64.wrap ((pc : Int) * 2 ^ g) = ((pc * 2 ^ g : Nat) : Int) := by
    rw [IntKind.wrap_u64]
    have e1 : ((pc : Int) * 2 ^ g) = ((pc * 2 ^ g : Nat) : Int) := by push_cast; rfl
    rw [e1]
    omega
  rw [e, or_u64 _ _ (by omega) (by omega), or_above _ _ _ hy]
theorem set_mid {α : Type} (a : List α) (x u : α) (r : List α) (k : Nat) (h : a.length = k) : (a ++ x :: r).set k u = (a ++ [u]) ++ r := by
  subst h
  simp

set_option maxRecDepth 20000 in
set_option maxHeartbeats 4000000 in
theorem unpack_any (R : List Int) (a : Option Addr) (c n wd : Nat) (w : World) (h : BytesAt w a R) (hB : IsBytes R) (hw : wd ≤ 63) (hn : n * wd ≤ 8 * R.length) (hn2 : n ≤ 17592186044416) (hR : R.length ≤ 1099511627776) :
    Calls Tryd.prog 32 #[.slice a R.length c, .int .i64 n, .int .i64 wd] w fun e w' => e = .returned (.slice (some ⟨w.heap.size, 0, none⟩) n n) ∧ w'.ownsRow w.heap.size 3 1 (.slice (some ⟨w.heap.size, 0, none⟩) n n) n (is (unp (vle R) wd n)) ∧ Kept (fun _ => False) w w' := by
  obtain ⟨i0, hi, hz0, hz1, hz2⟩ := info_parts Tryd.infoI
  have HA := hide h
  have HB := hide hB
  obtain ⟨V, hV⟩ : ∃ V, V = vle R := ⟨_, rfl⟩
  have HV := hide hV
  rw [← hV]
  clear h hB hV
  go_enter Tryd.func32, Tryd.ntmps32
  go_wp2_with (at_make; refine wpList_make_full _ rfl _ _ 22 rfl w.heap.size 3 i0 (.int .i64 0) 1 Tryd.underlying22 hi hz0 hz1 _ _ _ _ n rfl rfl rfl rfl ?m1 ?m2 (Nat.le_refl _) ?_)
  case m1 => rw [hz2]; omega
  case m2 => unfold maxLen; omega
  intro w1 hown1 hgrow1
  have hK1 : Kept (fun _ => False) w w1 := (Kept.grown hgrow1).mono (fun _ e => by cases e)
  have hO1 : w1.ownsRow w.heap.size 3 1 (.slice (some ⟨w.heap.size, 0, none⟩) n n) n (is (unp V wd 0) ++ (madeCells #[Value.int .i64 0] n).toList) := by
    have e : is (unp V wd 0) = [] := rfl
    rw [e, List.nil_append]
    exact hown1
  have HK1 := hide hK1
  have HO1 := hide hO1
  clear hown1 hgrow1 hK1 hO1
  go_wp2
  go_loopw [8, 18] (fun bt i wr => ∃ (k : Nat) (rest : List Value), k ≤ n ∧ i = .int .i64 k ∧ bt = .int .i64 ((k * wd : Nat) : Int) ∧ wr.ownsRow w.heap.size 3 1 (.slice (some ⟨w.heap.size, 0, none⟩) n n) n (is (unp V wd k) ++ rest) ∧ Kept (fun _ => False) w wr) (fun _ i _ => n - (intOf i).toNat)
  case atStart => exact ⟨0, _, Nat.zero_le _, rfl, by simp, HO1.out, HK1.out⟩
  case round =>
    clear HO1 HK1
    obtain ⟨k, rest, hk, rfl, rfl, hown, hK⟩ := hrel
    have HO := hide hown
    have HK := hide hK
    clear hown hK
    by_cases hlt : k < n
    · obtain ⟨wo, rfl⟩ : ∃ wo : World, wo = wr := ⟨_, rfl⟩
      have hkw : k * wd + wd ≤ n * wd := by
        have : (k + 1) * wd ≤ n * wd := Nat.mul_le_mul_right _ hlt
        rwa [Nat.add_mul, Nat.one_mul] at this
      have hkb : k * wd ≤ 8796093022208 := by omega
      go_wp2
      go_loopw [8, 10, 11] (fun bt vv gt wr => ∃ (g m : Nat), g ≤ wd ∧ bt = .int .i64 ((k * wd + g : Nat) : Int) ∧ gt = .int .i64 g ∧ vv = .int .u64 ((V / 2 ^ (k * wd) % 2 ^ g : Nat) : Int) ∧ wr = wo.drewN m) (fun _ _ gt _ => wd - (intOf gt).toNat)
      case atStart => exact ⟨0, 0, Nat.zero_le _, by simp, rfl, by simp [Nat.mod_one], rfl⟩
      case round =>
        obtain ⟨g, m, hg, rfl, rfl, rfl, rfl⟩ := hrel
        by_cases hgl : g < wd
        · obtain ⟨T, hT⟩ : ∃ T, T = k * wd + g := ⟨_, rfl⟩
          rw [← hT]
          have hTb : T < 8 * R.length := by omega
          have hTb2 : T ≤ 8796093022208 := by omega
          have HT := hide hT
          clear hT
          have hj : T / 8 < R.length := by omega
          obtain ⟨b, off, rfl, hcl⟩ := HA.out.get hj
          obtain ⟨cc, e1, e2, e3⟩ := HB.out.at hj
          rw [e1] at hcl
          have hcl2 := HK.out.cell hcl (fun f => f)
          have HE3 := hide e3
          clear e1 e3 hcl
          obtain ⟨y, hy⟩ : ∃ y, y = V / 2 ^ (k * wd) % 2 ^ g := ⟨_, rfl⟩
          rw [← hy]
          have HY := hide hy
          clear hy
          have stp : ∀ t : Nat, t ≤ 8 - T % 8 → g + t ≤ wd → ∃ pc ny : Nat, bits .and .u64 ((cc : Int) / 2 ^ (T % 8)) (IntKind.u64.wrap (IntKind.u64.wrap (2 ^ t) - 1)) = (pc : Int) ∧ pc < 256 ∧ bits .or .u64 (y : Int) (IntKind.u64.wrap ((pc : Int) * 2 ^ g)) = (ny : Int) ∧ ny = V / 2 ^ (k * wd) % 2 ^ (g + t) ∧ ny < 9223372036854775808 := by
            intro t ht hgt
            have e4 := piece_at HB.out hj HE3.out (r := T % 8) (t := t) (by omega)
            rw [← HV.out, Nat.div_add_mod, HT.out, Nat.pow_add, ← Nat.div_div_eq_div_mul] at e4
            have e5 := mod_more (V / 2 ^ (k * wd)) g t
            have hlt9 : V / 2 ^ (k * wd) % 2 ^ (g + t) < 2 ^ 63 := Nat.lt_of_lt_of_le (Nat.mod_lt _ (Nat.two_pow_pos _)) (Nat.pow_le_pow_right (by decide) (by omega))
            have hpc : cc / 2 ^ ((k * wd + g) % 8) % 2 ^ t < 256 := Nat.lt_of_le_of_lt (Nat.mod_le _ _) (Nat.lt_of_le_of_lt (Nat.div_le_self _ _) e2)
            refine ⟨cc / 2 ^ (T % 8) % 2 ^ t, _, mask_piece cc (T % 8) t e2 (by omega), by rw [HT.out]; exact hpc, or_shift _ _ _ ?_ ?_, ?_, ?_⟩
            · rw [HY.out]; exact Nat.mod_lt _ (Nat.two_pow_pos _)
            · rw [HY.out, HT.out, e4, e5]; omega
            · rw [HY.out, HT.out, e4, e5]
            · rw [HY.out, HT.out, e4, e5]; omega
          have STP := hide stp
          clear stp
          by_cases hmin : (wd : Int) - g ≤ 8 - (T : Int) % 8
          · obtain ⟨pc, ny, b1, b2, b3, b4, b5⟩ := STP.out (wd - g) (by omega) (by omega)
            have B4 := hide b4
            clear b4 STP
            go_wp2_with fail
            go_quiet (fail)
            go_wp2
            go_roundw
            case rel =>
              refine ⟨wd, _, Nat.le_refl _, ?_, ?_, ?_, rfl⟩
              · have := HT.out; congr 1; omega
              · congr 1; omega
              · rw [B4.out, show g + (wd - g) = wd by omega]
            case measure => simp [intOf]; omega
          · obtain ⟨pc, ny, b1, b2, b3, b4, b5⟩ := STP.out (8 - T % 8) (by omega) (by omega)
            have B4 := hide b4
            clear b4 STP
            go_wp2_with fail
            go_quiet (fail)
            go_wp2
            go_roundw
            case rel =>
              refine ⟨g + (8 - T % 8), _, by omega, ?_, ?_, ?_, rfl⟩
              · have := HT.out; congr 1; omega
              · congr 1; omega
              · rw [B4.out]
            case measure => simp [intOf]; omega
        · obtain rfl : g = wd := by omega
          obtain ⟨y, hy⟩ : ∃ y, y = V / 2 ^ (k * g) % 2 ^ g := ⟨_, rfl⟩
          have hy63 : y < 9223372036854775808 := by
            rw [hy]
            exact Nat.lt_of_lt_of_le (Nat.mod_lt _ (Nat.two_pow_pos _)) (Nat.pow_le_pow_right (n := 2) (by decide) hw)
          rw [← hy]
          have HY := hide hy
          have hl9 : rest.length = n - k := by
            have := HO.out.1
            rw [List.length_append, is_length, unp_length] at this
            omega
          obtain ⟨r0, rs, hrs⟩ : ∃ r0 rs, rest = r0 :: rs := by
            cases rest with
            | nil => simp at hl9; omega
            | cons a b => exact ⟨a, b, rfl⟩
          subst hrs
          have hcell : wo.cell? ⟨w.heap.size, k, none⟩ = some r0 := by
            rw [HO.out.cellAt k (by omega), List.getElem?_append_right (by rw [is_length, unp_length]; omega), is_length, unp_length, Nat.sub_self]
            rfl
          have hfz := HO.out.frozenAt k
          have hst := (HO.out.stored k (.int .i64 y))
          have hO2 : ((wo.drewN m).setCell ⟨w.heap.size, k, none⟩ (.int .i64 y)).ownsRow w.heap.size 3 1 (.slice (some ⟨w.heap.size, 0, none⟩) n n) n (is (unp V g (k + 1)) ++ rs) := by
            have q := hst.1
            rw [set_mid _ _ _ _ _ (by rw [is_length, unp_length])] at q
            have e : is (unp V g (k + 1)) = is (unp V g k) ++ [Value.int .i64 y] := by
              rw [unp_succ, is, List.map_append, hy]; rfl
            rw [e]
            exact q
          have hK2 : Kept (fun _ => False) w ((wo.drewN m).setCell ⟨w.heap.size, k, none⟩ (.int .i64 y)) := (HK.out.trans (Kept.drewN wo m) (fun _ f => f.elim)).trans (Kept.setCell _ _ _) (fun i hi => .inr (by rw [hi]; exact Nat.le_refl _))
          have HO2 := hide hO2
          have HK2 := hide hK2
          clear hst hO2 hK2 hy hl9
          go_wp2
          go_roundw
          case rel =>
            refine ⟨k + 1, rs, by omega, by go_num, ?_, HO2.out, HK2.out⟩
            congr 1
            rw [Nat.add_mul, Nat.one_mul]
          case measure => simp [intOf]; omega
    · obtain rfl : k = n := by omega
      have hl9 : rest = [] := by
        have := HO.out.1
        rw [List.length_append, is_length, unp_length] at this
        exact List.eq_nil_of_length_eq_zero (by omega)
      subst hl9
      clear hlt hk
      go_wp2
      go_ret
      refine ⟨rfl, ?_, HK.out⟩
      have q := HO.out
      rwa [List.append_nil] at q
end Go.Proofs.YtmpneljkpcniiaaDoor
