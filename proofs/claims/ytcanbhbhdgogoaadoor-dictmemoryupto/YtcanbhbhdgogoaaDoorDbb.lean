import Derived.Test.YtcanbhbhdgogoaaDoorDba
namespace Go.Proofs.YtcanbhbhdgogoaaDoor
open Go.ChangeShapes Go.WideShapes Go.ChangeAt Go.RowKit

theorem all_no {l : List En} {j : Nat} (hj : j < l.length) (h : genB l[j] = false) : l.all genB = false := by
  cases hq : l.all genB with
  | false => rfl
  | true =>
    rw [List.all_eq_true] at hq
    rw [hq _ (List.getElem_mem hj)] at h
    cases h
theorem all_yes {l : List En} (h : ∀ j (hj : j < l.length), genB l[j] = true) : l.all genB = true := by
  rw [List.all_eq_true]
  intro e he
  obtain ⟨j, hj, rfl⟩ := List.getElem_of_mem he
  exact h j hj
def n4 (d t p s : Int) (i : Nat) : Int := match i with | 0 => d | 1 => t | 2 => p | _ => s
theorem genB_key {k : ByteArray} {d t p s : Int} (h : ¬ (1 ≤ k.size ∧ k.size ≤ 65)) : genB ⟨k, d, t, p, s⟩ = false := by
  cases hq : genB ⟨k, d, t, p, s⟩ with
  | false => rfl
  | true => exact absurd ⟨((gen_iff _).1 hq).k1, ((gen_iff _).1 hq).k2⟩ h
theorem genB_num {k : ByteArray} {d t p s : Int} {i : Nat} (hi : i < 4) (h : n4 d t p s i < 0 ∨ 2147483647 < n4 d t p s i) : genB ⟨k, d, t, p, s⟩ = false := by
  cases hq : genB ⟨k, d, t, p, s⟩ with
  | false => rfl
  | true =>
    exfalso
    have hg := (gen_iff _).1 hq
    obtain ⟨-, -, h1, h2, h3, h4⟩ := hg
    obtain rfl | rfl | rfl | rfl : i = 0 ∨ i = 1 ∨ i = 2 ∨ i = 3 := by omega
    all_goals
      simp only [n4] at h
      simp only at h1 h2 h3 h4
      omega
theorem genB_all {k : ByteArray} {d t p s : Int} (h1 : 1 ≤ k.size) (h2 : k.size ≤ 65) (h : ∀ i, i < 4 → 0 ≤ n4 d t p s i ∧ n4 d t p s i ≤ 2147483647) : genB ⟨k, d, t, p, s⟩ = true :=
  (gen_iff _).2 ⟨h1, h2, h 0 (by omega), h 1 (by omega), h 2 (by omega), h 3 (by omega)⟩
theorem idx0 (d t p s : Int) (W : World) : (Instr.index 83 (.agg #[.int .i64 d, .int .i64 t, .int .i64 p, .int .i64 s]) (.int .i64 0)).run Tryd.prog W = .ok (.int .i64 d) W := by kernel_rfl
theorem idx1 (d t p s : Int) (W : World) : (Instr.index 83 (.agg #[.int .i64 d, .int .i64 t, .int .i64 p, .int .i64 s]) (.int .i64 1)).run Tryd.prog W = .ok (.int .i64 t) W := by kernel_rfl
theorem idx2 (d t p s : Int) (W : World) : (Instr.index 83 (.agg #[.int .i64 d, .int .i64 t, .int .i64 p, .int .i64 s]) (.int .i64 2)).run Tryd.prog W = .ok (.int .i64 p) W := by kernel_rfl
theorem idx3 (d t p s : Int) (W : World) : (Instr.index 83 (.agg #[.int .i64 d, .int .i64 t, .int .i64 p, .int .i64 s]) (.int .i64 3)).run Tryd.prog W = .ok (.int .i64 s) W := by kernel_rfl
set_option maxRecDepth 20000 in
set_option maxHeartbeats 8000000 in
theorem keepLimits_any (l : List En) (a : Option Addr) (c : Nat) (w : World) (h : EsAt w a l) (hl : l.length ≤ 1099511627776) : Calls Tryd.prog 19 #[.slice a l.length c] w fun e w' => e = .returned (.bool (l.all genB)) ∧ Kept (fun _ => False) w w' := by
  have HE := hideQ h
  obtain ⟨nl, hnl⟩ : ∃ nl, nl = l.length := ⟨_, rfl⟩
  rw [← hnl] at hl ⊢
  have HNL := hideQ hnl
  obtain ⟨B, hB⟩ : ∃ B, B = l.all genB := ⟨_, rfl⟩
  rw [← hB]
  have HB := hideQ hB
  clear h hnl hB
  go_enter Tryd.func19, Tryd.ntmps19
  go_wp2
  go_loopw [9] (fun v9 wr => ∃ (j : Nat), j ≤ nl ∧ v9 = .int .i64 j ∧ Hid (Kept (fun _ => False) w wr) ∧ Hid (∀ i (hi : i < l.length), i < j → genB l[i] = true)) (fun v9 _ => nl - (intOf v9).toNat)
  case atStart => exact ⟨0, by omega, rfl, Kept.refl _ _, hideQ (fun i _ hi => by omega)⟩
  case round =>
    obtain ⟨j, hj, rfl, HK, HF⟩ := hrel
    by_cases hlt : j < nl
    · have hjj : (j : Int) < (nl : Int) := by omega
      have hjl : j < l.length := by rw [← HNL.out]; exact hlt
      obtain ⟨b, off, rfl, hc⟩ := HE.out.kept HK.out (by intro e; rw [e] at hjl; simp at hjl)
      obtain ⟨x0, x1, x2, x3, x4⟩ := hc j hjl
      have HNo : Hid (genB l[j] = false → B = false) := hideQ (fun h => by rw [HB.out]; exact all_no hjl h)
      have HYes : Hid (genB l[j] = true → ∀ i (hi : i < l.length), i < j + 1 → genB l[i] = true) := hideQ (fun h i hi h2 => by
        by_cases e : i = j
        · subst e; exact h
        · exact HF.out i hi (by omega))
      generalize l[j] = en at *
      obtain ⟨k, d, t, p, s⟩ := en
      simp only at x0 x1 x2 x3 x4
      clear hc HF hjl
      have KA := hideQ (Kept.alloc wr (.cells #[.string k, .int .i64 d, .int .i64 t, .int .i64 p, .int .i64 s] 31))
      have CN := fun w => hideQ (numbersOf_any k d t p s w)
      by_cases hk : 1 ≤ k.size ∧ k.size ≤ 65
      · have hk1 : ¬ ((k.size : Int) < 1) := by omega
        have hk2 : ¬ ((65 : Int) < (k.size : Int)) := by omega
        have hk3 : decide ((k.size : Int) < 1) = false := decide_eq_false hk1
        have hk4 : decide ((65 : Int) < (k.size : Int)) = false := decide_eq_false hk2
        have hk5 : decide (65 < k.size) = false := decide_eq_false (by omega)
        have HGl := hideQ (genB_all (k := k) (d := d) (t := t) (p := p) (s := s) hk.1 hk.2)
        go_wp2_with (go_at_call 42; refine (CN _).out.mono ?_; rintro e W1 ⟨rfl, K1⟩; have HK1 := hideQ ((HK.out.trans KA.out (fun _ f => f.elim)).trans K1 (fun _ f => f.elim)); clear K1; unfold n4V)
        clear x0 x1 x2 x3 x4 KA
        go_loopw [25] (fun v25 wr => ∃ (i : Nat), i ≤ 4 ∧ v25 = .int .i64 i ∧ Hid (Kept (fun _ => False) w wr) ∧ Hid (∀ m, m < i → 0 ≤ n4 d t p s m ∧ n4 d t p s m ≤ 2147483647)) (fun v25 _ => 4 - (intOf v25).toNat)
        case atStart => exact ⟨0, by omega, rfl, HK1, hideQ (fun i hi => by omega)⟩
        case round =>
          obtain ⟨i, hi, rfl, HK2, HF2⟩ := hrel
          clear HK1
          have HSt : Hid (∀ z, n4 d t p s i = z → 0 ≤ z → z ≤ 2147483647 → ∀ m, m < i + 1 → 0 ≤ n4 d t p s m ∧ n4 d t p s m ≤ 2147483647) := hideQ (fun z hz h1 h2 m hm => by
            by_cases e : m = i
            · rw [e, hz]; exact ⟨h1, h2⟩
            · exact HF2.out m (by omega))
          have HBd : Hid (∀ z, n4 d t p s i = z → i < 4 → (z < 0 ∨ 2147483647 < z) → B = false) := hideQ (fun z hz h4 h => HNo.out (genB_num h4 (by rw [hz]; exact h)))
          obtain rfl | rfl | rfl | rfl | rfl : i = 0 ∨ i = 1 ∨ i = 2 ∨ i = 3 ∨ i = 4 := by omega
          · have hix := idx0 d t p s
            by_cases hz0 : d < 0
            · have HQ := hideQ (HBd.out d rfl (by omega) (.inl hz0))
              clear HSt HBd HF2
              have z1 : decide (d < 0) = true := decide_eq_true hz0
              go_wp2
              go_ret
              exact ⟨by rw [HQ.out]; rfl, HK2.out⟩
            · have z1 : decide (d < 0) = false := decide_eq_false hz0
              by_cases hz1 : 2147483647 < d
              · have HQ := hideQ (HBd.out d rfl (by omega) (.inr hz1))
                have z2 : decide (2147483647 < d) = true := decide_eq_true hz1
                clear HSt HBd HF2
                go_wp2
                go_ret
                exact ⟨by rw [HQ.out]; rfl, HK2.out⟩
              · have HQ := hideQ (HSt.out d rfl (by omega) (by omega))
                have z2 : decide (2147483647 < d) = false := decide_eq_false hz1
                clear HSt HBd HF2
                go_wp2
                go_roundw
                case rel => exact ⟨0 + 1, by omega, by go_num, HK2, HQ⟩
                case measure => simp [intOf]
          · have hix := idx1 d t p s
            by_cases hz0 : t < 0
            · have HQ := hideQ (HBd.out t rfl (by omega) (.inl hz0))
              clear HSt HBd HF2
              have z1 : decide (t < 0) = true := decide_eq_true hz0
              go_wp2
              go_ret
              exact ⟨by rw [HQ.out]; rfl, HK2.out⟩
            · have z1 : decide (t < 0) = false := decide_eq_false hz0
              by_cases hz1 : 2147483647 < t
              · have HQ := hideQ (HBd.out t rfl (by omega) (.inr hz1))
                have z2 : decide (2147483647 < t) = true := decide_eq_true hz1
                clear HSt HBd HF2
                go_wp2
                go_ret
                exact ⟨by rw [HQ.out]; rfl, HK2.out⟩
              · have HQ := hideQ (HSt.out t rfl (by omega) (by omega))
                have z2 : decide (2147483647 < t) = false := decide_eq_false hz1
                clear HSt HBd HF2
                go_wp2
                go_roundw
                case rel => exact ⟨1 + 1, by omega, by go_num, HK2, HQ⟩
                case measure => simp [intOf]
          · have hix := idx2 d t p s
            by_cases hz0 : p < 0
            · have HQ := hideQ (HBd.out p rfl (by omega) (.inl hz0))
              clear HSt HBd HF2
              have z1 : decide (p < 0) = true := decide_eq_true hz0
              go_wp2
              go_ret
              exact ⟨by rw [HQ.out]; rfl, HK2.out⟩
            · have z1 : decide (p < 0) = false := decide_eq_false hz0
              by_cases hz1 : 2147483647 < p
              · have HQ := hideQ (HBd.out p rfl (by omega) (.inr hz1))
                have z2 : decide (2147483647 < p) = true := decide_eq_true hz1
                clear HSt HBd HF2
                go_wp2
                go_ret
                exact ⟨by rw [HQ.out]; rfl, HK2.out⟩
              · have HQ := hideQ (HSt.out p rfl (by omega) (by omega))
                have z2 : decide (2147483647 < p) = false := decide_eq_false hz1
                clear HSt HBd HF2
                go_wp2
                go_roundw
                case rel => exact ⟨2 + 1, by omega, by go_num, HK2, HQ⟩
                case measure => simp [intOf]
          · have hix := idx3 d t p s
            by_cases hz0 : s < 0
            · have HQ := hideQ (HBd.out s rfl (by omega) (.inl hz0))
              clear HSt HBd HF2
              have z1 : decide (s < 0) = true := decide_eq_true hz0
              go_wp2
              go_ret
              exact ⟨by rw [HQ.out]; rfl, HK2.out⟩
            · have z1 : decide (s < 0) = false := decide_eq_false hz0
              by_cases hz1 : 2147483647 < s
              · have HQ := hideQ (HBd.out s rfl (by omega) (.inr hz1))
                have z2 : decide (2147483647 < s) = true := decide_eq_true hz1
                clear HSt HBd HF2
                go_wp2
                go_ret
                exact ⟨by rw [HQ.out]; rfl, HK2.out⟩
              · have HQ := hideQ (HSt.out s rfl (by omega) (by omega))
                have z2 : decide (2147483647 < s) = false := decide_eq_false hz1
                clear HSt HBd HF2
                go_wp2
                go_roundw
                case rel => exact ⟨3 + 1, by omega, by go_num, HK2, HQ⟩
                case measure => simp [intOf]
          · have HQ := hideQ (HYes.out (HGl.out HF2.out))
            clear HSt HBd HF2 HGl HNo HYes
            go_wp2
            go_roundw
            case rel => exact ⟨j + 1, hlt, by go_num, HK2, HQ⟩
            case measure => simp [intOf]; omega
      · have HQ := hideQ (HNo.out (genB_key hk))
        clear HNo HYes
        by_cases hk1 : (k.size : Int) < 1
        · have hk3 : decide ((k.size : Int) < 1) = true := decide_eq_true hk1
          go_wp2_with fail
          go_ret
          exact ⟨by rw [HQ.out]; rfl, HK.out.trans KA.out (fun _ f => f.elim)⟩
        · have hk3 : decide ((k.size : Int) < 1) = false := decide_eq_false hk1
          have hk2 : (65 : Int) < (k.size : Int) := by omega
          have hk4 : decide ((65 : Int) < (k.size : Int)) = true := decide_eq_true hk2
          have hk5 : decide (65 < k.size) = true := decide_eq_true (by omega)
          go_wp2_with fail
          go_ret
          exact ⟨by rw [HQ.out]; rfl, HK.out.trans KA.out (fun _ f => f.elim)⟩
    · obtain rfl : j = nl := by omega
      have HQ : Hid (B = true) := hideQ (by rw [HB.out]; exact all_yes (fun i hi => HF.out i hi (by rw [HNL.out]; exact hi)))
      go_wp2
      go_ret
      exact ⟨by rw [HQ.out]; rfl, HK.out⟩
/-- The keys rise. -/
def Rises (l : List En) : Prop := ∀ i (h : i + 1 < l.length), klt (l[i]).k (l[i + 1]).k = true
theorem bl_total : ∀ (x y : List UInt8), (Op.bytesLess x y || x == y) = !Op.bytesLess y x
  | [], [] => rfl
  | [], b :: y => by simp [Op.bytesLess]
  | a :: x, [] => by simp [Op.bytesLess]
  | a :: x, b :: y => by
    have ih := bl_total x y
    rw [Op.bytesLess, Op.bytesLess]
    by_cases h : a = b
    · subst h
      simpa using ih
    · have h2 : ¬ b = a := fun e => h e.symm
      have hn : ¬ a.toNat = b.toNat := fun e => h (UInt8.toNat_inj.1 e)
      by_cases h3 : a < b
      · have h4 : ¬ b < a := by rw [UInt8.lt_iff_toNat_lt] at h3 ⊢; omega
        simp [h2, h3, h4]
      · have h4 : b < a := by rw [UInt8.lt_iff_toNat_lt] at h3 ⊢; omega
        simp [h, h3, h4]
theorem leq_strD (t : TypeId) (a b : ByteArray) : binOp .leq t (.string a) (.string b) = pure (.bool !(Op.bytesLess b.toList a.toList)) := by
  rw [← bl_total]
  simp [binOp, Op.stringOp]
set_option maxRecDepth 20000 in
set_option maxHeartbeats 8000000 in
theorem keysRise_any (l : List En) (a : Option Addr) (c : Nat) (w : World) (h : EsAt w a l) (hl : l.length ≤ 1099511627776) : Calls Tryd.prog 20 #[.slice a l.length c] w fun e w' => (∃ B, e = .returned (.bool B) ∧ (B = true ↔ Rises l)) ∧ Kept (fun _ => False) w w' := by
  have HE := hideQ h
  obtain ⟨nl, hnl⟩ : ∃ nl, nl = l.length := ⟨_, rfl⟩
  rw [← hnl] at hl ⊢
  have HNL := hideQ hnl
  clear h hnl
  go_enter Tryd.func20, Tryd.ntmps20
  go_wp2
  go_loopw [3] (fun v3 wr => ∃ (j : Nat), (j ≤ nl ∨ j = 1) ∧ 1 ≤ j ∧ v3 = .int .i64 j ∧ Hid (Kept (fun _ => False) w wr) ∧ Hid (∀ i (hi : i + 1 < l.length), i + 1 < j → klt (l[i]).k (l[i + 1]).k = true)) (fun v3 _ => nl - (intOf v3).toNat)
  case atStart => exact ⟨1, .inr rfl, by omega, rfl, Kept.refl _ _, hideQ (fun i _ hi => by omega)⟩
  case round =>
    obtain ⟨j, hj, hj1, rfl, HK, HF⟩ := hrel
    by_cases hlt : j < nl
    · have hjj : (j : Int) < (nl : Int) := by omega
      have hjl : j < l.length := by rw [← HNL.out]; exact hlt
      obtain ⟨m, rfl⟩ : ∃ m, j = m + 1 := ⟨j - 1, by omega⟩
      obtain ⟨b, off, rfl, hc⟩ := HE.out.kept HK.out (by intro e; rw [e] at hjl; simp at hjl)
      obtain ⟨x0, -⟩ := hc (m + 1) hjl
      obtain ⟨y0, -⟩ := hc m (by omega)
      have HNo : Hid (klt (l[m]).k (l[m + 1]).k = false → ¬ Rises l) := hideQ (fun h hr => by rw [hr m hjl] at h; cases h)
      have HYes : Hid (klt (l[m]).k (l[m + 1]).k = true → ∀ i (hi : i + 1 < l.length), i + 1 < m + 1 + 1 → klt (l[i]).k (l[i + 1]).k = true) := hideQ (fun h i hi h2 => by
        by_cases e : i = m
        · subst e; exact h
        · exact HF.out i hi (by omega))
      generalize (l[m]).k = k0 at *
      generalize (l[m + 1]).k = k1 at *
      have g1 := leq_strD 9 k1 k0
      clear hc HF hjl
      cases hk : klt k0 k1 with
      | true =>
        rw [show Op.bytesLess k0.toList k1.toList = true from hk] at g1
        have HQ := hideQ (HYes.out hk)
        clear HNo HYes hk
        go_wp2_with fail
        go_quiet (fail)
        go_wp2
        go_roundw
        case rel => exact ⟨m + 1 + 1, .inl hlt, by omega, by go_num, hideQ (HK.out.trans (Kept.drewN _ _) (fun _ f => f.elim)), HQ⟩
        case measure => simp [intOf]; omega
      | false =>
        rw [show Op.bytesLess k0.toList k1.toList = false from hk] at g1
        have HQ := hideQ (HNo.out hk)
        clear HNo HYes hk
        go_wp2_with fail
        go_quiet (fail)
        go_wp2
        go_ret
        exact ⟨⟨false, rfl, by simp [HQ.out]⟩, HK.out.trans (Kept.drewN _ _) (fun _ f => f.elim)⟩
    · have HQ : Hid (Rises l) := hideQ (fun i hi => HF.out i hi (by have := HNL.out; omega))
      go_wp2
      go_ret
      exact ⟨⟨true, rfl, by simp [HQ.out]⟩, HK.out⟩
end Go.Proofs.YtcanbhbhdgogoaaDoor
