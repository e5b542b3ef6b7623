import Derived.Test.YtcanbhbhdgogoaaDoorMrg4
namespace Go.Proofs.YtcanbhbhdgogoaaDoor
open Go.ChangeShapes Go.WideShapes Go.ChangeAt Go.RowKit

theorem drewN_more {w W : World} (h : ∃ q, W = w.drewN q) (n : Nat) : ∃ q, W.drewN n = w.drewN q := by
  obtain ⟨q, rfl⟩ := h
  exact ⟨q + n, by rw [World.drewN_drewN]⟩
set_option maxRecDepth 20000 in
set_option maxHeartbeats 4000000 in
theorem rshared_any (a b : ByteArray) (w : World) (ha : a.size ≤ 1099511627776) : Calls Tryd.prog 50 #[.string a, .string b] w fun e w' => e = .returned (.int .i64 (shr a.data.toList b.data.toList : Nat)) ∧ ∃ q, w' = w.drewN q := by
  have ga : ∀ n (h : n < a.size), a[n] = a.data.toList[n]'(by rw [bsz]; exact h) := fun n h => rfl
  have gb : ∀ n (h : n < b.size), b[n] = b.data.toList[n]'(by rw [bsz]; exact h) := fun n h => rfl
  have HA := hideQ ga
  have HB := hideQ gb
  have la := bsz a
  have lb := bsz b
  have HLA := hideQ la
  have HLB := hideQ lb
  clear ga gb la lb
  obtain ⟨S, hS⟩ : ∃ S, S = shr a.data.toList b.data.toList := ⟨_, rfl⟩
  rw [← hS]
  have HS := hideQ hS
  clear hS
  go_enter Tryd.func50, Tryd.ntmps50
  go_wp2
  go_loopw [5] (fun v5 wr => ∃ (n : Nat), n ≤ a.size ∧ v5 = .int .i64 n ∧ Hid (S = n + shr (a.data.toList.drop n) (b.data.toList.drop n)) ∧ Hid (∃ q, wr = w.drewN q)) (fun v5 _ => a.size - (intOf v5).toNat)
  case atStart => exact ⟨0, by omega, rfl, hideQ (by rw [HS.out]; simp), ⟨0, rfl⟩⟩
  case round =>
    obtain ⟨n, hn, rfl, HF, HK⟩ := hrel
    by_cases h1 : n < a.size
    · have d1 : decide ((n : Int) < (a.size : Int)) = true := decide_eq_true (by omega)
      have d1n : decide (n < a.size) = true := decide_eq_true h1
      by_cases h2 : n < b.size
      · have d2 : decide ((n : Int) < (b.size : Int)) = true := decide_eq_true (by omega)
        have d2n : decide (n < b.size) = true := decide_eq_true h2
        by_cases h3 : a[n] = b[n]
        · have HG : Hid (S = (n + 1) + shr (a.data.toList.drop (n + 1)) (b.data.toList.drop (n + 1))) := hideQ (by
            rw [HF.out, shr_go (by rw [HLA.out]; exact h1) (by rw [HLB.out]; exact h2) (by rw [← HA.out n h1, ← HB.out n h2]; exact h3)]
            omega)
          have d3 : (((a[n].toNat : Nat) : Int) == ((b[n].toNat : Nat) : Int)) = true := by rw [h3]; simp
          clear HF h3
          go_wp2_with fail
          go_quiet (fail)
          go_wp2
          go_roundw
          case rel => exact ⟨n + 1, by omega, by go_num, HG, hideQ (drewN_more HK.out _)⟩
          case measure => simp [intOf]; omega
        · have HG : Hid (S = n) := hideQ (by
            rw [HF.out, shr_end (by rw [HLA.out]; exact h1) (by rw [HLB.out]; exact h2) (by rw [← HA.out n h1, ← HB.out n h2]; exact h3)]
            rfl)
          have d3 : (((a[n].toNat : Nat) : Int) == ((b[n].toNat : Nat) : Int)) = false := by
            rw [beq_eq_false_iff_ne]
            intro e
            exact h3 (UInt8.toNat_inj.1 (by omega))
          clear HF h3
          go_wp2_with fail
          go_quiet (fail)
          go_wp2
          go_ret
          exact ⟨by rw [HG.out]; rfl, drewN_more HK.out _⟩
      · have d2 : decide ((n : Int) < (b.size : Int)) = false := decide_eq_false (by omega)
        have d2n : decide (n < b.size) = false := decide_eq_false h2
        have HG : Hid (S = n) := hideQ (by rw [HF.out, shr_endB (by rw [HLB.out]; exact h2)]; rfl)
        clear HF
        go_wp2_with fail
        go_quiet (fail)
        go_wp2
        go_ret
        exact ⟨by rw [HG.out]; rfl, drewN_more HK.out _⟩
    · have d1 : decide ((n : Int) < (a.size : Int)) = false := decide_eq_false (by omega)
      have d1n : decide (n < a.size) = false := decide_eq_false h1
      have HG : Hid (S = n) := hideQ (by rw [HF.out, shr_endA (by rw [HLA.out]; exact h1)]; rfl)
      clear HF
      go_wp2_with fail
      go_quiet (fail)
      go_wp2
      go_ret
      exact ⟨by rw [HG.out]; rfl, drewN_more HK.out _⟩
theorem rnumber_any (x : Int) (w : World) : Calls Tryd.prog 49 #[.int .i64 x] w fun e w' => e = .returned (.bool (nin x)) ∧ w' = w := by
  unfold nin
  by_cases h0 : 0 ≤ x
  · rw [decide_eq_true h0, Bool.true_and]
    by_cases h1 : x ≤ 2147483647
    · rw [decide_eq_true h1]
      have d0 : decide (0 ≤ x) = true := decide_eq_true h0
      have d1 : decide (x ≤ 2147483647) = true := decide_eq_true h1
      go_enter Tryd.func49, Tryd.ntmps49
      go_wp2
      go_ret
      exact ⟨rfl, rfl⟩
    · rw [decide_eq_false h1]
      have d0 : decide (0 ≤ x) = true := decide_eq_true h0
      have d1 : decide (x ≤ 2147483647) = false := decide_eq_false h1
      go_enter Tryd.func49, Tryd.ntmps49
      go_wp2
      go_ret
      exact ⟨rfl, rfl⟩
  · rw [decide_eq_false h0, Bool.false_and]
    have d0 : decide (0 ≤ x) = false := decide_eq_false h0
    go_enter Tryd.func49, Tryd.ntmps49
    go_wp2
    go_ret
    exact ⟨rfl, rfl⟩
/-- A list that is grown: what may have changed. -/
structure RStep (w w' : World) (v v' : Value) : Prop where
  kept : Kept (fun k => v.ownBlock = some k) w w'
  new : ∀ k, v'.ownBlock = some k → v.ownBlock = some k ∨ w.heap.size ≤ k
theorem RStep.refl (w : World) (v : Value) : RStep w w v v := ⟨Kept.refl _ _, fun _ h => .inl h⟩
theorem RStep.trans {a b c : World} {v v1 v2 : Value} (h : RStep a b v v1) (k : RStep b c v1 v2) : RStep a c v v2 :=
  ⟨h.kept.trans k.kept (fun i hi => h.new i hi), fun i hi => (k.new i hi).elim (fun x => h.new i x) (fun x => .inr (Nat.le_trans h.kept.size x))⟩
theorem RStep.later {a b c : World} {v v1 : Value} (h : RStep a b v v1) (k : Kept (fun _ => False) b c) : RStep a c v v1 :=
  ⟨h.kept.trans k (fun _ f => f.elim), h.new⟩
set_option maxRecDepth 20000 in
set_option maxHeartbeats 4000000 in
theorem ruvD_any (base : Nat) (v : Value) (xs : List Int) (n : Nat) (w : World) (ho : w.ownsRow base 5 1 v xs.length (bs xs)) (hb : base ≤ w.heap.size) (hn : n ≤ 4611686018427387904) (hx : xs.length ≤ 70368744177664) :
    Calls Tryd.prog 23 #[v, .int .i64 n] w fun e w' => ∃ v', e = .returned v' ∧ w'.ownsRow base 5 1 v' (xs ++ uvb n).length (bs (xs ++ uvb n)) ∧ RStep w w' v v' := by
  obtain ⟨i0, hi0, hz0, hz1, hz2⟩ := info_parts Tryd.infoB
  have HO := hideQ ho
  clear ho
  go_enter Tryd.func23, Tryd.ntmps23
  go_wp2_with fail
  have HLn : Hid (∀ (zs : List Int) (m : Nat), zs ++ uvb m = xs ++ uvb n → zs.length ≤ xs.length + 10) := hideQ (fun zs m e => by
    have h8 := congrArg List.length e
    rw [List.length_append, List.length_append] at h8
    have h9 := uvb_le10 n (by omega)
    omega)
  go_loopw [0, 1] (fun v0 v1 wr => ∃ (m : Nat) (va : Value) (zs : List Int), v1 = .int .i64 m ∧ v0 = va ∧ m ≤ 4611686018427387904 ∧ Hid (wr.ownsRow base 5 1 va zs.length (bs zs)) ∧ Hid (zs ++ uvb m = xs ++ uvb n) ∧ Hid (RStep w wr v va)) (fun _ v1 _ => (intOf v1).toNat)
  case atStart => exact ⟨n, v, xs, rfl, rfl, hn, HO, hideQ rfl, hideQ (RStep.refl _ _)⟩
  case round =>
    obtain ⟨m, va, zs, rfl, rfl, hm, HOr, HF, HS⟩ := hrel
    have hzl := HLn.out zs m HF.out
    have hbr : base ≤ wr.heap.size := Nat.le_trans hb HS.out.kept.size
    by_cases h128 : m < 128
    · have d1 : ¬ (128 : Int) ≤ (m : Int) := by omega
      have d2 : decide ((128 : Int) ≤ (m : Int)) = false := decide_eq_false d1
      have d3 : decide (128 ≤ m) = false := decide_eq_false (by omega)
      have w1 : IntKind.u8.wrap (m : Int) = (m : Int) := by rw [IntKind.wrap_u8]; omega
      rw [uvb_small h128] at HF
      go_wp2_with (at_builtin; refine Stp.go ?_)
      refine ⟨?_⟩
      refine wpList_pushS (base := base) rfl (.tmp 16) (.tmp 19) 25 rfl 5 i0 _ 1 1 Tryd.underlying25 hi0 hz0 hz1 hz2 rfl (by decide) _ zs.length (bs zs) [.int .u8 (m : Int)] rfl HOr hbr rfl rfl ?one (hideQ (by omega)) (hideQ (by unfold maxLen; omega)) ?_
      case one => intro u hu; simp at hu; subst hu; rfl
      intro a7 c7 W7 HO7 HK7 HN7
      go_wp2
      go_ret
      refine ⟨_, rfl, ?_, HS.out.trans ⟨HK7.out, HN7.out⟩⟩
      rw [← HF.out, List.length_append, bs_append]
      exact HO7.out
    · obtain ⟨r, hr⟩ : ∃ r, r = m % 128 := ⟨_, rfl⟩
      obtain ⟨q, hq⟩ : ∃ q, q = m / 128 := ⟨_, rfl⟩
      have hr128 : r < 128 := by omega
      have hqm : q < m := by omega
      have e1 : (m : Int).tmod 128 = (r : Int) := by rw [Int.tmod_eq_emod_of_nonneg (by omega)]; omega
      have e2 : (m : Int).tdiv 128 = (q : Int) := by rw [Int.tdiv_eq_ediv_of_nonneg (by omega)]; omega
      have e3 : (m : Int) % 128 = (r : Int) := by omega
      have e4 : (m : Int) / 128 = (q : Int) := by omega
      have HF2 : Hid ((zs ++ [((r : Int) + 128)]) ++ uvb q = xs ++ uvb n) := hideQ (by
        rw [← HF.out, uvb_big h128, e3, ← hq, List.append_assoc, Int.add_comm]
        rfl)
      have d1 : (128 : Int) ≤ (m : Int) := by omega
      have d2 : decide ((128 : Int) ≤ (m : Int)) = true := decide_eq_true d1
      have d3 : decide (128 ≤ m) = true := decide_eq_true (by omega)
      have w1 : IntKind.u8.wrap ((r : Int) + 128) = (r : Int) + 128 := by rw [IntKind.wrap_u8]; omega
      clear HF hr hq
      go_wp2_with (at_builtin; refine Stp.go ?_)
      refine ⟨?_⟩
      refine wpList_pushS (base := base) rfl (.tmp 7) (.tmp 12) 25 rfl 5 i0 _ 1 1 Tryd.underlying25 hi0 hz0 hz1 hz2 rfl (by decide) _ zs.length (bs zs) [.int .u8 ((r : Int) + 128)] rfl HOr hbr rfl rfl ?one (hideQ (by omega)) (hideQ (by unfold maxLen; omega)) ?_
      case one => intro u hu; simp at hu; subst hu; rfl
      intro a7 c7 W7 HO7 HK7 HN7
      go_wp2
      go_roundw
      case rel => exact ⟨q, _, zs ++ [((r : Int) + 128)], rfl, rfl, by omega, hideQ (by rw [List.length_append, bs_append]; exact HO7.out), HF2, hideQ (HS.out.trans ⟨HK7.out, HN7.out⟩)⟩
      case measure => simp [intOf]; omega
end Go.Proofs.YtcanbhbhdgogoaaDoor
namespace Go.Proofs.YtcanbhbhdgogoaaDoor
open Go.ChangeShapes Go.WideShapes Go.ChangeAt Go.RowKit

theorem genB_eq (k : ByteArray) (d t p s : Int) : genB ⟨k, d, t, p, s⟩ = ((decide (1 ≤ k.size) && decide (k.size ≤ 65)) && ((nin d && nin t) && (nin p && nin s))) := rfl
/-- What Check tells. -/
def ckPost (l : List En) (e : Ending) : Prop := (l.all genB = false ∧ e = .returned (.int .i64 3)) ∨ (l.all genB = true ∧ ¬ Rises l ∧ e = .returned (.int .i64 4)) ∨ (l.all genB = true ∧ Rises l ∧ e = .returned (.int .i64 0))
theorem ck3 {l : List En} {e : Ending} (h : l.all genB = false) (he : e = .returned (.int .i64 3)) : ckPost l e := .inl ⟨h, he⟩
theorem ck4 {l : List En} {e : Ending} (h : l.all genB = true) (h2 : ¬ Rises l) (he : e = .returned (.int .i64 4)) : ckPost l e := .inr (.inl ⟨h, h2, he⟩)
theorem ck0 {l : List En} {e : Ending} (h : l.all genB = true) (h2 : Rises l) (he : e = .returned (.int .i64 0)) : ckPost l e := .inr (.inr ⟨h, h2, he⟩)
set_option maxRecDepth 20000 in
set_option maxHeartbeats 8000000 in
theorem rcheck_any (l : List En) (a : Option Addr) (c : Nat) (w : World) (h : EsAt w a l) (hl : l.length ≤ 1073741824) : Calls Tryd.prog 22 #[.slice a l.length c] w fun e w' => ckPost l e ∧ Kept (fun _ => False) w w' := by
  have HE := hideQ h
  obtain ⟨nl, hnl⟩ : ∃ nl, nl = l.length := ⟨_, rfl⟩
  rw [← hnl] at hl ⊢
  have HNL := hideQ hnl
  clear h hnl
  go_enter Tryd.func22, Tryd.ntmps22
  go_wp2_with fail
  go_loopw [3] (fun v3 wr => ∃ (j : Nat), j ≤ nl ∧ v3 = .int .i64 j ∧ Hid (Kept (fun _ => False) w wr) ∧ Hid (∀ i (hi : i < l.length), i < j → genB l[i] = true)) (fun v3 _ => nl - (intOf v3).toNat)
  case atStart => exact ⟨0, by omega, rfl, Kept.refl _ _, hideQ (fun i _ hi => by omega)⟩
  case round =>
    obtain ⟨j, hj, rfl, HK, HF⟩ := hrel
    by_cases hlt : j < nl
    · have hjj : (j : Int) < (nl : Int) := by omega
      have hjl : j < l.length := by rw [← HNL.out]; exact hlt
      obtain ⟨b, off, rfl, hc⟩ := HE.out.kept HK.out (by intro e; rw [e] at hjl; simp at hjl)
      obtain ⟨x0, x1, x2, x3, x4⟩ := hc j hjl
      have HNo : Hid (genB l[j] = false → l.all genB = false) := hideQ (fun h => all_no hjl h)
      have HYes : Hid (genB l[j] = true → ∀ i (hi : i < l.length), i < j + 1 → genB l[i] = true) := hideQ (fun h i hi h2 => by
        by_cases e : i = j
        · subst e; exact h
        · exact HF.out i hi (by omega))
      generalize l[j] = en at *
      obtain ⟨k, d, t, p, s⟩ := en
      simp only at x0 x1 x2 x3 x4
      rw [genB_eq] at HNo HYes
      clear hc HF hjl
      have KA := hideQ (HK.out.trans (Kept.alloc wr (.cells #[.string k, .int .i64 d, .int .i64 t, .int .i64 p, .int .i64 s] 31)) (fun _ f => f.elim))
      have CD := fun w => hideQ (rnumber_any d w)
      have CT := fun w => hideQ (rnumber_any t w)
      have CP := fun w => hideQ (rnumber_any p w)
      have CS := fun w => hideQ (rnumber_any s w)
      generalize nin d = B1 at *
      generalize nin t = B2 at *
      generalize nin p = B3 at *
      generalize nin s = B4 at *
      by_cases hk1 : (k.size : Int) < 1
      · have hk3 : decide ((k.size : Int) < 1) = true := decide_eq_true hk1
        have HQ := hideQ (HNo.out (by rw [decide_eq_false (by omega : ¬ 1 ≤ k.size)]; rfl))
        clear HNo HYes CD CT CP CS
        go_wp2_with fail
        go_ret
        exact ⟨ck3 HQ.out rfl, KA.out⟩
      · have hk3 : decide ((k.size : Int) < 1) = false := decide_eq_false hk1
        have e1 : decide (1 ≤ k.size) = true := decide_eq_true (by omega)
        by_cases hk2 : (65 : Int) < (k.size : Int)
        · have hk4 : decide ((65 : Int) < (k.size : Int)) = true := decide_eq_true hk2
          have hk5 : decide (65 < k.size) = true := decide_eq_true (by omega)
          have HQ := hideQ (HNo.out (by rw [decide_eq_false (by omega : ¬ k.size ≤ 65), Bool.and_false]; rfl))
          clear HNo HYes CD CT CP CS e1
          go_wp2_with fail
          go_ret
          exact ⟨ck3 HQ.out rfl, KA.out⟩
        · have hk4 : decide ((65 : Int) < (k.size : Int)) = false := decide_eq_false hk2
          have hk5 : decide (65 < k.size) = false := decide_eq_false (by omega)
          have e2 : decide (k.size ≤ 65) = true := decide_eq_true (by omega)
          rw [e1, e2] at HNo HYes
          clear e1 e2
          cases B1 with
          | false =>
            have HQ := hideQ (HNo.out (by simp))
            clear HNo HYes
            go_wp2_with (first
              | (go_at_call 49; refine (CD _).out.mono ?_; rintro e W ⟨rfl, eW⟩; subst eW; clear CD))
            go_ret
            exact ⟨ck3 HQ.out rfl, KA.out⟩
          | true =>
            cases B2 with
            | false =>
              have HQ := hideQ (HNo.out (by simp))
              clear HNo HYes
              go_wp2_with (first
                | (go_at_call 49; refine (CD _).out.mono ?_; rintro e W ⟨rfl, eW⟩; subst eW; clear CD)
                | (go_at_call 49; refine (CT _).out.mono ?_; rintro e W ⟨rfl, eW⟩; subst eW; clear CT))
              go_ret
              exact ⟨ck3 HQ.out rfl, KA.out⟩
            | true =>
              cases B3 with
              | false =>
                have HQ := hideQ (HNo.out (by simp))
                clear HNo HYes
                go_wp2_with (first
                  | (go_at_call 49; refine (CD _).out.mono ?_; rintro e W ⟨rfl, eW⟩; subst eW; clear CD)
                  | (go_at_call 49; refine (CT _).out.mono ?_; rintro e W ⟨rfl, eW⟩; subst eW; clear CT)
                  | (go_at_call 49; refine (CP _).out.mono ?_; rintro e W ⟨rfl, eW⟩; subst eW; clear CP))
                go_ret
                exact ⟨ck3 HQ.out rfl, KA.out⟩
              | true =>
                cases B4 with
                | false =>
                  have HQ := hideQ (HNo.out (by simp))
                  clear HNo HYes
                  go_wp2_with (first
                    | (go_at_call 49; refine (CD _).out.mono ?_; rintro e W ⟨rfl, eW⟩; subst eW; clear CD)
                    | (go_at_call 49; refine (CT _).out.mono ?_; rintro e W ⟨rfl, eW⟩; subst eW; clear CT)
                    | (go_at_call 49; refine (CP _).out.mono ?_; rintro e W ⟨rfl, eW⟩; subst eW; clear CP)
                    | (go_at_call 49; refine (CS _).out.mono ?_; rintro e W ⟨rfl, eW⟩; subst eW; clear CS))
                  go_ret
                  exact ⟨ck3 HQ.out rfl, KA.out⟩
                | true =>
                  have HQ := hideQ (HYes.out rfl)
                  clear HYes HNo
                  go_wp2_with (first
                    | (go_at_call 49; refine (CD _).out.mono ?_; rintro e W ⟨rfl, eW⟩; subst eW; clear CD)
                    | (go_at_call 49; refine (CT _).out.mono ?_; rintro e W ⟨rfl, eW⟩; subst eW; clear CT)
                    | (go_at_call 49; refine (CP _).out.mono ?_; rintro e W ⟨rfl, eW⟩; subst eW; clear CP)
                    | (go_at_call 49; refine (CS _).out.mono ?_; rintro e W ⟨rfl, eW⟩; subst eW; clear CS))
                  go_roundw
                  case rel => exact ⟨j + 1, hlt, by go_num, KA, HQ⟩
                  case measure => simp [intOf]; omega
    · obtain rfl : j = nl := by omega
      have HAll : Hid (l.all genB = true) := hideQ (all_yes (fun i hi => HF.out i hi (by rw [HNL.out]; exact hi)))
      clear HF
      go_wp2_with fail
      go_loopw [5] (fun v5 wr => ∃ (m : Nat), (m ≤ j ∨ m = 1) ∧ 1 ≤ m ∧ v5 = .int .i64 m ∧ Hid (Kept (fun _ => False) w wr) ∧ Hid (∀ i (hi : i + 1 < l.length), i + 1 < m → klt (l[i]).k (l[i + 1]).k = true)) (fun v5 _ => j - (intOf v5).toNat)
      case atStart => exact ⟨1, .inr rfl, by omega, rfl, HK, hideQ (fun i _ hi => by omega)⟩
      case round =>
        obtain ⟨m, hm, hm1, rfl, HK2, HF2⟩ := hrel
        clear HK
        by_cases hlt2 : m < j
        · have hjj : (m : Int) < (j : Int) := by omega
          have hjl : m < l.length := by rw [← HNL.out]; exact hlt2
          obtain ⟨m, rfl⟩ : ∃ m', m = m' + 1 := ⟨m - 1, by omega⟩
          obtain ⟨b, off, rfl, hc⟩ := HE.out.kept HK2.out (by intro e; rw [e] at hjl; simp at hjl)
          obtain ⟨x0, -⟩ := hc (m + 1) hjl
          obtain ⟨y0, -⟩ := hc m (by omega)
          have HNo : Hid (klt (l[m]).k (l[m + 1]).k = false → ¬ Rises l) := hideQ (fun h hr => by rw [hr m hjl] at h; cases h)
          have HYes : Hid (klt (l[m]).k (l[m + 1]).k = true → ∀ i (hi : i + 1 < l.length), i + 1 < m + 1 + 1 → klt (l[i]).k (l[i + 1]).k = true) := hideQ (fun h i hi h2 => by
            by_cases e : i = m
            · subst e; exact h
            · exact HF2.out i hi (by omega))
          generalize (l[m]).k = k0 at *
          generalize (l[m + 1]).k = k1 at *
          have g1 : binOp .geq 9 (.string k0) (.string k1) = pure (.bool !(Op.bytesLess k0.toList k1.toList)) := by simp [binOp, Op.stringOp]
          clear hc HF2 hjl
          cases hk : klt k0 k1 with
          | true =>
            rw [show Op.bytesLess k0.toList k1.toList = true from hk] at g1
            have HQ := hideQ (HYes.out hk)
            clear HNo HYes hk
            go_wp2_with fail
            go_quiet (fail)
            go_wp2
            go_roundw
            case rel => exact ⟨m + 1 + 1, .inl hlt2, by omega, by go_num, hideQ (HK2.out.trans (Kept.drewN _ _) (fun _ f => f.elim)), HQ⟩
            case measure => simp [intOf]; omega
          | false =>
            rw [show Op.bytesLess k0.toList k1.toList = false from hk] at g1
            have HQ := hideQ (HNo.out hk)
            clear HNo HYes hk
            go_wp2_with fail
            go_quiet (fail)
            go_wp2
            go_ret
            exact ⟨ck4 HAll.out HQ.out rfl, HK2.out.trans (Kept.drewN _ _) (fun _ f => f.elim)⟩
        · have HQ : Hid (Rises l) := hideQ (fun i hi => HF2.out i hi (by have := HNL.out; omega))
          go_wp2
          go_ret
          exact ⟨ck0 HAll.out HQ.out rfl, HK2.out⟩
end Go.Proofs.YtcanbhbhdgogoaaDoor
namespace Go.Proofs.YtcanbhbhdgogoaaDoor
open Go.ChangeShapes Go.WideShapes Go.ChangeAt Go.RowKit

theorem een_first (b : ByteArray) (k : ByteArray) (d t p s : Nat) (sh : Nat) (hsh : sh = shr b.data.toList k.data.toList) : een b ⟨k, d, t, p, s⟩ = uvb sh ++ (uvb (k.size - sh) ++ ((sb k).drop sh ++ (uvb d ++ (uvb t ++ (uvb p ++ uvb s))))) := by
  rw [een, ← hsh]
  simp [List.append_assoc]
/-- The entries' list lies below what is grown. -/
theorem EsAt.step {w w' : World} {a : Option Addr} {l : List En} {v v' : Value} {base : Nat} (h : EsAt w a l) (s : RStep w w' v v') (hv : ∀ k, v.ownBlock = some k → base ≤ k) (ha : ∀ b off, a = some ⟨b, off, none⟩ → l ≠ [] → b < base) : EsAt w' a l := by
  intro hne
  obtain ⟨b, off, e, hc⟩ := h hne
  have hb := ha b off e hne
  have key : ¬ v.ownBlock = some b := fun f => by have := hv b f; omega
  refine ⟨b, off, e, fun j hj => ?_⟩
  obtain ⟨x0, x1, x2, x3, x4⟩ := hc j hj
  exact ⟨s.kept.cell x0 key, s.kept.cell x1 key, s.kept.cell x2 key, s.kept.cell x3 key, s.kept.cell x4 key⟩
end Go.Proofs.YtcanbhbhdgogoaaDoor
