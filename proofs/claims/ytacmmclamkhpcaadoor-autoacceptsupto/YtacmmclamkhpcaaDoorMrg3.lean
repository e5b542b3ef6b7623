import Derived.Test.YtacmmclamkhpcaaDoorFzf
import Derived.Test.YtacmmclamkhpcaaDoorAnyz
namespace Go.Proofs.YtacmmclamkhpcaaDoor
open Go.ChangeShapes Go.WideShapes Go.ChangeAt Go.RowKit

theorem wpOp_inF {P : Program} {ops : Array Oper} {Q : Exit → Act → World → Prop} {i : Nat} {o : Oper} {K : Act → World → Prop} {a : Act} {w : World} (hi : ops[i]? = some o) (hgd : o.guard = none) (h : o.wp P a w K Q) : wpOp P ops Q i K a w := by
  have hw : Region.wanted o (yielded ops a.tmps) = true := by simp [Region.wanted, hgd]
  unfold wpOp
  rw [hi]
  simp only
  rw [if_pos hw]
  exact .inl h
/-- 'append(s, x)' of one number, as one operation. -/
theorem wp_pushI {w0 W : World} {o : Oper} {act : Act} {K : Act → World → Prop} {Q : Exit → Act → World → Prop} (s x : Operand)
    (ho : o.op = .call { callee := .builtin .append, args := #[s, x], argTypes := #[53, 53] }) (v : Value) (n : Nat) (L : List Int) (y : Int) (hs : act.eval s = v) (hG : Gro w0 W 3 1 v n (iv L)) (b : Nat) (hx : act.eval x = .slice (some ⟨b, 0, none⟩) 1 1) (hc : W.cell? ⟨b, 0, none⟩ = some (.int .i64 y)) (hn : n ≤ 1099511627776)
    (h : ∀ a' c' W', Hid (Gro w0 W' 3 1 (.slice a' (n + 1) c') (n + 1) (iv (L ++ [y]))) → K (act.put o.dst (.slice a' (n + 1) c')) W') : o.wp Tryd.prog act W K Q := by
  obtain ⟨i0, hi, hz0, hz1, hz2⟩ := info_partsA Tryd.infoI
  rw [iv_app] at h
  refine wp_append_own W s x 53 ho w0.heap.size 3 i0 (.int .i64 0) 1 8 Tryd.underlying53 hi hz0 hz1 hz2 rfl (by decide) v n (iv L) hs hG.own ⟨b, 0, none⟩ 1 1 [.int .i64 y] hx rfl (fun j u hu => ?_) (by intro u hu; simp at hu; subst hu; rfl) (by unfold maxLen; omega) (by omega) hG.kept.size ?_
  · match j, hu with
    | 0, hu => simp at hu; subst hu; rw [Go.WideShapes.add_plain]; exact hc
  · intro v' W' ho2 hg2 _
    have q : Gro w0 W' 3 1 v' (n + 1) (iv L ++ [.int .i64 y]) := ⟨ho2, hG.kept.trans (Kept.grown hg2) (fun i hi => .inr (hG.own.lt i hi).1)⟩
    obtain ⟨a', c', rfl⟩ := q.shape
    exact h a' c' W' q
theorem Vd_top (a p : List UInt8) (i : Nat) : Vd a p i ≤ i + p.length := by
  unfold Vd
  have := lev_high (a.take i).reverse p
  rw [List.length_reverse, List.length_take] at this
  omega
theorem chg_ne {x y : Nat} (h : x ≠ y) : chg x y = 1 := by unfold chg; rw [if_neg h]
theorem min3N (x y z v : Nat) (h : v = min (min x y) z) : ((v : Nat) : Int) = if (z : Int) < (if (y : Int) < (x : Int) then (y : Int) else (x : Int)) then (z : Int) else (if (y : Int) < (x : Int) then (y : Int) else (x : Int)) := by
  rw [h]
  split <;> split <;> omega
/-- The row of all i. -/
def rwV (a p : List UInt8) (k : Nat) : List Nat := (List.range k).map (Vd a p)
theorem rwV_len (a p : List UInt8) (k : Nat) : (nz (rwV a p k)).length = k := by unfold rwV; rw [nz_len]; simp
theorem rwV_at {a p : List UInt8} {k i : Nat} (h : i < (nz (rwV a p k)).length) : (nz (rwV a p k))[i] = ((Vd a p i : Nat) : Int) := by unfold nz rwV; simp
theorem rwV_succ (a p : List UInt8) (k : Nat) : nz (rwV a p (k + 1)) = nz (rwV a p k) ++ [((Vd a p k : Nat) : Int)] := by unfold nz rwV; rw [List.range_succ]; simp
theorem rwV_nil (a : List UInt8) : nz (List.range (a.length + 1)) = nz (rwV a [] (a.length + 1)) := by
  unfold nz rwV
  rw [List.map_map]
  apply List.map_congr_left
  intro i hi
  have := List.mem_range.1 hi
  show ((i : Nat) : Int) = ((Vd a [] i : Nat) : Int)
  rw [Vd_nil (by omega)]
theorem gro_ns {w0 W : World} {a : Option Addr} {n c : Nat} {L : List Int} (h : Gro w0 W 3 1 (.slice a n c) n (iv L)) (hn : n = L.length) : NsAt W a L ∧ n ≤ c := by
  constructor
  · intro hne
    obtain ⟨g, rfl, _, hc⟩ := h.cell (by rw [hn]; exact List.length_pos_iff.2 hne)
    exact ⟨g, 0, rfl, fun j hj => by rw [Nat.zero_add]; exact hc j _ (iv_at hj)⟩
  · rcases h.own.2 with ⟨e1, e2⟩ | ⟨g', cap, cur, e1, _, _, hn, _⟩
    · simp only [Value.slice.injEq] at e1; omega
    · simp only [Value.slice.injEq] at e1; omega
set_option maxRecDepth 20000 in
set_option maxHeartbeats 8000000 in
theorem redits_any (a b : List UInt8) (w : World) (ha : a.length ≤ 1099511000000) (hb : b.length ≤ 1099511000000) : Calls Tryd.prog 26 #[.string (bq a), .string (bq b)] w fun e w' => StK w w' (nz (rwV a b.reverse (a.length + 1))) e := by
  obtain ⟨Z, hZ⟩ : ∃ Z, Z = nz (rwV a b.reverse (a.length + 1)) := ⟨_, rfl⟩
  rw [← hZ]
  have HZ := hideG hZ
  clear hZ
  obtain ⟨sA, hsA⟩ : ∃ s, s = bq a := ⟨_, rfl⟩
  obtain ⟨sB, hsB⟩ : ∃ s, s = bq b := ⟨_, rfl⟩
  have zA : sA.size = a.length := by rw [hsA]; exact bq_size a
  have zB : sB.size = b.length := by rw [hsB]; exact bq_size b
  have HXA : Hid (∀ k (h : k < a.length) (h2 : k < sA.size), sA[k] = a[k]) := hideG (fun k h h2 => by subst hsA; rfl)
  have HXB : Hid (∀ k (h : k < b.length) (h2 : k < sB.size), sB[k] = b[k]) := hideG (fun k h h2 => by subst hsB; rfl)
  rw [← hsA, ← hsB]
  obtain ⟨n, hn⟩ : ∃ n, sA.size = n := ⟨_, rfl⟩
  obtain ⟨m, hm⟩ : ∃ m, sB.size = m := ⟨_, rfl⟩
  have HNA : Hid (n = a.length) := hideG (by omega)
  have HNB : Hid (m = b.length) := hideG (by omega)
  have hnb : n ≤ 1099511000000 := by omega
  have hmb : m ≤ 1099511000000 := by omega
  have HG0 := hideG (gro_empty w w 3 1 (Kept.refl _ _))
  clear hsA hsB zA zB ha hb
  go_enter Tryd.func26, Tryd.ntmps26
  go_wp2
  go_loopw [5, 6] (fun v kk wr => ∃ (k : Nat) (la : Option Addr) (lc : Nat), k ≤ n + 1 ∧ kk = .int .i64 k ∧ v = .slice la k lc ∧ Hid (Gro w wr 3 1 (.slice la k lc) k (iv (nz (List.range k))))) (fun _ kk _ => n + 1 - (intOf kk).toNat)
  case atStart => exact ⟨0, _, _, by omega, rfl, rfl, HG0⟩
  case round =>
    obtain ⟨k, la, lc, hk, rfl, rfl, HG⟩ := hrel
    clear HG0
    by_cases hlt : k < n + 1
    · have i1 : (k : Int) ≤ (n : Int) := by omega
      have HP : Hid (nz (List.range k) ++ [(k : Int)] = nz (List.range (k + 1))) := hideG (by rw [List.range_succ]; unfold nz; simp)
      go_wp2_with (at_builtin; refine wpList_pushI rfl _ _ rfl _ k (nz (List.range k)) (k : Int) rfl HG _ (by first | rfl | simp) rfl (by omega) ?_; clear HG; intro a1 c1 W1 G1; rw [HP.out] at G1)
      go_roundw
      case rel => exact ⟨k + 1, a1, c1, by omega, by go_num, rfl, G1⟩
      case measure => simp [intOf]; omega
    · have hkn : k = n + 1 := by omega
      have i1 : ¬ ((k : Int) ≤ (n : Int)) := by omega
      have HLs : Hid (NsAt wr la (nz (rwV a [] (n + 1))) ∧ n + 1 ≤ lc ∧ Kept (fun _ => False) w wr) := hideG (by
        subst hkn
        have h1 := gro_ns HG.out (by rw [nz_len, List.length_range])
        refine ⟨?_, h1.2, HG.out.kept⟩
        rw [HNA.out, ← rwV_nil, ← HNA.out]
        exact h1.1)
      subst hkn
      clear HG
      go_wp2
      go_loopw [5, 7] (fun v jj wr => ∃ (k : Nat) (la : Option Addr) (lc : Nat), k ≤ m ∧ jj = .int .i64 ((k : Int) + 1) ∧ v = .slice la (n + 1) lc ∧ Hid (NsAt wr la (nz (rwV a (b.take k).reverse (n + 1))) ∧ n + 1 ≤ lc ∧ Kept (fun _ => False) w wr)) (fun _ jj _ => m + 1 - (intOf jj).toNat)
      case atStart => exact ⟨0, la, lc, by omega, rfl, rfl, HLs⟩
      case round =>
        obtain ⟨k, la, lc, hk, rfl, rfl, HL⟩ := hrel
        clear HLs
        obtain ⟨W0, rfl⟩ : ∃ W0, W0 = wr := ⟨_, rfl⟩
        by_cases hkm : k < m
        · have i2 : (k : Int) + 1 ≤ (m : Int) := by omega
          have hkb : k < b.length := by rw [← HNB.out]; exact hkm
          have hks : k < sB.size := by rw [hm]; exact hkm
          have xb := HXB.out k hkb hks
          have HTk : Hid ((b.take (k + 1)).reverse = b[k] :: (b.take k).reverse) := hideG (take_rev hkb)
          obtain ⟨cb, hcb⟩ : ∃ cb, cb = b[k] := ⟨_, rfl⟩
          rw [← hcb] at xb HTk
          obtain ⟨yb, hyb⟩ : ∃ y, y = cb.toNat := ⟨_, rfl⟩
          have xb2 : sB[k].toNat = yb := by rw [xb, hyb]
          have HYB := hideG hyb
          obtain ⟨pr, hpr⟩ : ∃ p, p = (b.take k).reverse := ⟨_, rfl⟩
          rw [← hpr] at HL HTk
          have HPl : Hid (pr.length = k) := hideG (by rw [hpr, List.length_reverse, List.length_take]; omega)
          have HV0 : Hid (((k : Int) + 1) = ((Vd a (cb :: pr) 0 : Nat) : Int)) := hideG (by
            rw [Vd_zero, List.length_cons, hpr, List.length_reverse, List.length_take]
            omega)
          have HG1 : Hid (Gro W0 (W0.alloc (.cells #[.int .i64 ((k : Int) + 1)] 3)) 3 1 (.slice (some ⟨W0.heap.size, 0, none⟩) 1 1) 1 (iv (nz (rwV a (cb :: pr) 1)))) := hideG (by
            have e : nz (rwV a (cb :: pr) 1) = [(k : Int) + 1] := by
              rw [HV0.out]
              unfold nz rwV
              simp
            rw [e]
            exact gro_one W0 _)
          obtain ⟨lb, lo, rfl, hlc⟩ := HL.out.1 (by intro e; have := congrArg List.length e; rw [rwV_len] at this; simp at this)
          have HLc : Hid (∀ V i, i ≤ n → Kept (fun _ => False) W0 V → V.cell? ⟨lb, lo + i, none⟩ = some (.int .i64 ((Vd a pr i : Nat) : Int))) := hideG (fun V i hi kV => by
            have h := hlc i (by rw [rwV_len]; omega)
            rw [rwV_at] at h
            exact kV.cell h (fun f => f))
          have HLk : Hid (n + 1 ≤ lc ∧ Kept (fun _ => False) w W0) := hideG ⟨HL.out.2.1, HL.out.2.2⟩
          have hlc1 : n + 1 ≤ lc := HL.out.2.1
          clear hcb xb hyb hpr HL hlc HV0
          go_wp2
          go_loopw [8, 9] (fun v ii wq => ∃ (q t : Nat) (na : Option Addr) (nc : Nat), q ≤ n ∧ t = q + 1 ∧ ii = .int .i64 ((q : Int) + 1) ∧ v = .slice na t nc ∧ Hid (Gro W0 wq 3 1 (.slice na t nc) t (iv (nz (rwV a (cb :: pr) (q + 1)))))) (fun _ ii _ => n + 1 - (intOf ii).toNat)
          case atStart => exact ⟨0, 1, _, _, by omega, rfl, rfl, rfl, HG1⟩
          case round =>
            obtain ⟨q, t, na, nc, hq, ht, rfl, rfl, HG⟩ := hrel
            clear HG1
            by_cases hqn : q < n
            · have hqa : q < a.length := by rw [← HNA.out]; exact hqn
              have hqs : q < sA.size := by rw [hn]; exact hqn
              have xa := HXA.out q hqa hqs
              obtain ⟨ya, hya⟩ : ∃ y, y = a[q].toNat := ⟨_, rfl⟩
              have xa2 : sA[q].toNat = ya := by rw [xa, hya]
              have hVs := Vd_succ (p := pr) (c := cb) hqa
              rw [← hya, ← HYB.out] at hVs
              have HVs := hideG hVs
              have y0 := HLc.out wr q (by omega) HG.out.kept
              have y1 := HLc.out wr (q + 1) (by omega) HG.out.kept
              obtain ⟨ng, rfl, hng, hnc⟩ := HG.out.cell (by omega)
              have y2 := hnc q (.int .i64 ((Vd a (cb :: pr) q : Nat) : Int)) (by rw [iv_at (by rw [rwV_len]; omega), rwV_at])
              have HSu := hideG (rwV_succ a (cb :: pr) (q + 1))
              have hv0 : Vd a pr q ≤ 2199022000000 := Nat.le_trans (Vd_top a pr q) (by rw [HPl.out]; omega)
              have hv1 : Vd a pr (q + 1) ≤ 2199022000000 := Nat.le_trans (Vd_top a pr (q + 1)) (by rw [HPl.out]; omega)
              have hv2 : Vd a (cb :: pr) q ≤ 2199022000001 := Nat.le_trans (Vd_top a (cb :: pr) q) (by rw [List.length_cons, HPl.out]; omega)
              generalize Vd a (cb :: pr) (q + 1) = v3 at *
              generalize Vd a (cb :: pr) q = v2 at *
              generalize Vd a pr (q + 1) = v1 at *
              generalize Vd a pr q = v0 at *
              have j1 : (q : Int) + 1 ≤ (n : Int) := by omega
              have j2 : (q : Int) + 1 - 1 = (q : Int) := by omega
              have j3 : (k : Int) + 1 - 1 = (k : Int) := by omega
              have j4 : (q : Int) < (n : Int) + 1 := by omega
              have j5 : (q : Int) + 1 < (n : Int) + 1 := by omega
              have j6 : (q : Int) < (t : Int) := by omega
              have j7 : ((q : Int) + 1).toNat = q + 1 := by omega
              have htb : t ≤ 1099511000001 := by omega
              have hte : t ≤ 1099511627776 := by omega
              have HT := hideG ht
              clear ht hnc hng xa hya hVs
              by_cases he : ya = yb

              · subst he
                have hM : v3 = min (min (v2 + 1) (v1 + 1)) v0 := by have := HVs.out; rw [chg_self, Nat.add_zero] at this; exact this
                have M3 := hideG (min3N v0 (v1 + 1) (v2 + 1) v3 (by rw [hM]; omega))
                simp only [Int.natCast_add, Int.cast_ofNat_Int] at M3
                clear hM HVs
                go_wp2_with (go_quiet (fail))
                have HG6 := hideG (HG.out.later (Kept.drewA wr (nq + 1)))
                have k0 : ¬ ((q : Int) + 1 < 0) := by omega
                have k1 : IntKind.i64.wrap (q : Int) = (q : Int) := by rw [IntKind.wrap_i64]; omega
                have k2 : IntKind.i64.wrap ((v1 : Int) + 1) = (v1 : Int) + 1 := by clear k1; rw [IntKind.wrap_i64]; omega
                have k3 : IntKind.i64.wrap ((v2 : Int) + 1) = (v2 : Int) + 1 := by clear k1 k2; rw [IntKind.wrap_i64]; omega
                refine wp_region_held (S := AnyZ) (by kernel_rfl) ?_
                change wpAnyH _ _ _ _ _ _ _ _ (World.drew _)
                refine takeZ (i := 0) (d := 52) (v := .slice (some ⟨ng, 0, none⟩) t nc) rfl rfl (by kernel_rfl) (by kernel_rfl) (by kernel_rfl) (fun _ _ _ h => h) (Or.inl ⟨by rfl, fun W hW => ?_⟩) (anyZ _) ?_
                · (go_simp)
                simp only [Act.put, List.setIfInBounds_toArray, List.set_cons_zero, List.set_cons_succ]
                refine takeZ (i := 1) (d := 53) (v := .int .i64 (v0 : Int)) rfl rfl (by kernel_rfl) (by kernel_rfl) (by kernel_rfl) (fun _ _ _ h => h) (Or.inl ⟨by rfl, fun W hW => ?_⟩) (anyZ _) ?_
                · (go_simp)
                simp only [Act.put, List.setIfInBounds_toArray, List.set_cons_zero, List.set_cons_succ]
                refine takeZ (i := 2) (d := 54) (v := .slice (some ⟨lb, lo, none⟩) (n + 1) lc) rfl rfl (by kernel_rfl) (by kernel_rfl) (by kernel_rfl) (fun _ _ _ h => h) (Or.inl ⟨by rfl, fun W hW => ?_⟩) (anyZ _) ?_
                · (go_simp)
                simp only [Act.put, List.setIfInBounds_toArray, List.set_cons_zero, List.set_cons_succ]
                refine takeZ (i := 3) (d := 55) (v := .int .i64 ((q : Int) + 1)) rfl rfl (by kernel_rfl) (by kernel_rfl) (by kernel_rfl) (fun _ _ _ h => h) (Or.inl ⟨by rfl, fun W hW => ?_⟩) (anyZ _) ?_
                · (go_simp)
                simp only [Act.put, List.setIfInBounds_toArray, List.set_cons_zero, List.set_cons_succ]
                refine takeZ (i := 4) (d := 56) (v := .pointer (some ⟨lb, lo + (q + 1), none⟩)) rfl rfl (by kernel_rfl) (by kernel_rfl) (by kernel_rfl) (fun _ _ _ h => h) (Or.inl ⟨by rfl, fun W hW => ?_⟩) (anyZ _) ?_
                · (go_simp)
                simp only [Act.put, List.setIfInBounds_toArray, List.set_cons_zero, List.set_cons_succ]
                refine takeZ (i := 7) (d := 59) (v := .slice (some ⟨ng, 0, none⟩) t nc) rfl rfl (by kernel_rfl) (by kernel_rfl) (by kernel_rfl) (fun _ _ _ h => h) (Or.inl ⟨by rfl, fun W hW => ?_⟩) (anyZ _) ?_
                · (go_simp)
                simp only [Act.put, List.setIfInBounds_toArray, List.set_cons_zero, List.set_cons_succ]
                refine takeZ (i := 8) (d := 60) (v := .int .i64 ((q : Int) + 1)) rfl rfl (by kernel_rfl) (by kernel_rfl) (by kernel_rfl) (fun _ _ _ h => h) (Or.inl ⟨by rfl, fun W hW => ?_⟩) (anyZ _) ?_
                · (go_simp)
                simp only [Act.put, List.setIfInBounds_toArray, List.set_cons_zero, List.set_cons_succ]
                refine takeZ (i := 9) (d := 61) (v := .int .i64 (q : Int)) rfl rfl (by kernel_rfl) (by kernel_rfl) (by kernel_rfl) (fun _ _ _ h => h) (Or.inl ⟨by rfl, fun W hW => ?_⟩) (anyZ _) ?_
                · (go_simp)
                simp only [Act.put, List.setIfInBounds_toArray, List.set_cons_zero, List.set_cons_succ]
                refine takeZ (i := 10) (d := 62) (v := .pointer (some ⟨ng, q, none⟩)) rfl rfl (by kernel_rfl) (by kernel_rfl) (by kernel_rfl) (fun _ _ _ h => h) (Or.inl ⟨by rfl, fun W hW => ?_⟩) (anyZ _) ?_
                · (go_simp)
                simp only [Act.put, List.setIfInBounds_toArray, List.set_cons_zero, List.set_cons_succ]
                refine wpAnyH_all (rs := [5, 11]) (by kernel_rfl) (by simp) ?_
                intro i hi
                have hi2 : i = 5 ∨ i = 11 := by simpa using hi
                rcases hi2 with rfl | rfl
                · skip
                  unfold wpOp
                  go_simp
                  first | refine Or.inl ⟨(anyZ _), ?_⟩ | refine ⟨(anyZ _), ?_⟩ | (change wpAnyH _ _ _ _ _ _ _ _ _) | refine Or.inl ?_
                  refine takeZ (i := 6) (d := 58) (v := .int .i64 ((v1 : Int) + 1)) rfl rfl (by kernel_rfl) (by kernel_rfl) (by kernel_rfl) (fun _ _ _ h => h) (Or.inl ⟨by rfl, fun W hW => ?_⟩) (anyZ _) ?_
                  · (go_simp)
                  simp only [Act.put, List.setIfInBounds_toArray, List.set_cons_zero, List.set_cons_succ]
                  refine wpAnyH_all (rs := [11]) (by kernel_rfl) (by simp) ?_
                  intro i hi
                  obtain rfl : i = 11 := by simpa using hi
                  unfold wpOp
                  go_simp
                  first | refine Or.inl ⟨(anyZ _), ?_⟩ | refine ⟨(anyZ _), ?_⟩ | (change wpAnyH _ _ _ _ _ _ _ _ _) | refine Or.inl ?_
                  refine takeZ (i := 12) (d := 64) (v := .int .i64 ((v2 : Int) + 1)) rfl rfl (by kernel_rfl) (by kernel_rfl) (by kernel_rfl) (fun _ _ _ h => h) (Or.inl ⟨by rfl, fun W hW => ?_⟩) (anyZ _) ?_
                  · (go_simp)
                  simp only [Act.put, List.setIfInBounds_toArray, List.set_cons_zero, List.set_cons_succ]
                  refine takeZ (i := 13) (d := 65) (v := .int .i64 (v3 : Int)) rfl rfl (by kernel_rfl) (by kernel_rfl) (by kernel_rfl) (fun _ _ _ h => h) (Or.inl ⟨by rfl, fun W hW => ?_⟩) (anyZ _) ?_
                  · (rw [M3.out]; go_simp)
                  simp only [Act.put, List.setIfInBounds_toArray, List.set_cons_zero, List.set_cons_succ]
                  refine wpAnyH_all (rs := [14]) (by kernel_rfl) (by simp) ?_
                  intro i hi
                  obtain rfl : i = 14 := by simpa using hi
                  unfold wpOp
                  go_simp
                  first | refine Or.inl ⟨(anyZ _), ?_⟩ | refine ⟨(anyZ _), ?_⟩ | (change wpAnyH _ _ _ _ _ _ _ _ _) | refine Or.inl ?_
                  refine wpAnyH_all (rs := [15]) (by kernel_rfl) (by simp) ?_
                  intro i hi
                  obtain rfl : i = 15 := by simpa using hi
                  refine wpOp_inF rfl rfl ?_
                  have HG7 := HG6.out.later (Kept.alloc (wr.drewN (nq + 1)) (.cells #[.int .i64 (v3 : Int)] 3))
                  refine wp_pushI (w0 := W0) (.tmp 52) (.tmp 66) rfl (.slice (some ⟨ng, 0, none⟩) t nc) t (nz (rwV a (cb :: pr) (q + 1))) (v3 : Int) rfl HG7 wr.heap.size rfl (cell_of_row _ _ 0 _ _ _ (heap_alloc_new (wr.drewN (nq + 1)) (.cells #[.int .i64 (v3 : Int)] 3))) hte ?_
                  intro a9 c9 W9 G9
                  rw [← HSu.out] at G9
                  refine ⟨anyZ _, ?_⟩
                  simp only [Act.put, List.setIfInBounds_toArray]
                  refine takeZ (i := 16) (d := 8) (v := .slice a9 (t + 1) c9) rfl rfl (by kernel_rfl) (by kernel_rfl) (by kernel_rfl) (fun _ _ _ h => h) (Or.inl ⟨by rfl, fun W hW => ?_⟩) (anyZ _) ?_
                  · (go_simp)
                  simp only [Act.put]
                  refine wpAnyH_done (by kernel_rfl) ?_ _
                  clear k1 k2 k3
                  go_wp2
                  go_roundw
                  case rel => exact ⟨q + 1, t + 1, a9, c9, by omega, by rw [HT.out], by go_num, rfl, G9⟩
                  case measure => simp [intOf]; omega
                · skip
                  unfold wpOp
                  go_simp
                  first | refine Or.inl ⟨(anyZ _), ?_⟩ | refine ⟨(anyZ _), ?_⟩ | (change wpAnyH _ _ _ _ _ _ _ _ _) | refine Or.inl ?_
                  refine takeZ (i := 12) (d := 64) (v := .int .i64 ((v2 : Int) + 1)) rfl rfl (by kernel_rfl) (by kernel_rfl) (by kernel_rfl) (fun _ _ _ h => h) (Or.inl ⟨by rfl, fun W hW => ?_⟩) (anyZ _) ?_
                  · (go_simp)
                  simp only [Act.put, List.setIfInBounds_toArray, List.set_cons_zero, List.set_cons_succ]
                  refine wpAnyH_all (rs := [5]) (by kernel_rfl) (by simp) ?_
                  intro i hi
                  obtain rfl : i = 5 := by simpa using hi
                  unfold wpOp
                  go_simp
                  first | refine Or.inl ⟨(anyZ _), ?_⟩ | refine ⟨(anyZ _), ?_⟩ | (change wpAnyH _ _ _ _ _ _ _ _ _) | refine Or.inl ?_
                  refine takeZ (i := 6) (d := 58) (v := .int .i64 ((v1 : Int) + 1)) rfl rfl (by kernel_rfl) (by kernel_rfl) (by kernel_rfl) (fun _ _ _ h => h) (Or.inl ⟨by rfl, fun W hW => ?_⟩) (anyZ _) ?_
                  · (go_simp)
                  simp only [Act.put, List.setIfInBounds_toArray, List.set_cons_zero, List.set_cons_succ]
                  refine takeZ (i := 13) (d := 65) (v := .int .i64 (v3 : Int)) rfl rfl (by kernel_rfl) (by kernel_rfl) (by kernel_rfl) (fun _ _ _ h => h) (Or.inl ⟨by rfl, fun W hW => ?_⟩) (anyZ _) ?_
                  · (rw [M3.out]; go_simp)
                  simp only [Act.put, List.setIfInBounds_toArray, List.set_cons_zero, List.set_cons_succ]
                  refine wpAnyH_all (rs := [14]) (by kernel_rfl) (by simp) ?_
                  intro i hi
                  obtain rfl : i = 14 := by simpa using hi
                  unfold wpOp
                  go_simp
                  first | refine Or.inl ⟨(anyZ _), ?_⟩ | refine ⟨(anyZ _), ?_⟩ | (change wpAnyH _ _ _ _ _ _ _ _ _) | refine Or.inl ?_
                  refine wpAnyH_all (rs := [15]) (by kernel_rfl) (by simp) ?_
                  intro i hi
                  obtain rfl : i = 15 := by simpa using hi
                  refine wpOp_inF rfl rfl ?_
                  have HG7 := HG6.out.later (Kept.alloc (wr.drewN (nq + 1)) (.cells #[.int .i64 (v3 : Int)] 3))
                  refine wp_pushI (w0 := W0) (.tmp 52) (.tmp 66) rfl (.slice (some ⟨ng, 0, none⟩) t nc) t (nz (rwV a (cb :: pr) (q + 1))) (v3 : Int) rfl HG7 wr.heap.size rfl (cell_of_row _ _ 0 _ _ _ (heap_alloc_new (wr.drewN (nq + 1)) (.cells #[.int .i64 (v3 : Int)] 3))) hte ?_
                  intro a9 c9 W9 G9
                  rw [← HSu.out] at G9
                  refine ⟨anyZ _, ?_⟩
                  simp only [Act.put, List.setIfInBounds_toArray]
                  refine takeZ (i := 16) (d := 8) (v := .slice a9 (t + 1) c9) rfl rfl (by kernel_rfl) (by kernel_rfl) (by kernel_rfl) (fun _ _ _ h => h) (Or.inl ⟨by rfl, fun W hW => ?_⟩) (anyZ _) ?_
                  · (go_simp)
                  simp only [Act.put]
                  refine wpAnyH_done (by kernel_rfl) ?_ _
                  clear k1 k2 k3
                  go_wp2
                  go_roundw
                  case rel => exact ⟨q + 1, t + 1, a9, c9, by omega, by rw [HT.out], by go_num, rfl, G9⟩
                  case measure => simp [intOf]; omega
              · have hne1 : ((ya : Int) != (yb : Int)) = true := by simp; omega
                have hne2 : ¬ (ya : Int) = (yb : Int) := by omega
                have hM : v3 = min (min (v2 + 1) (v1 + 1)) (v0 + 1) := by have := HVs.out; rw [chg_ne he] at this; exact this
                obtain ⟨x0, hx0⟩ : ∃ x0, x0 = v0 + 1 := ⟨_, rfl⟩
                have hx1 : (v0 : Int) + 1 = (x0 : Int) := by omega
                have M3 := hideG (min3N x0 (v1 + 1) (v2 + 1) v3 (by rw [hM, hx0]; omega))
                simp only [Int.natCast_add, Int.cast_ofNat_Int] at M3
                clear hM HVs hx0
                go_wp2_with (go_quiet (fail))
                have HG6 := hideG (HG.out.later (Kept.drewA wr (nq + 1)))
                have k0 : ¬ ((q : Int) + 1 < 0) := by omega
                have k1 : IntKind.i64.wrap (q : Int) = (q : Int) := by rw [IntKind.wrap_i64]; omega
                have k2 : IntKind.i64.wrap ((v1 : Int) + 1) = (v1 : Int) + 1 := by clear k1; rw [IntKind.wrap_i64]; omega
                have k3 : IntKind.i64.wrap ((v2 : Int) + 1) = (v2 : Int) + 1 := by clear k1 k2; rw [IntKind.wrap_i64]; omega
                refine wp_region_held (S := AnyZ) (by kernel_rfl) ?_
                change wpAnyH _ _ _ _ _ _ _ _ (World.drew _)
                refine takeZ (i := 0) (d := 52) (v := .slice (some ⟨ng, 0, none⟩) t nc) rfl rfl (by kernel_rfl) (by kernel_rfl) (by kernel_rfl) (fun _ _ _ h => h) (Or.inl ⟨by rfl, fun W hW => ?_⟩) (anyZ _) ?_
                · (go_simp)
                simp only [Act.put, List.setIfInBounds_toArray, List.set_cons_zero, List.set_cons_succ]
                refine takeZ (i := 1) (d := 53) (v := .int .i64 (x0 : Int)) rfl rfl (by kernel_rfl) (by kernel_rfl) (by kernel_rfl) (fun _ _ _ h => h) (Or.inl ⟨by rfl, fun W hW => ?_⟩) (anyZ _) ?_
                · (go_simp)
                simp only [Act.put, List.setIfInBounds_toArray, List.set_cons_zero, List.set_cons_succ]
                refine takeZ (i := 2) (d := 54) (v := .slice (some ⟨lb, lo, none⟩) (n + 1) lc) rfl rfl (by kernel_rfl) (by kernel_rfl) (by kernel_rfl) (fun _ _ _ h => h) (Or.inl ⟨by rfl, fun W hW => ?_⟩) (anyZ _) ?_
                · (go_simp)
                simp only [Act.put, List.setIfInBounds_toArray, List.set_cons_zero, List.set_cons_succ]
                refine takeZ (i := 3) (d := 55) (v := .int .i64 ((q : Int) + 1)) rfl rfl (by kernel_rfl) (by kernel_rfl) (by kernel_rfl) (fun _ _ _ h => h) (Or.inl ⟨by rfl, fun W hW => ?_⟩) (anyZ _) ?_
                · (go_simp)
                simp only [Act.put, List.setIfInBounds_toArray, List.set_cons_zero, List.set_cons_succ]
                refine takeZ (i := 4) (d := 56) (v := .pointer (some ⟨lb, lo + (q + 1), none⟩)) rfl rfl (by kernel_rfl) (by kernel_rfl) (by kernel_rfl) (fun _ _ _ h => h) (Or.inl ⟨by rfl, fun W hW => ?_⟩) (anyZ _) ?_
                · (go_simp)
                simp only [Act.put, List.setIfInBounds_toArray, List.set_cons_zero, List.set_cons_succ]
                refine takeZ (i := 7) (d := 59) (v := .slice (some ⟨ng, 0, none⟩) t nc) rfl rfl (by kernel_rfl) (by kernel_rfl) (by kernel_rfl) (fun _ _ _ h => h) (Or.inl ⟨by rfl, fun W hW => ?_⟩) (anyZ _) ?_
                · (go_simp)
                simp only [Act.put, List.setIfInBounds_toArray, List.set_cons_zero, List.set_cons_succ]
                refine takeZ (i := 8) (d := 60) (v := .int .i64 ((q : Int) + 1)) rfl rfl (by kernel_rfl) (by kernel_rfl) (by kernel_rfl) (fun _ _ _ h => h) (Or.inl ⟨by rfl, fun W hW => ?_⟩) (anyZ _) ?_
                · (go_simp)
                simp only [Act.put, List.setIfInBounds_toArray, List.set_cons_zero, List.set_cons_succ]
                refine takeZ (i := 9) (d := 61) (v := .int .i64 (q : Int)) rfl rfl (by kernel_rfl) (by kernel_rfl) (by kernel_rfl) (fun _ _ _ h => h) (Or.inl ⟨by rfl, fun W hW => ?_⟩) (anyZ _) ?_
                · (go_simp)
                simp only [Act.put, List.setIfInBounds_toArray, List.set_cons_zero, List.set_cons_succ]
                refine takeZ (i := 10) (d := 62) (v := .pointer (some ⟨ng, q, none⟩)) rfl rfl (by kernel_rfl) (by kernel_rfl) (by kernel_rfl) (fun _ _ _ h => h) (Or.inl ⟨by rfl, fun W hW => ?_⟩) (anyZ _) ?_
                · (go_simp)
                simp only [Act.put, List.setIfInBounds_toArray, List.set_cons_zero, List.set_cons_succ]
                refine wpAnyH_all (rs := [5, 11]) (by kernel_rfl) (by simp) ?_
                intro i hi
                have hi2 : i = 5 ∨ i = 11 := by simpa using hi
                rcases hi2 with rfl | rfl
                · skip
                  unfold wpOp
                  go_simp
                  first | refine Or.inl ⟨(anyZ _), ?_⟩ | refine ⟨(anyZ _), ?_⟩ | (change wpAnyH _ _ _ _ _ _ _ _ _) | refine Or.inl ?_
                  refine takeZ (i := 6) (d := 58) (v := .int .i64 ((v1 : Int) + 1)) rfl rfl (by kernel_rfl) (by kernel_rfl) (by kernel_rfl) (fun _ _ _ h => h) (Or.inl ⟨by rfl, fun W hW => ?_⟩) (anyZ _) ?_
                  · (go_simp)
                  simp only [Act.put, List.setIfInBounds_toArray, List.set_cons_zero, List.set_cons_succ]
                  refine wpAnyH_all (rs := [11]) (by kernel_rfl) (by simp) ?_
                  intro i hi
                  obtain rfl : i = 11 := by simpa using hi
                  unfold wpOp
                  go_simp
                  first | refine Or.inl ⟨(anyZ _), ?_⟩ | refine ⟨(anyZ _), ?_⟩ | (change wpAnyH _ _ _ _ _ _ _ _ _) | refine Or.inl ?_
                  refine takeZ (i := 12) (d := 64) (v := .int .i64 ((v2 : Int) + 1)) rfl rfl (by kernel_rfl) (by kernel_rfl) (by kernel_rfl) (fun _ _ _ h => h) (Or.inl ⟨by rfl, fun W hW => ?_⟩) (anyZ _) ?_
                  · (go_simp)
                  simp only [Act.put, List.setIfInBounds_toArray, List.set_cons_zero, List.set_cons_succ]
                  refine takeZ (i := 13) (d := 65) (v := .int .i64 (v3 : Int)) rfl rfl (by kernel_rfl) (by kernel_rfl) (by kernel_rfl) (fun _ _ _ h => h) (Or.inl ⟨by rfl, fun W hW => ?_⟩) (anyZ _) ?_
                  · (rw [M3.out]; go_simp)
                  simp only [Act.put, List.setIfInBounds_toArray, List.set_cons_zero, List.set_cons_succ]
                  refine wpAnyH_all (rs := [14]) (by kernel_rfl) (by simp) ?_
                  intro i hi
                  obtain rfl : i = 14 := by simpa using hi
                  unfold wpOp
                  go_simp
                  first | refine Or.inl ⟨(anyZ _), ?_⟩ | refine ⟨(anyZ _), ?_⟩ | (change wpAnyH _ _ _ _ _ _ _ _ _) | refine Or.inl ?_
                  refine wpAnyH_all (rs := [15]) (by kernel_rfl) (by simp) ?_
                  intro i hi
                  obtain rfl : i = 15 := by simpa using hi
                  refine wpOp_inF rfl rfl ?_
                  have HG7 := HG6.out.later (Kept.alloc (wr.drewN (nq + 1)) (.cells #[.int .i64 (v3 : Int)] 3))
                  refine wp_pushI (w0 := W0) (.tmp 52) (.tmp 66) rfl (.slice (some ⟨ng, 0, none⟩) t nc) t (nz (rwV a (cb :: pr) (q + 1))) (v3 : Int) rfl HG7 wr.heap.size rfl (cell_of_row _ _ 0 _ _ _ (heap_alloc_new (wr.drewN (nq + 1)) (.cells #[.int .i64 (v3 : Int)] 3))) hte ?_
                  intro a9 c9 W9 G9
                  rw [← HSu.out] at G9
                  refine ⟨anyZ _, ?_⟩
                  simp only [Act.put, List.setIfInBounds_toArray]
                  refine takeZ (i := 16) (d := 8) (v := .slice a9 (t + 1) c9) rfl rfl (by kernel_rfl) (by kernel_rfl) (by kernel_rfl) (fun _ _ _ h => h) (Or.inl ⟨by rfl, fun W hW => ?_⟩) (anyZ _) ?_
                  · (go_simp)
                  simp only [Act.put]
                  refine wpAnyH_done (by kernel_rfl) ?_ _
                  clear k1 k2 k3
                  go_wp2
                  go_roundw
                  case rel => exact ⟨q + 1, t + 1, a9, c9, by omega, by rw [HT.out], by go_num, rfl, G9⟩
                  case measure => simp [intOf]; omega
                · skip
                  unfold wpOp
                  go_simp
                  first | refine Or.inl ⟨(anyZ _), ?_⟩ | refine ⟨(anyZ _), ?_⟩ | (change wpAnyH _ _ _ _ _ _ _ _ _) | refine Or.inl ?_
                  refine takeZ (i := 12) (d := 64) (v := .int .i64 ((v2 : Int) + 1)) rfl rfl (by kernel_rfl) (by kernel_rfl) (by kernel_rfl) (fun _ _ _ h => h) (Or.inl ⟨by rfl, fun W hW => ?_⟩) (anyZ _) ?_
                  · (go_simp)
                  simp only [Act.put, List.setIfInBounds_toArray, List.set_cons_zero, List.set_cons_succ]
                  refine wpAnyH_all (rs := [5]) (by kernel_rfl) (by simp) ?_
                  intro i hi
                  obtain rfl : i = 5 := by simpa using hi
                  unfold wpOp
                  go_simp
                  first | refine Or.inl ⟨(anyZ _), ?_⟩ | refine ⟨(anyZ _), ?_⟩ | (change wpAnyH _ _ _ _ _ _ _ _ _) | refine Or.inl ?_
                  refine takeZ (i := 6) (d := 58) (v := .int .i64 ((v1 : Int) + 1)) rfl rfl (by kernel_rfl) (by kernel_rfl) (by kernel_rfl) (fun _ _ _ h => h) (Or.inl ⟨by rfl, fun W hW => ?_⟩) (anyZ _) ?_
                  · (go_simp)
                  simp only [Act.put, List.setIfInBounds_toArray, List.set_cons_zero, List.set_cons_succ]
                  refine takeZ (i := 13) (d := 65) (v := .int .i64 (v3 : Int)) rfl rfl (by kernel_rfl) (by kernel_rfl) (by kernel_rfl) (fun _ _ _ h => h) (Or.inl ⟨by rfl, fun W hW => ?_⟩) (anyZ _) ?_
                  · (rw [M3.out]; go_simp)
                  simp only [Act.put, List.setIfInBounds_toArray, List.set_cons_zero, List.set_cons_succ]
                  refine wpAnyH_all (rs := [14]) (by kernel_rfl) (by simp) ?_
                  intro i hi
                  obtain rfl : i = 14 := by simpa using hi
                  unfold wpOp
                  go_simp
                  first | refine Or.inl ⟨(anyZ _), ?_⟩ | refine ⟨(anyZ _), ?_⟩ | (change wpAnyH _ _ _ _ _ _ _ _ _) | refine Or.inl ?_
                  refine wpAnyH_all (rs := [15]) (by kernel_rfl) (by simp) ?_
                  intro i hi
                  obtain rfl : i = 15 := by simpa using hi
                  refine wpOp_inF rfl rfl ?_
                  have HG7 := HG6.out.later (Kept.alloc (wr.drewN (nq + 1)) (.cells #[.int .i64 (v3 : Int)] 3))
                  refine wp_pushI (w0 := W0) (.tmp 52) (.tmp 66) rfl (.slice (some ⟨ng, 0, none⟩) t nc) t (nz (rwV a (cb :: pr) (q + 1))) (v3 : Int) rfl HG7 wr.heap.size rfl (cell_of_row _ _ 0 _ _ _ (heap_alloc_new (wr.drewN (nq + 1)) (.cells #[.int .i64 (v3 : Int)] 3))) hte ?_
                  intro a9 c9 W9 G9
                  rw [← HSu.out] at G9
                  refine ⟨anyZ _, ?_⟩
                  simp only [Act.put, List.setIfInBounds_toArray]
                  refine takeZ (i := 16) (d := 8) (v := .slice a9 (t + 1) c9) rfl rfl (by kernel_rfl) (by kernel_rfl) (by kernel_rfl) (fun _ _ _ h => h) (Or.inl ⟨by rfl, fun W hW => ?_⟩) (anyZ _) ?_
                  · (go_simp)
                  simp only [Act.put]
                  refine wpAnyH_done (by kernel_rfl) ?_ _
                  clear k1 k2 k3
                  go_wp2
                  go_roundw
                  case rel => exact ⟨q + 1, t + 1, a9, c9, by omega, by rw [HT.out], by go_num, rfl, G9⟩
                  case measure => simp [intOf]; omega
            · have hqe : q = n := by omega
              subst hqe
              have j1 : ¬ ((q : Int) + 1 ≤ (q : Int)) := by omega
              have hT := ht
              subst hT
              have HF : Hid (NsAt wr na (nz (rwV a (b.take (k + 1)).reverse (q + 1))) ∧ q + 1 ≤ nc ∧ Kept (fun _ => False) w wr) := hideG (by
                rw [HTk.out]
                have h1 := gro_ns HG.out (by rw [rwV_len])
                exact ⟨h1.1, h1.2, HLk.out.2.trans HG.out.kept (fun _ f => f.elim)⟩)
              clear HG
              go_wp2
              go_roundw
              case rel => exact ⟨k + 1, na, nc, by omega, by go_num, rfl, HF⟩
              case measure => simp [intOf]; omega
        · have hke : k = m := by omega
          subst hke
          have i2 : ¬ ((k : Int) + 1 ≤ (k : Int)) := by omega
          have HF : Hid (NsAt W0 la Z ∧ n + 1 ≤ lc ∧ Kept (fun _ => False) w W0 ∧ Z.length = n + 1) := hideG (by
            have h1 := HL.out
            rw [HNB.out, List.take_length] at h1
            have e : Z = nz (rwV a b.reverse (n + 1)) := by rw [HZ.out, HNA.out]
            rw [e]
            exact ⟨h1.1, h1.2.1, h1.2.2, rwV_len _ _ _⟩)
          clear HL
          go_wp2
          go_ret
          obtain ⟨f1, f2, f3, f4⟩ := HF.out
          exact ⟨⟨la, lc, by rw [f4]; rfl, f1, by rw [f4]; exact f2⟩, f3⟩
end Go.Proofs.YtacmmclamkhpcaaDoor
namespace Go.Proofs.YtacmmclamkhpcaaDoor
open Go.ChangeShapes Go.WideShapes Go.ChangeAt Go.RowKit

set_option maxRecDepth 20000 in
set_option maxHeartbeats 4000000 in
theorem rEdits_any (a b : List UInt8) (most : Int) (w : World) (ha : a.length ≤ 549755000000) (hb : b.length ≤ 549755000000) : Calls Tryd.prog 25 #[.string (bq a), .string (bq b), .int .i64 most] w fun e w' => e = .returned (.int .i64 (edF a b most)) ∧ Kept (fun _ => False) w w' := by
  obtain ⟨m0, hm0⟩ : ∃ m0 : Int, m0 = if most < 0 then 0 else most := ⟨_, rfl⟩
  have CR := hideG (redits_any a b w (by omega) (by omega))
  have hza : (bq a).size = a.length := bq_size a
  obtain ⟨n, hn⟩ : ∃ n, n = a.length := ⟨_, rfl⟩
  obtain ⟨d, hd⟩ : ∃ d, d = led2 a b := ⟨_, rfl⟩
  have hdb : d ≤ 549755000000 := by have := led2_high a b; omega
  have hm00 : 0 ≤ m0 := by rw [hm0]; split <;> omega
  have HL : Hid (∀ W la, NsAt W la (nz (rwV a b.reverse (a.length + 1))) → ∃ lb lo, la = some ⟨lb, lo, none⟩ ∧ W.cell? ⟨lb, lo + n, none⟩ = some (.int .i64 (d : Int))) := hideG (fun W la hN => by
    obtain ⟨lb, lo, h1, h2⟩ := hN (by intro e; have := congrArg List.length e; rw [rwV_len] at this; simp at this)
    refine ⟨lb, lo, h1, ?_⟩
    have h := h2 n (by rw [rwV_len]; omega)
    rw [rwV_at, hn, Vd_all] at h
    rw [hn, hd]
    exact h)
  obtain ⟨Z, hZ⟩ : ∃ Z, Z = edF a b most := ⟨_, rfl⟩
  have eZ : Z = if (d : Int) ≤ m0 then (d : Int) else m0 + 1 := by rw [hZ, hd, hm0]; rfl
  rw [← hZ]
  unfold StK at CR
  rw [rwV_len] at CR
  rw [← hn] at CR HL hza
  generalize nz (rwV a b.reverse (n + 1)) = L at *
  generalize bq a = sA at *
  generalize bq b = sB at *
  have HM := hideG hm0
  clear hm0 hZ hd
  have hnb : n ≤ 549755000000 := by omega
  clear ha hb hn
  have j1 : (n : Int) < (n : Int) + 1 := by omega
  rcases Int.lt_or_le m0 (d : Int) with hlt | hge
  · have hz : Z = m0 + 1 := by rw [eZ, if_neg (by omega)]
    subst hz
    have j2 : m0 + 1 ≤ 549755000001 := by omega
    clear eZ
    go_enter Tryd.func25, Tryd.ntmps25
    go_wp2_with (first
      | (refine wpList_maxA rfl _ _ rfl most 0 m0 rfl rfl HM.out ?_)
      | (go_at_call 26; refine CR.out.mono ?_; clear CR; rintro e W1 ⟨⟨la, lc, rfl, hN, hc⟩, K1⟩; obtain ⟨lb, lo, rfl, y0⟩ := HL.out W1 la hN; clear hN))
    go_ret
    exact ⟨rfl, K1⟩
  · have hz : Z = (d : Int) := by rw [eZ, if_pos hge]
    subst hz
    have j2 : ¬ (m0 < (d : Int)) := by omega
    clear eZ
    go_enter Tryd.func25, Tryd.ntmps25
    go_wp2_with (first
      | (refine wpList_maxA rfl _ _ rfl most 0 m0 rfl rfl HM.out ?_)
      | (go_at_call 26; refine CR.out.mono ?_; clear CR; rintro e W1 ⟨⟨la, lc, rfl, hN, hc⟩, K1⟩; obtain ⟨lb, lo, rfl, y0⟩ := HL.out W1 la hN; clear hN))
    go_ret
    exact ⟨rfl, K1⟩
theorem edF_kit : edF [107, 105, 116, 116, 101, 110] [115, 105, 116, 116, 105, 110, 103] 5 = 3 ∧ edF [107, 105, 116, 116, 101, 110] [115, 105, 116, 116, 105, 110, 103] 1 = 2 := by decide +kernel
end Go.Proofs.YtacmmclamkhpcaaDoor
