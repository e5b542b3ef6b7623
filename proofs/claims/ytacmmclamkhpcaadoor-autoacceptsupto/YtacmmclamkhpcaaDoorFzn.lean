import Derived.Test.YtacmmclamkhpcaaDoorAux
namespace Go.Proofs.YtacmmclamkhpcaaDoor
open Go.ChangeShapes Go.WideShapes Go.ChangeAt Go.RowKit

theorem getD_memN (row : List Nat) (j : Nat) (h : j < row.length) : row.getD j 0 ∈ row := by simp [List.getD, h]
set_option maxRecDepth 20000 in
set_option maxHeartbeats 8000000 in
theorem next_fuzzy (l : List UInt8) (ed : Nat) (W : World) (S : List Int) (a : Option Addr) (c b : Nat) (hl : l.length ≤ 1099511000000) (hed : ed ≤ 1099511000000) (hcp : S.length ≤ c) (hS : NsAt W a S) (hI : IvF l ed S) (hne : S ≠ []) (_hb : b < 256) :
    Calls Tryd.prog 59 #[.agg #[.string (bq l), .int .i64 (ed : Nat)], .slice a S.length c, .int .u8 (b : Nat)] W fun e w' => StK W w' (nxF l ed S b) e := by
  rcases hI with h | ⟨x, row, rfl, hrow, hle, hxr⟩
  · exact absurd h hne
  · obtain ⟨bS, oS, rfl, hc⟩ := hS hne
    obtain ⟨R, hR⟩ : ∃ R, R = row.length := ⟨_, rfl⟩
    have hR1 : 1 ≤ R := by rw [hR]; exact List.length_pos_iff.2 hrow
    have eS : (nz (x :: row)).length = R + 1 := by rw [nz_len, List.length_cons, hR]
    rw [eS] at hcp ⊢
    have KB := Kept.alloc W (.cells #[.string (bq l), .int .i64 (ed : Nat)] 68)
    have hbx := heap_alloc_new W (.cells #[.string (bq l), .int .i64 (ed : Nat)] 68)
    have y0 := KB.cell (hc 0 (by rw [eS]; omega)) (fun f => f)
    have y0v : (nz (x :: row))[0]'(by rw [eS]; omega) = (x : Int) := by unfold nz; simp
    rw [y0v, Nat.add_zero] at y0
    obtain ⟨s, hs⟩ : ∃ s, s = bq l := ⟨_, rfl⟩
    have hz : s.size = l.length := by rw [hs]; exact bq_size l
    have HX : Hid (∀ k (h : k < l.length) (h2 : k < s.size), s[k] = l[k]) := hideG (fun k h h2 => by subst hs; rfl)
    have HRow : Hid (∀ (V : World) j (h : j < row.length), Kept (fun _ => False) (W.alloc (.cells #[.string s, .int .i64 (ed : Nat)] 68)) V → V.cell? ⟨bS, oS + 1 + j, none⟩ = some (.int .i64 ((row[j] : Nat) : Int))) := hideG (fun V j h k => by
      rw [hs] at k
      have h0 := hc (j + 1) (by rw [eS]; omega)
      have h1 : (nz (x :: row))[j + 1]'(by rw [eS]; omega) = ((row[j] : Nat) : Int) := by unfold nz; simp
      rw [h1, show oS + (j + 1) = oS + 1 + j by omega] at h0
      exact k.cell (KB.cell h0 (fun f => f)) (fun f => f))
    have HBox : Hid (∀ V : World, Kept (fun _ => False) (W.alloc (.cells #[.string s, .int .i64 (ed : Nat)] 68)) V → V.cell? ⟨W.heap.size, 0, none⟩ = some (.string s) ∧ V.cell? ⟨W.heap.size, 1, none⟩ = some (.int .i64 (ed : Nat))) := hideG (fun V k => by
      rw [hs] at k ⊢
      have g1 := k.heap hbx (fun f => f)
      exact ⟨by simp [World.cell?, g1], by simp [World.cell?, g1]⟩)
    obtain ⟨K, hK⟩ : ∃ K, K = lim l x row := ⟨_, rfl⟩
    have HZ : Hid (nxF l ed (nz (x :: row)) b = nz (trm (ed + 1) x (ent l x (ed + 1) b row K))) := hideG (by unfold nxF; rw [zn_nz, hK])
    have hK2 : K = min (R + 1) (l.length + 1 - x) := by rw [hK, hR]; rfl
    have HKm := hideG hK2
    have hxl : x ≤ l.length := by omega
    have hKpos : 1 ≤ K := by rw [hK2]; omega
    have hKR : K ≤ R + 1 := by rw [hK2]; exact Nat.min_le_left _ _
    have hKx : x + K ≤ l.length + 1 := by rw [hK2]; omega
    have HR := hideG hR
    have HLen := hideG hz
    rw [HZ.out, ← hs]
    rw [← hs] at y0 KB
    have HKB := hideG KB
    have hc2 : 1 < c := by omega
    have hc3 : ¬ (c ≤ 1) := by omega
    have hszb : s.size ≤ 1099511000000 := by omega
    have hxs : x ≤ s.size := by omega
    have hKxs : x + K ≤ s.size + 1 := by omega
    have hKe : K = R + 1 ∨ x + K = s.size + 1 := by omega
    have hRb : R ≤ 1099511000001 := by omega
    have hle0 : ∀ j, j < R → row.getD j 0 ≤ ed + 1 := fun j h => hle _ (getD_memN row j (by omega))
    clear hz hs hc hS hbx KB hle hrow hK hK2 hxl hKx HZ y0v eS hne hR
    have HRow2 : Hid (∀ (V : World) j (h : j < R), Kept (fun _ => False) (W.alloc (.cells #[.string s, .int .i64 (ed : Nat)] 68)) V → V.cell? ⟨bS, oS + 1 + j, none⟩ = some (.int .i64 ((row.getD j 0 : Nat) : Int))) := hideG (fun V j h k => by
      have h9 : j < row.length := by rw [← HR.out]; exact h
      have := HRow.out V j h9 k
      rwa [show row[j] = row.getD j 0 by simp [List.getD, h9]] at this)
    have HXl : Hid (∀ j (h : j < s.size), s[j].toNat = (l.getD j 0).toNat) := hideG (fun j h => by
      have h9 : j < l.length := by rw [← HLen.out]; exact h
      rw [HX.out j h9 h]
      simp [List.getD, h9])
    clear HRow HX hxr
    obtain ⟨B0, hB0⟩ : ∃ B0 : World, B0 = W.alloc (.cells #[.string s, .int .i64 (ed : Nat)] 68) := ⟨_, rfl⟩
    have hBs : B0.heap.size = W.heap.size + 1 := by rw [hB0, World.size_alloc]
    rw [← hB0] at HBox HRow2 HKB
    have HB0 := hideG hB0
    have HBs := hideG hBs
    clear hB0 hBs
    have fE : Hid (∀ k, lfs l x (ed + 1) b row k ≤ ed + 1) := hideG (lfs_le l x (ed + 1) b row)
    have HrE : Hid (∀ j, j < R → row.getD j 0 ≤ ed + 1) := hideG (fun j h => hle0 j h)
    clear hle0
    go_enter Tryd.func59, Tryd.ntmps59
    go_wp2_with (first
      | go_quiet (fail)
      | (refine wpList_make1 _ rfl _ _ rfl _ (R + 2) rfl rfl (by omega) (by omega) (by omega) ?_; intro W1 G1; refine Stp2.go ?_))
    refine ⟨?_⟩
    rw [← HB0.out] at G1
    have G2 := hideG (G1.out.baseA (Kept.drewA B0 nq))
    have eg : (B0.drewN nq).heap.size = W.heap.size + 1 := HBs.out
    rw [eg] at G2
    clear eg G1
    have c0 := G2.out.at (j := 0) rfl
    obtain ⟨S1, f1⟩ := G2.out.set 0 (.int .i64 (x : Int))
    have HS1 : Hid (Gro B0 (W1.setCell ⟨W.heap.size + 1, 0, none⟩ (.int .i64 (x : Int))) 3 1 (.slice (some ⟨W.heap.size + 1, 0, none⟩) 1 (R + 2)) 1 (iv (nz (x :: ent l x (ed + 1) b row 0)))) := hideG S1
    clear S1 G2 y0
    go_wp2
    go_loopw [10, 11, 12] (fun v lf kk wr => ∃ (k c' q : Nat) (a : Option Addr), k ≤ K ∧ q = k + 1 ∧ kk = .int .i64 k ∧ lf = .int .i64 ((lfs l x (ed + 1) b row k : Nat) : Int) ∧ v = .slice a q c' ∧ Hid (Gro B0 wr 3 1 (.slice a q c') q (iv (nz (x :: ent l x (ed + 1) b row k))))) (fun _ _ kk _ => K - (intOf kk).toNat)
    case atStart => exact ⟨0, R + 2, 1, some ⟨W.heap.size + 1, 0, none⟩, by omega, rfl, rfl, by show _ = Value.int .i64 ((ed + 1 : Nat) : Int); rw [Int.natCast_add]; rfl, rfl, HS1⟩
    case round =>
      obtain ⟨k, c', q, a, hk, hq, rfl, rfl, rfl, HG⟩ := hrel
      clear HS1 c0 f1
      have hqb : q ≤ 1099511000003 := by omega
      have HQ := hideG hq
      clear hq
      obtain ⟨bx0, bx1⟩ := HBox.out wr HG.out.kept
      have hL := fE.out k
      by_cases hlt : k < K
      · have i1 : (k : Int) ≤ (R : Int) := by omega
        have i2 : (x : Int) + (k : Int) ≤ (s.size : Int) := by omega
        have HP : Hid (iv (nz (x :: ent l x (ed + 1) b row (k + 1))) = iv (nz (x :: ent l x (ed + 1) b row k) ++ [((lfs l x (ed + 1) b row (k + 1) : Nat) : Int)])) := hideG (by rw [ent_succ]; unfold nz; simp)
        have HLk : Hid (lfs l x (ed + 1) b row (k + 1) = min (n2F l x b row (n1F row (lfs l x (ed + 1) b row k) k) k) (ed + 1)) := hideG rfl
        obtain ⟨L1, hL1⟩ : ∃ L1, lfs l x (ed + 1) b row (k + 1) = L1 := ⟨_, rfl⟩
        rw [hL1] at HP HLk
        have HL1 := hideG hL1
        clear hL1
        generalize lfs l x (ed + 1) b row k = L0 at *
        by_cases hk0 : k = 0
        · subst hk0
          have y1 := HRow2.out wr 0 (by omega) HG.out.kept
          rw [Nat.add_zero] at y1
          have hE1 : Hid (n1F row L0 0 = min (L0 + 1) (row.getD 0 0 + 1)) := hideG (by unfold n1F; rw [if_pos (by rw [← HR.out]; omega)])
          have hE2 : Hid (L1 = min (min (L0 + 1) (row.getD 0 0 + 1)) (ed + 1)) := hideG (by rw [HLk.out, hE1.out]; unfold n2F; rw [if_neg (Nat.lt_irrefl 0)])
          have hr0 := HrE.out 0 (by omega)
          generalize row.getD 0 0 = r0 at *
          obtain ⟨m1, hm1⟩ : ∃ m1, m1 = min (L0 + 1) (r0 + 1) := ⟨_, rfl⟩
          have M1 := hideG (minN (L0 + 1) (r0 + 1))
          rw [← hm1] at M1 hE2
          have M2 := hideG (minN m1 (ed + 1))
          rw [← hE2.out] at M2
          have hmb : m1 ≤ ed + 2 := by rw [hm1]; omega
          have i3 : (0 : Int) < (R : Int) := by omega
          simp only [Int.natCast_add, Int.cast_ofNat_Int] at M1 M2
          clear hE1 hE2 hm1 HLk HRow2 HXl
          go_wp2_with (first
            | (refine wpList_minA rfl _ _ rfl ((L0 : Int) + 1) ((r0 : Int) + 1) (m1 : Int) rfl rfl M1.out ?_)
            | (refine wpList_minA rfl _ _ rfl (m1 : Int) ((ed : Int) + 1) (L1 : Int) rfl rfl M2.out ?_)
            | (at_builtin; refine wpList_pushI rfl _ _ rfl _ q (nz (x :: ent l x (ed + 1) b row 0)) (L1 : Int) rfl HG _ (by first | rfl | simp) rfl (by omega) ?_; clear HG; intro a1 c1 W2 G2; rw [← HP.out] at G2))
          go_roundw
          case rel => exact ⟨0 + 1, c1, q + 1, a1, by omega, by rw [HQ.out], by go_num, by rw [HL1.out], rfl, G2⟩
          case measure => simp [intOf]; omega
        · by_cases hkR : k < R
          · have y1 := HRow2.out wr k hkR HG.out.kept
            have hE1 : Hid (n1F row L0 k = min (L0 + 1) (row.getD k 0 + 1)) := hideG (by unfold n1F; rw [if_pos (by rw [← HR.out]; omega)])
            have hrk := HrE.out k hkR
            generalize row.getD k 0 = rk at *
            obtain ⟨m1, hm1⟩ : ∃ m1, m1 = min (L0 + 1) (rk + 1) := ⟨_, rfl⟩
            have M1 := hideG (minN (L0 + 1) (rk + 1))
            rw [← hm1] at M1 hE1
            have hmb : m1 ≤ ed + 2 := by rw [hm1]; omega
            clear hm1
            have i3 : (k : Int) < (R : Int) := by omega
            have hk1 : k - 1 < R := by omega
            have hE2 : Hid (L1 = min (min m1 (row.getD (k - 1) 0 + chg (l.getD (x + k - 1) 0).toNat b)) (ed + 1)) := hideG (by rw [HLk.out, hE1.out]; unfold n2F; rw [if_pos (by omega)])
            have HRp : Hid (∀ V : World, Kept (fun _ => False) B0 V → V.cell? ⟨bS, oS + 1 + (k - 1), none⟩ = some (.int .i64 ((row.getD (k - 1) 0 : Nat) : Int))) := hideG (fun V hV => HRow2.out V (k - 1) hk1 hV)
            have hrp := HrE.out (k - 1) hk1
            have hxk : x + k - 1 < s.size := by omega
            have yw := HXl.out (x + k - 1) hxk
            have hwb : (l.getD (x + k - 1) 0).toNat < 256 := UInt8.toNat_lt _
            generalize row.getD (k - 1) 0 = rp at *
            generalize (l.getD (x + k - 1) 0).toNat = wc at *
            have hc1 : chg wc b ≤ 1 := by unfold chg; split <;> omega
            obtain ⟨cg, hcg⟩ : ∃ cg, chg wc b = cg := ⟨_, rfl⟩
            rw [hcg] at hE2 hc1
            obtain ⟨sm, hsm⟩ : ∃ sm, sm = rp + cg := ⟨_, rfl⟩
            have hsb : sm ≤ ed + 2 := by omega
            have hsI : (rp : Int) + (cg : Int) = (sm : Int) := by omega
            obtain ⟨m2, hm2⟩ : ∃ m2, m2 = min m1 sm := ⟨_, rfl⟩
            have M2 := hideG (minN m1 sm)
            rw [← hsm, ← hm2] at hE2
            rw [← hm2] at M2
            have hm2b : m2 ≤ ed + 2 := by rw [hm2]; omega
            have M3 := hideG (minN m2 (ed + 1))
            rw [← hE2.out] at M3
            simp only [Int.natCast_add, Int.cast_ofNat_Int] at M1 M2 M3
            have j1 : (0 : Int) < (k : Int) := by omega
            have j2 : (k : Int) - 1 = ((k - 1 : Nat) : Int) := by omega
            have j3 : (x : Int) + (k : Int) - 1 = ((x + k - 1 : Nat) : Int) := by omega
            have j4 : ((k - 1 : Nat) : Int) < (R : Int) := by omega
            have j5 : ((x + k - 1 : Nat) : Int) < (s.size : Int) := by omega
            have hS6 : Kept (fun _ => False) B0 wr.drew := HG.out.kept.trans (Kept.drewA wr 1) (fun _ f => f.elim)
            have HG6 := hideG (HG.out.later (Kept.drewA wr 1))
            clear hE1 hE2 hm2 HLk HXl hsm
            have u1 : IntKind.i64.wrap ((k - 1 : Nat) : Int) = ((k - 1 : Nat) : Int) := by rw [IntKind.wrap_i64]; omega
            have u2 : IntKind.i64.wrap ((x : Int) + (k : Int)) = (x : Int) + (k : Int) := by clear u1; rw [IntKind.wrap_i64]; omega
            have u3 : IntKind.i64.wrap ((x + k - 1 : Nat) : Int) = ((x + k - 1 : Nat) : Int) := by clear u1 u2; rw [IntKind.wrap_i64]; omega
            have u4 : IntKind.i64.wrap (sm : Int) = (sm : Int) := by clear u1 u2 u3; rw [IntKind.wrap_i64]; omega
            go_wp2_with (first
              | (refine wpList_minA rfl _ _ rfl ((L0 : Int) + 1) ((rk : Int) + 1) (m1 : Int) rfl rfl M1.out ?_))
            refine wp_region_held (S := fun V => Kept (fun _ => False) B0 V) (by kernel_rfl) ?_
            change wpAnyH _ _ _ _ _ _ _ _ (World.drew _)
            refine takeHA (i := 0) (d := 60) (v := .int .i64 (m1 : Int)) rfl rfl (by kernel_rfl) (by kernel_rfl) (by kernel_rfl) (fun _ _ _ h => h) (Or.inl ⟨by rfl, fun V hV => ?_⟩) hS6 ?_
            · (go_simp)
            simp only [Act.put, List.setIfInBounds_toArray, List.set_cons_zero, List.set_cons_succ]
            refine takeHA (i := 1) (d := 61) (v := .slice (some ⟨bS, oS + 1, none⟩) R (c - 1)) rfl rfl (by kernel_rfl) (by kernel_rfl) (by kernel_rfl) (fun _ _ _ h => h) (Or.inl ⟨by rfl, fun V hV => ?_⟩) hS6 ?_
            · (go_simp)
            simp only [Act.put, List.setIfInBounds_toArray, List.set_cons_zero, List.set_cons_succ]
            refine takeHA (i := 2) (d := 62) (v := .int .i64 (k : Int)) rfl rfl (by kernel_rfl) (by kernel_rfl) (by kernel_rfl) (fun _ _ _ h => h) (Or.inl ⟨by rfl, fun V hV => ?_⟩) hS6 ?_
            · (go_simp)
            simp only [Act.put, List.setIfInBounds_toArray, List.set_cons_zero, List.set_cons_succ]
            refine takeHA (i := 3) (d := 63) (v := .int .i64 ((k - 1 : Nat) : Int)) rfl rfl (by kernel_rfl) (by kernel_rfl) (by kernel_rfl) (fun _ _ _ h => h) (Or.inl ⟨by rfl, fun V hV => ?_⟩) hS6 ?_
            · (go_simp)
            simp only [Act.put, List.setIfInBounds_toArray, List.set_cons_zero, List.set_cons_succ]
            refine takeHA (i := 4) (d := 64) (v := .pointer (some ⟨bS, oS + 1 + (k - 1), none⟩)) rfl rfl (by kernel_rfl) (by kernel_rfl) (by kernel_rfl) (fun _ _ _ h => h) (Or.inl ⟨by rfl, fun V hV => ?_⟩) hS6 ?_
            · (go_simp)
            simp only [Act.put, List.setIfInBounds_toArray, List.set_cons_zero, List.set_cons_succ]
            refine takeHA (i := 5) (d := 65) (v := .int .i64 (rp : Int)) rfl rfl (by kernel_rfl) (by kernel_rfl) (by kernel_rfl) (fun _ _ _ h => h) (Or.inl ⟨by rfl, fun V hV => ?_⟩) hS6 ?_
            · (have zr := HRp.out V hV; go_simp)
            simp only [Act.put, List.setIfInBounds_toArray, List.set_cons_zero, List.set_cons_succ]
            refine takeHA (i := 6) (d := 66) (v := .pointer (some ⟨W.heap.size, 0, none⟩)) rfl rfl (by kernel_rfl) (by kernel_rfl) (by kernel_rfl) (fun _ _ _ h => h) (Or.inl ⟨by rfl, fun V hV => ?_⟩) hS6 ?_
            · (go_simp)
            simp only [Act.put, List.setIfInBounds_toArray, List.set_cons_zero, List.set_cons_succ]
            refine takeHA (i := 7) (d := 67) (v := .string s) rfl rfl (by kernel_rfl) (by kernel_rfl) (by kernel_rfl) (fun _ _ _ h => h) (Or.inl ⟨by rfl, fun V hV => ?_⟩) hS6 ?_
            · (obtain ⟨z0, z1⟩ := HBox.out V hV; go_simp)
            simp only [Act.put, List.setIfInBounds_toArray, List.set_cons_zero, List.set_cons_succ]
            refine takeHA (i := 8) (d := 68) (v := .int .i64 (x : Int)) rfl rfl (by kernel_rfl) (by kernel_rfl) (by kernel_rfl) (fun _ _ _ h => h) (Or.inl ⟨by rfl, fun V hV => ?_⟩) hS6 ?_
            · (go_simp)
            simp only [Act.put, List.setIfInBounds_toArray, List.set_cons_zero, List.set_cons_succ]
            refine takeHA (i := 9) (d := 69) (v := .int .i64 (k : Int)) rfl rfl (by kernel_rfl) (by kernel_rfl) (by kernel_rfl) (fun _ _ _ h => h) (Or.inl ⟨by rfl, fun V hV => ?_⟩) hS6 ?_
            · (go_simp)
            simp only [Act.put, List.setIfInBounds_toArray, List.set_cons_zero, List.set_cons_succ]
            refine takeHA (i := 10) (d := 70) (v := .int .i64 ((x : Int) + (k : Int))) rfl rfl (by kernel_rfl) (by kernel_rfl) (by kernel_rfl) (fun _ _ _ h => h) (Or.inl ⟨by rfl, fun V hV => ?_⟩) hS6 ?_
            · (go_simp)
            simp only [Act.put, List.setIfInBounds_toArray, List.set_cons_zero, List.set_cons_succ]
            refine takeHA (i := 11) (d := 71) (v := .int .i64 ((x + k - 1 : Nat) : Int)) rfl rfl (by kernel_rfl) (by kernel_rfl) (by kernel_rfl) (fun _ _ _ h => h) (Or.inl ⟨by rfl, fun V hV => ?_⟩) hS6 ?_
            · (go_simp)
            simp only [Act.put, List.setIfInBounds_toArray, List.set_cons_zero, List.set_cons_succ]
            refine takeHA (i := 12) (d := 72) (v := .int .u8 (wc : Int)) rfl rfl (by kernel_rfl) (by kernel_rfl) (by kernel_rfl) (fun _ _ _ h => h) (Or.inl ⟨by rfl, fun V hV => ?_⟩) hS6 ?_
            · (go_simp)
            simp only [Act.put, List.setIfInBounds_toArray, List.set_cons_zero, List.set_cons_succ]
            refine takeHA (i := 13) (d := 73) (v := .int .u8 (b : Int)) rfl rfl (by kernel_rfl) (by kernel_rfl) (by kernel_rfl) (fun _ _ _ h => h) (Or.inl ⟨by rfl, fun V hV => ?_⟩) hS6 ?_
            · (go_simp)
            simp only [Act.put, List.setIfInBounds_toArray, List.set_cons_zero, List.set_cons_succ]
            refine wpAnyH_all (rs := [14]) (by kernel_rfl) (by simp) ?_
            intro i hi
            obtain rfl : i = 14 := by simpa using hi
            unfold wpOp
            go_simp
            first | refine (changed_any wc b _).mono ?_ | refine Or.inl ((changed_any wc b _).mono ?_)
            rintro e V8 ⟨rfl, e8⟩
            subst e8
            rw [hcg]
            refine ⟨hS6, ?_⟩
            refine takeHA (i := 15) (d := 75) (v := .int .i64 (sm : Int)) rfl rfl (by kernel_rfl) (by kernel_rfl) (by kernel_rfl) (fun _ _ _ h => h) (Or.inl ⟨by rfl, fun V hV => ?_⟩) hS6 ?_
            · (go_simp)
            simp only [Act.put, List.setIfInBounds_toArray, List.set_cons_zero, List.set_cons_succ]
            refine takeHA (i := 16) (d := 76) (v := .int .i64 (m2 : Int)) rfl rfl (by kernel_rfl) (by kernel_rfl) (by kernel_rfl) (fun _ _ _ h => h) (Or.inl ⟨by rfl, fun V hV => ?_⟩) hS6 ?_
            · (first | (rw [M2.out]; go_simp; done) | (rw [M2.out]; go_simp; split <;> omega))
            simp only [Act.put, List.setIfInBounds_toArray, List.set_cons_zero, List.set_cons_succ]
            refine takeHA (i := 17) (d := 13) (v := .int .i64 (m2 : Int)) rfl rfl (by kernel_rfl) (by kernel_rfl) (by kernel_rfl) (fun _ _ _ h => h) (Or.inl ⟨by rfl, fun V hV => ?_⟩) hS6 ?_
            · (go_simp)
            simp only [Act.put, List.setIfInBounds_toArray, List.set_cons_zero, List.set_cons_succ]
            refine wpAnyH_done (by kernel_rfl) ?_ _
            obtain ⟨V0, hV0⟩ : ∃ V0 : World, V0 = wr.drew := ⟨_, rfl⟩
            have eV : wr.drewN 1 = V0 := hV0.symm
            rw [eV] at HG6
            rw [← hV0]
            clear hV0 eV HG hS6 HRp HRow2 HBox u1 u2 u3 u4
            have HG := HG6
            clear HG6
            go_wp2_with (first
              | (refine wpList_minA rfl _ _ rfl (m2 : Int) ((ed : Int) + 1) (L1 : Int) rfl rfl M3.out ?_)
              | (at_builtin; refine wpList_pushI rfl _ _ rfl _ q (nz (x :: ent l x (ed + 1) b row k)) (L1 : Int) rfl HG _ (by first | rfl | simp) rfl (by omega) ?_; clear HG; intro a1 c1 W2 G2; rw [← HP.out] at G2))
            go_roundw
            case rel => exact ⟨k + 1, c1, q + 1, a1, by omega, by rw [HQ.out], by go_num, by rw [HL1.out], rfl, G2⟩
            case measure => simp [intOf]; omega
          · obtain ⟨m1, hm1⟩ : ∃ m1, m1 = L0 + 1 := ⟨_, rfl⟩
            have hE1 : Hid (n1F row L0 k = m1) := hideG (by unfold n1F; rw [if_neg (by rw [← HR.out]; omega), hm1])
            have M1 : Hid (True) := hideG trivial
            have hmb : m1 ≤ ed + 2 := by rw [hm1]; omega
            have i3 : ¬ ((k : Int) < (R : Int)) := by omega
            have hm1i : (L0 : Int) + 1 = (m1 : Int) := by rw [hm1]; omega
            clear hm1
            have hk1 : k - 1 < R := by omega
            have hE2 : Hid (L1 = min (min m1 (row.getD (k - 1) 0 + chg (l.getD (x + k - 1) 0).toNat b)) (ed + 1)) := hideG (by rw [HLk.out, hE1.out]; unfold n2F; rw [if_pos (by omega)])
            have HRp : Hid (∀ V : World, Kept (fun _ => False) B0 V → V.cell? ⟨bS, oS + 1 + (k - 1), none⟩ = some (.int .i64 ((row.getD (k - 1) 0 : Nat) : Int))) := hideG (fun V hV => HRow2.out V (k - 1) hk1 hV)
            have hrp := HrE.out (k - 1) hk1
            have hxk : x + k - 1 < s.size := by omega
            have yw := HXl.out (x + k - 1) hxk
            have hwb : (l.getD (x + k - 1) 0).toNat < 256 := UInt8.toNat_lt _
            generalize row.getD (k - 1) 0 = rp at *
            generalize (l.getD (x + k - 1) 0).toNat = wc at *
            have hc1 : chg wc b ≤ 1 := by unfold chg; split <;> omega
            obtain ⟨cg, hcg⟩ : ∃ cg, chg wc b = cg := ⟨_, rfl⟩
            rw [hcg] at hE2 hc1
            obtain ⟨sm, hsm⟩ : ∃ sm, sm = rp + cg := ⟨_, rfl⟩
            have hsb : sm ≤ ed + 2 := by omega
            have hsI : (rp : Int) + (cg : Int) = (sm : Int) := by omega
            obtain ⟨m2, hm2⟩ : ∃ m2, m2 = min m1 sm := ⟨_, rfl⟩
            have M2 := hideG (minN m1 sm)
            rw [← hsm, ← hm2] at hE2
            rw [← hm2] at M2
            have hm2b : m2 ≤ ed + 2 := by rw [hm2]; omega
            have M3 := hideG (minN m2 (ed + 1))
            rw [← hE2.out] at M3
            simp only [Int.natCast_add, Int.cast_ofNat_Int] at M1 M2 M3
            have j1 : (0 : Int) < (k : Int) := by omega
            have j2 : (k : Int) - 1 = ((k - 1 : Nat) : Int) := by omega
            have j3 : (x : Int) + (k : Int) - 1 = ((x + k - 1 : Nat) : Int) := by omega
            have j4 : ((k - 1 : Nat) : Int) < (R : Int) := by omega
            have j5 : ((x + k - 1 : Nat) : Int) < (s.size : Int) := by omega
            have hS6 : Kept (fun _ => False) B0 wr.drew := HG.out.kept.trans (Kept.drewA wr 1) (fun _ f => f.elim)
            have HG6 := hideG (HG.out.later (Kept.drewA wr 1))
            clear hE1 hE2 hm2 HLk HXl hsm
            have u1 : IntKind.i64.wrap ((k - 1 : Nat) : Int) = ((k - 1 : Nat) : Int) := by rw [IntKind.wrap_i64]; omega
            have u2 : IntKind.i64.wrap ((x : Int) + (k : Int)) = (x : Int) + (k : Int) := by clear u1; rw [IntKind.wrap_i64]; omega
            have u3 : IntKind.i64.wrap ((x + k - 1 : Nat) : Int) = ((x + k - 1 : Nat) : Int) := by clear u1 u2; rw [IntKind.wrap_i64]; omega
            have u4 : IntKind.i64.wrap (sm : Int) = (sm : Int) := by clear u1 u2 u3; rw [IntKind.wrap_i64]; omega
            go_wp2_with (first
              | (refine wpList_minA rfl _ _ rfl ((L0 : Int) + 1) (0) (m1 : Int) rfl rfl M1.out ?_))
            refine wp_region_held (S := fun V => Kept (fun _ => False) B0 V) (by kernel_rfl) ?_
            change wpAnyH _ _ _ _ _ _ _ _ (World.drew _)
            refine takeHA (i := 0) (d := 60) (v := .int .i64 (m1 : Int)) rfl rfl (by kernel_rfl) (by kernel_rfl) (by kernel_rfl) (fun _ _ _ h => h) (Or.inl ⟨by rfl, fun V hV => ?_⟩) hS6 ?_
            · (go_simp)
            simp only [Act.put, List.setIfInBounds_toArray, List.set_cons_zero, List.set_cons_succ]
            refine takeHA (i := 1) (d := 61) (v := .slice (some ⟨bS, oS + 1, none⟩) R (c - 1)) rfl rfl (by kernel_rfl) (by kernel_rfl) (by kernel_rfl) (fun _ _ _ h => h) (Or.inl ⟨by rfl, fun V hV => ?_⟩) hS6 ?_
            · (go_simp)
            simp only [Act.put, List.setIfInBounds_toArray, List.set_cons_zero, List.set_cons_succ]
            refine takeHA (i := 2) (d := 62) (v := .int .i64 (k : Int)) rfl rfl (by kernel_rfl) (by kernel_rfl) (by kernel_rfl) (fun _ _ _ h => h) (Or.inl ⟨by rfl, fun V hV => ?_⟩) hS6 ?_
            · (go_simp)
            simp only [Act.put, List.setIfInBounds_toArray, List.set_cons_zero, List.set_cons_succ]
            refine takeHA (i := 3) (d := 63) (v := .int .i64 ((k - 1 : Nat) : Int)) rfl rfl (by kernel_rfl) (by kernel_rfl) (by kernel_rfl) (fun _ _ _ h => h) (Or.inl ⟨by rfl, fun V hV => ?_⟩) hS6 ?_
            · (go_simp)
            simp only [Act.put, List.setIfInBounds_toArray, List.set_cons_zero, List.set_cons_succ]
            refine takeHA (i := 4) (d := 64) (v := .pointer (some ⟨bS, oS + 1 + (k - 1), none⟩)) rfl rfl (by kernel_rfl) (by kernel_rfl) (by kernel_rfl) (fun _ _ _ h => h) (Or.inl ⟨by rfl, fun V hV => ?_⟩) hS6 ?_
            · (go_simp)
            simp only [Act.put, List.setIfInBounds_toArray, List.set_cons_zero, List.set_cons_succ]
            refine takeHA (i := 5) (d := 65) (v := .int .i64 (rp : Int)) rfl rfl (by kernel_rfl) (by kernel_rfl) (by kernel_rfl) (fun _ _ _ h => h) (Or.inl ⟨by rfl, fun V hV => ?_⟩) hS6 ?_
            · (have zr := HRp.out V hV; go_simp)
            simp only [Act.put, List.setIfInBounds_toArray, List.set_cons_zero, List.set_cons_succ]
            refine takeHA (i := 6) (d := 66) (v := .pointer (some ⟨W.heap.size, 0, none⟩)) rfl rfl (by kernel_rfl) (by kernel_rfl) (by kernel_rfl) (fun _ _ _ h => h) (Or.inl ⟨by rfl, fun V hV => ?_⟩) hS6 ?_
            · (go_simp)
            simp only [Act.put, List.setIfInBounds_toArray, List.set_cons_zero, List.set_cons_succ]
            refine takeHA (i := 7) (d := 67) (v := .string s) rfl rfl (by kernel_rfl) (by kernel_rfl) (by kernel_rfl) (fun _ _ _ h => h) (Or.inl ⟨by rfl, fun V hV => ?_⟩) hS6 ?_
            · (obtain ⟨z0, z1⟩ := HBox.out V hV; go_simp)
            simp only [Act.put, List.setIfInBounds_toArray, List.set_cons_zero, List.set_cons_succ]
            refine takeHA (i := 8) (d := 68) (v := .int .i64 (x : Int)) rfl rfl (by kernel_rfl) (by kernel_rfl) (by kernel_rfl) (fun _ _ _ h => h) (Or.inl ⟨by rfl, fun V hV => ?_⟩) hS6 ?_
            · (go_simp)
            simp only [Act.put, List.setIfInBounds_toArray, List.set_cons_zero, List.set_cons_succ]
            refine takeHA (i := 9) (d := 69) (v := .int .i64 (k : Int)) rfl rfl (by kernel_rfl) (by kernel_rfl) (by kernel_rfl) (fun _ _ _ h => h) (Or.inl ⟨by rfl, fun V hV => ?_⟩) hS6 ?_
            · (go_simp)
            simp only [Act.put, List.setIfInBounds_toArray, List.set_cons_zero, List.set_cons_succ]
            refine takeHA (i := 10) (d := 70) (v := .int .i64 ((x : Int) + (k : Int))) rfl rfl (by kernel_rfl) (by kernel_rfl) (by kernel_rfl) (fun _ _ _ h => h) (Or.inl ⟨by rfl, fun V hV => ?_⟩) hS6 ?_
            · (go_simp)
            simp only [Act.put, List.setIfInBounds_toArray, List.set_cons_zero, List.set_cons_succ]
            refine takeHA (i := 11) (d := 71) (v := .int .i64 ((x + k - 1 : Nat) : Int)) rfl rfl (by kernel_rfl) (by kernel_rfl) (by kernel_rfl) (fun _ _ _ h => h) (Or.inl ⟨by rfl, fun V hV => ?_⟩) hS6 ?_
            · (go_simp)
            simp only [Act.put, List.setIfInBounds_toArray, List.set_cons_zero, List.set_cons_succ]
            refine takeHA (i := 12) (d := 72) (v := .int .u8 (wc : Int)) rfl rfl (by kernel_rfl) (by kernel_rfl) (by kernel_rfl) (fun _ _ _ h => h) (Or.inl ⟨by rfl, fun V hV => ?_⟩) hS6 ?_
            · (go_simp)
            simp only [Act.put, List.setIfInBounds_toArray, List.set_cons_zero, List.set_cons_succ]
            refine takeHA (i := 13) (d := 73) (v := .int .u8 (b : Int)) rfl rfl (by kernel_rfl) (by kernel_rfl) (by kernel_rfl) (fun _ _ _ h => h) (Or.inl ⟨by rfl, fun V hV => ?_⟩) hS6 ?_
            · (go_simp)
            simp only [Act.put, List.setIfInBounds_toArray, List.set_cons_zero, List.set_cons_succ]
            refine wpAnyH_all (rs := [14]) (by kernel_rfl) (by simp) ?_
            intro i hi
            obtain rfl : i = 14 := by simpa using hi
            unfold wpOp
            go_simp
            first | refine (changed_any wc b _).mono ?_ | refine Or.inl ((changed_any wc b _).mono ?_)
            rintro e V8 ⟨rfl, e8⟩
            subst e8
            rw [hcg]
            refine ⟨hS6, ?_⟩
            refine takeHA (i := 15) (d := 75) (v := .int .i64 (sm : Int)) rfl rfl (by kernel_rfl) (by kernel_rfl) (by kernel_rfl) (fun _ _ _ h => h) (Or.inl ⟨by rfl, fun V hV => ?_⟩) hS6 ?_
            · (go_simp)
            simp only [Act.put, List.setIfInBounds_toArray, List.set_cons_zero, List.set_cons_succ]
            refine takeHA (i := 16) (d := 76) (v := .int .i64 (m2 : Int)) rfl rfl (by kernel_rfl) (by kernel_rfl) (by kernel_rfl) (fun _ _ _ h => h) (Or.inl ⟨by rfl, fun V hV => ?_⟩) hS6 ?_
            · (first | (rw [M2.out]; go_simp; done) | (rw [M2.out]; go_simp; split <;> omega))
            simp only [Act.put, List.setIfInBounds_toArray, List.set_cons_zero, List.set_cons_succ]
            refine takeHA (i := 17) (d := 13) (v := .int .i64 (m2 : Int)) rfl rfl (by kernel_rfl) (by kernel_rfl) (by kernel_rfl) (fun _ _ _ h => h) (Or.inl ⟨by rfl, fun V hV => ?_⟩) hS6 ?_
            · (go_simp)
            simp only [Act.put, List.setIfInBounds_toArray, List.set_cons_zero, List.set_cons_succ]
            refine wpAnyH_done (by kernel_rfl) ?_ _
            obtain ⟨V0, hV0⟩ : ∃ V0 : World, V0 = wr.drew := ⟨_, rfl⟩
            have eV : wr.drewN 1 = V0 := hV0.symm
            rw [eV] at HG6
            rw [← hV0]
            clear hV0 eV HG hS6 HRp HRow2 HBox u1 u2 u3 u4
            have HG := HG6
            clear HG6
            go_wp2_with (first
              | (refine wpList_minA rfl _ _ rfl (m2 : Int) ((ed : Int) + 1) (L1 : Int) rfl rfl M3.out ?_)
              | (at_builtin; refine wpList_pushI rfl _ _ rfl _ q (nz (x :: ent l x (ed + 1) b row k)) (L1 : Int) rfl HG _ (by first | rfl | simp) rfl (by omega) ?_; clear HG; intro a1 c1 W2 G2; rw [← HP.out] at G2))
            go_roundw
            case rel => exact ⟨k + 1, c1, q + 1, a1, by omega, by rw [HQ.out], by go_num, by rw [HL1.out], rfl, G2⟩
            case measure => simp [intOf]; omega
      · have hkK : k = K := by omega
        subst hkK
        have hq := HQ.out
        subst hq
        have HTr : Hid (∀ V a' c2 (_ : Hid (Gro B0 V 3 1 (.slice a' (k + 1) c2) (k + 1) (iv (nz (x :: ent l x (ed + 1) b row k))))), Calls Tryd.prog 62 #[.slice a' (k + 1) c2, .int .i64 ((ed + 1 : Nat) : Int)] V fun e w' => (∃ a' c', e = .returned (.slice a' (trm (ed + 1) x (ent l x (ed + 1) b row k)).length c') ∧ NsAt w' a' (nz (trm (ed + 1) x (ent l x (ed + 1) b row k))) ∧ (trm (ed + 1) x (ent l x (ed + 1) b row k)).length ≤ c') ∧ Kept (fun _ => False) B0 w') := hideG (fun V a' c2 hG => by
          obtain ⟨g, rfl, _, _⟩ := hG.out.cell (by omega)
          have hcc : k + 1 ≤ c2 := by
            rcases hG.out.own.2 with ⟨e1, _⟩ | ⟨g', cap, cur, e1, _, _, hn, _⟩
            · cases e1
            · simp only [Value.slice.injEq] at e1
              omega
          exact trimmed_any B0 V g c2 x (ed + 1) k _ (ent_len _ _ _ _ _ _).symm hG.out (by omega) (by omega) (by omega) hcc (by omega))
        rw [Int.natCast_add, Int.natCast_one] at HTr
        have CT := HTr.out wr a c' HG
        obtain ⟨T, hT⟩ : ∃ T, T = trm (ed + 1) x (ent l x (ed + 1) b row k) := ⟨_, rfl⟩
        rw [← hT] at CT
        have HT := hideG hT
        clear hT
        have HCT := hideG CT
        clear CT HTr HG HXl HRow2 HBox
        rcases Nat.lt_or_ge R k with hR1 | hR1
        · have i1 : ¬ ((k : Int) ≤ (R : Int)) := by omega
          go_wp2_with (go_at_call 62; refine HCT.out.mono ?_; clear HCT; rintro e W3 ⟨⟨a3, c3, rfl, n3, l3⟩, k3⟩)
          go_ret
          have hT := HT.out
          subst hT
          exact ⟨⟨a3, c3, by rw [nz_len]; rfl, n3, by rw [nz_len]; exact l3⟩, HKB.out.trans k3 (fun _ f => f.elim)⟩
        · have i1 : (k : Int) ≤ (R : Int) := by omega
          have i2 : ¬ ((x : Int) + (k : Int) ≤ (s.size : Int)) := by omega
          go_wp2_with (go_at_call 62; refine HCT.out.mono ?_; clear HCT; rintro e W3 ⟨⟨a3, c3, rfl, n3, l3⟩, k3⟩)
          go_ret
          have hT := HT.out
          subst hT
          exact ⟨⟨a3, c3, by rw [nz_len]; rfl, n3, by rw [nz_len]; exact l3⟩, HKB.out.trans k3 (fun _ f => f.elim)⟩
    end Go.Proofs.YtacmmclamkhpcaaDoor
