import Derived.Test.YtjkbongfampgjaaGreatDoorPoo
namespace Go.Proofs.YtjkbongfampgjaaGreatDoor
open Go.ChangeShapes Go.WideShapes Go.ChangeAt Go.RowKit

set_option maxRecDepth 20000 in
set_option maxHeartbeats 8000000 in
theorem readSkips_any {l : List Int} {p br : Nat} {v : Value} {ad : Nat → Addr} (n : Nat) (w0 w : World) (h : Rd w br v l p) (hl : l.length ≤ 1073741824) (hn : n ≤ 1073741824) (hE : ErP w0 ad) (hO : Old w0 w) (hb : w0.heap.size ≤ br) :
    Calls Tryz.prog 65 #[.pointer (some ⟨br, 0, none⟩), .int .i64 n] w fun e w' => rsPost br v l w e w' (rsk l (nbp n) n (-1) p) := by
  obtain ⟨R, hR⟩ : ∃ R, R = rsk l (nbp n) n (-1) p := ⟨_, rfl⟩
  rw [← hR]
  have HR := hideP hR
  have HH := hideP h
  have HE := hideP hE
  have HO := hideP hO
  have hbr : br < w.heap.size := lt_of_block h.blk
  have HVB : Hid (∀ k, v.ownBlock = some k → k < w.heap.size) := hideP (fun k hk => (h.own.lt k hk).2)
  clear hR h hE hO
  go_enter Tryz.func65, Tryz.ntmps65
  go_wp2
  go_loopw [6, 7, 8, 9] (fun v6 v7 v8 v9 wr => ∃ (acc : List Sk) (j q sm : Nat) (b lz : Int) (ua : Option Addr) (uc : Nat), v6 = .slice ua j uc ∧ v7 = .int .i64 b ∧ v8 = .int .i64 sm ∧ v9 = .int .i64 lz ∧ lz = (n : Int) - 16 * (j : Int) ∧ j ≤ nbp n ∧ -1 ≤ b ∧ b ≤ 2147483646 ∧ sm ≤ j * 1073741824 ∧ Hid (sm = szs acc) ∧ Hid (wr.ownsRow w.heap.size 80 4 (.slice ua j uc) j (scs 0 acc)) ∧ Hid (Rd wr br v l q) ∧ Hid (R = apS acc (rsk l (nbp n - j) (n - 16 * j) b q)) ∧ Hid (Kept (fun i => i = br) w wr)) (fun _ _ _ v9 _ => (intOf v9).toNat)
  case atStart =>
    refine ⟨[], 0, p, 0, -1, n, none, 0, rfl, rfl, rfl, rfl, by omega, by omega, by omega, by omega, by omega, hideP rfl, hideP (gro_nil w _ 4).own, HH, hideP ?_, hideP (Kept.refl _ _)⟩
    rw [HR.out, Nat.sub_zero, Nat.mul_zero, Nat.sub_zero]
    cases rsk l (nbp n) n (-1) p with
    | none => rfl
    | some x => obtain ⟨F, r⟩ := x; rfl
  case round =>
    obtain ⟨acc, j, q, sm, b, lz, ua, uc, rfl, rfl, rfl, rfl, hlz, hj, hb1, hb2, hsm, HSm, HOw, HRd, HQ, HK⟩ := hrel
    clear HH HR
    have HOr := hideP (HO.out.one HK.out hb)
    have HEr := hideP (HE.out.old HOr.out)
    have hzr := HK.out.size
    have hjb : j ≤ 67108865 := by unfold nbp at hj; omega
    by_cases hlt : 0 < lz
    · obtain ⟨mm, hmm⟩ : ∃ mm, nbp n - j = mm + 1 := ⟨nbp n - j - 1, by unfold nbp; omega⟩
      have HMM := hideP hmm
      have hmb : (2147483646 : Int) - 1 - b = 2147483645 - b := by omega
      have HLz := hideP hlz
      have hlz2 : lz ≤ 1073741824 := by omega
      clear hmm hlz
      cases hu : upn (2147483646 - 1 - b) l q with
      | none =>
        have C := hideP (readBehind_n b 2147483646 wr HRd.out hb1 (by omega) (by omega) (by omega) HEr.out hu)
        rw [hmb] at hu
        have HRn : Hid (R = none) := hideP (by rw [HQ.out, HMM.out, rsk_n1 hu]; rfl)
        clear hu HQ
        go_wp2_with (go_at_call 86; refine C.out.mono ?_; clear C; rintro e W ⟨⟨y, rfl⟩, hK2⟩; have HK2 := hideP (HK.out.trans hK2 (fun _ f => f.elim)); clear hK2)
        go_ret2
        rw [HRn.out]
        exact ⟨rfl, HK2.out⟩
      | some gq =>
        obtain ⟨g, q1⟩ := gq
        have C := hideP (readBehind_s b 2147483646 wr HRd.out hb1 (by omega) (by omega) (by omega) HEr.out hu)
        obtain ⟨_, _, _, hgx⟩ := upn_rduP hu
        obtain ⟨b', hb'⟩ : ∃ b', b' = b + 1 + (g : Int) := ⟨_, rfl⟩
        rw [← hb'] at C
        rw [hmb] at hu
        have hb3 : -1 ≤ b' ∧ b' ≤ 2147483646 := by omega
        obtain ⟨hb31, hb32⟩ := hb3
        have HB' := hideP hb'
        have HU := hideP hu
        obtain ⟨lf, hlf⟩ : ∃ lf, lf = l.length - q1 := ⟨_, rfl⟩
        have hlf2 : lf ≤ 1073741824 := by omega
        have CL : Hid (∀ W, Rd W br v l q1 → Calls Tryz.prog 64 #[.pointer (some ⟨br, 0, none⟩)] W fun e w' => e = .returned (.int .i64 (lf : Int)) ∧ ∃ n, w' = W.drewN n) := hideP (fun W hW => by rw [hlf]; exact left_any br v l q1 W hW)
        clear hu hb' hgx
        cases hv : upn ((l.length - q1 : Nat) : Int) l q1 with
        | none =>
          have HRn : Hid (R = none) := hideP (by rw [HQ.out, HMM.out, rsk_n2 HU.out hv]; rfl)
          rw [← hlf] at hv
          have CU : Hid (∀ W, Rd W br v l q1 → ErP W ad → ∃ b, Calls Tryz.prog 63 #[.pointer (some ⟨br, 0, none⟩), .int .i64 (lf : Int)] W fun e w' => e = .returned (.tuple #[.int .i64 0, .iface 173 (.pointer (some b))]) ∧ Kept (fun _ => False) W w') := hideP (fun W hW hEW => upto_nP W hW (by omega) hEW hv)
          clear hv HQ hlf
          go_wp2_with (first
            | (go_at_call 86; refine C.out.mono ?_; clear C; rintro e W1 ⟨rfl, hR1, hK1⟩; have HR1 := hideP hR1; have HK1 := hideP (HK.out.trans hK1 (fun i hi => .inl hi)); have CL1 := hideP (CL.out W1 hR1); clear hR1 hK1 CL)
            | (go_at_call 64; refine CL1.out.mono ?_; clear CL1; rintro e W2 ⟨rfl, nn, rfl⟩; have HR2 := hideP (HR1.out.drewN nn); have HK2 := hideP (HK1.out.trans (Kept.drewN W1 nn) (fun _ f => f.elim)); obtain ⟨bb, CU2⟩ := CU.out _ HR2.out (HE.out.old (HO.out.one HK2.out hb)); have CU3 := hideP CU2; clear CU2 CU)
            | (go_at_call 63; refine CU3.out.mono ?_; clear CU3; rintro e W3 ⟨rfl, hK3⟩; have HK3 := hideP (HK2.out.trans hK3 (fun _ f => f.elim)); clear hK3))
          go_ret2
          rw [HRn.out]
          exact ⟨rfl, HK3.out⟩
        | some zr =>
          obtain ⟨z, r⟩ := zr
          obtain ⟨mn, hmn⟩ : ∃ mn : Nat, mn = min (n - 16 * j) 16 := ⟨_, rfl⟩
          have HMn : Hid ((mn : Int) = if (16 : Int) < lz then 16 else lz) := hideP (by have := HLz.out; rw [hmn]; split <;> omega)
          obtain ⟨_, _, _, hzx⟩ := upn_rduP hv
          have HQ2 : Hid (R = apS (acc ++ [⟨b', mn, z⟩]) (rsk l (nbp n - (j + 1)) (n - 16 * (j + 1)) b' r)) := hideP (by
            rw [HQ.out, HMM.out, rsk_s HU.out hv, apS_step, ← HB'.out, hmn, show nbp n - (j + 1) = mm by have := HMM.out; omega, show n - 16 * j - 16 = n - 16 * (j + 1) by omega])
          have hz2 : z ≤ 1073741824 := by omega
          have HSm2 : Hid (sm + z = szs (acc ++ [⟨b', mn, z⟩])) := hideP (by rw [szs_append, ← HSm.out]; simp [szs])
          have HSc : Hid (scs 0 (acc ++ [⟨b', mn, z⟩]) = scs 0 acc ++ [.int .i64 b', .int .i64 (mn : Int), .int .i64 (sm : Int), .int .i64 (z : Int)]) := hideP (by rw [scs_snoc, Nat.zero_add, ← HSm.out])
          rw [← hlf] at hv
          have CU : Hid (∀ W, Rd W br v l q1 → ErP W ad → Calls Tryz.prog 63 #[.pointer (some ⟨br, 0, none⟩), .int .i64 (lf : Int)] W fun e w' => e = .returned (.tuple #[.int .i64 z, .nilIface]) ∧ Rd w' br v l r ∧ Kept (fun i => i = br) W w') := hideP (fun W hW hEW => upto_sP W hW (by omega) hEW hv)
          clear hv HQ hlf hmn hzx
          go_wp2_with (first
            | (go_at_call 86; refine C.out.mono ?_; clear C; rintro e W1 ⟨rfl, hR1, hK1⟩; have HR1 := hideP hR1; have HK1 := hideP (HK.out.trans hK1 (fun i hi => .inl hi)); have HO1 := hideP (hK1.row HOw.out (fun i hi e => by have := (HOw.out.lt i hi).1; omega)); have CL1 := hideP (CL.out W1 hR1); clear hR1 hK1 CL)
            | (go_at_call 64; refine CL1.out.mono ?_; clear CL1; rintro e W2 ⟨rfl, nn, rfl⟩; have HR2 := hideP (HR1.out.drewN nn); have HK2 := hideP (HK1.out.trans (Kept.drewN W1 nn) (fun _ f => f.elim)); have HO2 := hideP ((Kept.drewN W1 nn).row HO1.out (fun _ _ f => f)); have CU3 := hideP (CU.out _ HR2.out (HE.out.old (HO.out.one HK2.out hb))); clear CU HO1)
            | (go_at_call 63; refine CU3.out.mono ?_; clear CU3; rintro e W3 ⟨rfl, hR3, hK3⟩; have HR3 := hideP hR3; have HK3 := hideP (HK2.out.trans hK3 (fun i hi => .inl hi)); have HO3 := hideP (hK3.row HO2.out (fun i hi e => by have := (HO2.out.lt i hi).1; omega)); have s3 := HK3.out.size; clear hR3 hK3 HO2)
            | (at_builtin; refine wpList_pushS rfl _ _ rfl _ j (scs 0 acc) b' (mn : Int) (sm : Int) (z : Int) rfl HO3 s3 _ (by first | rfl | simp) rfl (by omega) ?_; intro gb c' W5 O5 K5)
            | (refine wpList_minP rfl _ _ rfl lz 16 mn rfl rfl HMn.out ?_))
          have HR5 := hideP (HR3.out.kept K5.out (fun e => by have := (HO3.out.lt _ e).1; omega) (fun i hi e => by have := (HO3.out.lt _ e).1; have := HVB.out i hi; omega))
          have HK5 := hideP (HK3.out.trans K5.out (fun i hi => .inr (HO3.out.lt i hi).1))
          go_roundw
          case rel => exact ⟨acc ++ [⟨b', mn, z⟩], j + 1, r, sm + z, b', lz - 16, _, _, rfl, rfl, by go_num, by first | rfl | go_num, by have := HLz.out; omega, by have := HMM.out; omega, hb31, hb32, by omega, HSm2, hideP (by rw [HSc.out]; exact O5.out), HR5, HQ2, HK5⟩
          case measure => simp [intOf]; omega
    · have hje : j = nbp n := by unfold nbp at hj ⊢; omega
      have HRs : Hid (R = some (acc, q)) := hideP (by rw [HQ.out, hje, Nat.sub_self, rsk, apS, List.append_nil])
      have hlen := HOw.out.1
      rw [scs_length] at hlen
      have hjl : j = acc.length := by omega
      have HJ := hideP hjl
      have hql := HRd.out.le
      have HB0 : Hid (0 < j → ∃ g, ua = some ⟨g, 0, none⟩ ∧ w.heap.size ≤ g ∧ Skw wr g acc q 0) := hideP (fun h0 => by
        rcases HOw.out.2 with ⟨e1, _⟩ | ⟨g, cap, cur, e1, hg, _⟩
        · simp only [Value.slice.injEq] at e1
          omega
        · simp only [Value.slice.injEq] at e1
          obtain ⟨rfl, _, rfl⟩ := e1
          exact ⟨g, rfl, hg, Skw.start HOw.out q⟩)
      clear hlen hjl hje HQ hlz
      go_wp2
      go_loopw [54] (fun v54 wr => ∃ k : Nat, v54 = .int .i64 k ∧ k ≤ j ∧ Hid (0 < j → ∃ g, ua = some ⟨g, 0, none⟩ ∧ w.heap.size ≤ g ∧ Skw wr g acc q k) ∧ Hid (Rd wr br v l q) ∧ Hid (Kept (fun i => i = br) w wr)) (fun v54 _ => j - (intOf v54).toNat)
      case atStart => exact ⟨0, rfl, by omega, HB0, HRd, HK⟩
      case round =>
        obtain ⟨k, rfl, hk, HBk, HRk, HKk⟩ := hrel
        clear HB0 HRd HK HOw HOr HEr
        by_cases hkj : k < j
        · have hkk : (k : Int) < (j : Int) := by omega
          obtain ⟨g, rfl, hg, hSk⟩ := HBk.out (by omega)
          obtain ⟨cc, ff⟩ := hSk.cell (by rw [← HJ.out]; exact hkj)
          have hPut := hSk.put (by rw [← HJ.out]; exact hkj)
          obtain ⟨a0, ha0⟩ : ∃ a0, a0 = szs (acc.take k) := ⟨_, rfl⟩
          rw [← ha0] at cc hPut
          have ha1 : a0 ≤ sm := by
            have := szs_append (acc.take k) (acc.drop k)
            rw [List.take_append_drop] at this
            have := HSm.out
            omega
          have HSk := hideP hSk
          obtain ⟨y2, hy2⟩ : ∃ y2, y2 = q + a0 := ⟨_, rfl⟩
          rw [← hy2] at hPut
          have ks := Kept.setCell wr.drew ⟨g, k * 4 + 2, none⟩ (.int .i64 (y2 : Int))
          have kd := Kept.drewN wr 1
          have HR2 := hideP ((HRk.out.drewN 1).kept ks (fun e => by simp only at e; omega) (fun i hi e => by simp only at e; have := HVB.out i hi; omega))
          have HK2 := hideP ((HKk.out.trans kd (fun _ f => f.elim)).trans ks (fun i hi => .inr (by simp only at hi; omega)))
          have HB2 : Hid (0 < j → ∃ g', (some (⟨g, 0, none⟩ : Addr)) = some ⟨g', 0, none⟩ ∧ w.heap.size ≤ g' ∧ Skw (wr.drew.setCell ⟨g, k * 4 + 2, none⟩ (.int .i64 (y2 : Int))) g' acc q (k + 1)) := hideP (fun _ => ⟨g, rfl, hg, by
            have := (hSk.kept kd (fun f => f)).put (by rw [← HJ.out]; exact hkj)
            rw [← ha0, ← hy2] at this
            exact this⟩)
          have CA := at_any br v l q wr.drew (HRk.out.drewN 1)
          have cc' : wr.drew.cell? ⟨g, k * 4 + 2, none⟩ = some (.int .i64 (a0 : Int)) := kd.cell cc (fun f => f)
          have ff' : wr.drew.frozen? ⟨g, k * 4 + 2, none⟩ = false := ff
          have eq2 : (a0 : Int) + (q : Int) = (y2 : Int) := by omega
          have eq3 : (y2 : Int) ≤ 9223372036854775807 := by omega
          have ew : IntKind.i64.wrap ((a0 : Int) + (q : Int)) = (y2 : Int) := by rw [IntKind.wrap_i64]; omega
          have HEW := hideP ew
          have HE2 := hideP eq2
          clear ew eq2
          clear hy2 hSk ks kd ha0 hPut HBk HRk HKk
          go_wp2_with fail
          refine wp_region_held (S := AnyZ) (by kernel_rfl) ?_
          change wpAnyH _ _ _ _ _ _ _ _ (World.drew _)
          refine takeZ (i := 0) (d := 57) (v := .slice (some ⟨g, 0, none⟩) j uc) rfl rfl (by kernel_rfl) (by kernel_rfl) (by kernel_rfl) (fun _ _ _ h => h) (Or.inl ⟨by rfl, fun W hW => ?_⟩) (anyZ _) ?_
          · (go_simp)
          simp only [Act.put, List.setIfInBounds_toArray, List.set_cons_zero, List.set_cons_succ]
          refine takeZ (i := 1) (d := 58) (v := .int .i64 k) rfl rfl (by kernel_rfl) (by kernel_rfl) (by kernel_rfl) (fun _ _ _ h => h) (Or.inl ⟨by rfl, fun W hW => ?_⟩) (anyZ _) ?_
          · (go_simp)
          simp only [Act.put, List.setIfInBounds_toArray, List.set_cons_zero, List.set_cons_succ]
          refine takeZ (i := 2) (d := 59) (v := .pointer (some ⟨g, k * 4, none⟩)) rfl rfl (by kernel_rfl) (by kernel_rfl) (by kernel_rfl) (fun _ _ _ h => h) (Or.inl ⟨by rfl, fun W hW => ?_⟩) (anyZ _) ?_
          · (go_simp)
          simp only [Act.put, List.setIfInBounds_toArray, List.set_cons_zero, List.set_cons_succ]
          refine takeZ (i := 3) (d := 60) (v := .pointer (some ⟨g, k * 4 + 2, none⟩)) rfl rfl (by kernel_rfl) (by kernel_rfl) (by kernel_rfl) (fun _ _ _ h => h) (Or.inl ⟨by rfl, fun W hW => ?_⟩) (anyZ _) ?_
          · (go_simp)
          simp only [Act.put, List.setIfInBounds_toArray, List.set_cons_zero, List.set_cons_succ]
          refine takeZ (i := 5) (d := 62) (v := .pointer (some ⟨br, 0, none⟩)) rfl rfl (by kernel_rfl) (by kernel_rfl) (by kernel_rfl) (fun _ _ _ h => h) (Or.inl ⟨by rfl, fun W hW => ?_⟩) (anyZ _) ?_
          · (go_simp)
          simp only [Act.put, List.setIfInBounds_toArray, List.set_cons_zero, List.set_cons_succ]
          refine takeZ (i := 6) (d := 63) (v := .pointer (some ⟨br, 0, none⟩)) rfl rfl (by kernel_rfl) (by kernel_rfl) (by kernel_rfl) (fun _ _ _ h => h) (Or.inl ⟨by rfl, fun W hW => ?_⟩) (anyZ _) ?_
          · (go_simp)
          simp only [Act.put, List.setIfInBounds_toArray, List.set_cons_zero, List.set_cons_succ]
          refine takeZ (i := 7) (d := 64) (v := .pointer (some ⟨br, 0, none⟩)) rfl rfl (by kernel_rfl) (by kernel_rfl) (by kernel_rfl) (fun _ _ _ h => h) (Or.inl ⟨by rfl, fun W hW => ?_⟩) (anyZ _) ?_
          · (go_simp)
          simp only [Act.put, List.setIfInBounds_toArray, List.set_cons_zero, List.set_cons_succ]
          generalize wr.drew = V at *
          refine wpAnyH_all (rs := [4, 8]) (by kernel_rfl) (by simp) ?_
          intro i hi
          obtain rfl | rfl : i = 4 ∨ i = 8 := by simpa using hi
          · unfold wpOp
            go_simp
            first | refine Or.inl ⟨anyZ _, ?_⟩ | refine ⟨anyZ _, ?_⟩
            refine wpAnyH_all (rs := [8]) (by kernel_rfl) (by simp) ?_
            intro i hi
            obtain rfl : i = 8 := by simpa using hi
            unfold wpOp
            go_simp
            refine Or.inl (CA.mono ?_)
            rintro e V ⟨rfl, rfl⟩
            refine ⟨anyZ _, ?_⟩
            refine takeZ (i := 9) (d := 66) (v := .int .i64 y2) rfl rfl (by kernel_rfl) (by kernel_rfl) (by kernel_rfl) (fun _ _ _ h => h) (Or.inl ⟨by rfl, fun W hW => ?_⟩) (anyZ _) ?_
            · (go_simp; first | exact HEW.out | (rw [HE2.out]) | (rw [HE2.out, IntKind.wrap_i64]; omega))
            simp only [Act.put, List.setIfInBounds_toArray, List.set_cons_zero, List.set_cons_succ]
            refine takeZ (i := 10) (d := 67) (v := .pointer (some ⟨g, k * 4, none⟩)) rfl rfl (by kernel_rfl) (by kernel_rfl) (by kernel_rfl) (fun _ _ _ h => h) (Or.inl ⟨by rfl, fun W hW => ?_⟩) (anyZ _) ?_
            · (go_simp)
            simp only [Act.put, List.setIfInBounds_toArray, List.set_cons_zero, List.set_cons_succ]
            refine takeZ (i := 11) (d := 68) (v := .pointer (some ⟨g, k * 4 + 2, none⟩)) rfl rfl (by kernel_rfl) (by kernel_rfl) (by kernel_rfl) (fun _ _ _ h => h) (Or.inl ⟨by rfl, fun W hW => ?_⟩) (anyZ _) ?_
            · (go_simp)
            simp only [Act.put, List.setIfInBounds_toArray, List.set_cons_zero, List.set_cons_succ]
            refine wpAnyH_all (rs := [12]) (by kernel_rfl) (by simp) ?_
            intro i hi
            obtain rfl : i = 12 := by simpa using hi
            unfold wpOp
            go_simp
            first | refine Or.inl ⟨anyZ _, ?_⟩ | refine ⟨anyZ _, ?_⟩
            refine wpAnyH_done (by kernel_rfl) ?_ _
            go_wp2
            go_roundw
            case rel => exact ⟨k + 1, by go_num, by omega, HB2, HR2, HK2⟩
            case measure => simp [intOf]; omega
          · unfold wpOp
            go_simp
            refine Or.inl (CA.mono ?_)
            rintro e V ⟨rfl, rfl⟩
            refine ⟨anyZ _, ?_⟩
            refine wpAnyH_all (rs := [4]) (by kernel_rfl) (by simp) ?_
            intro i hi
            obtain rfl : i = 4 := by simpa using hi
            unfold wpOp
            go_simp
            first | refine Or.inl ⟨anyZ _, ?_⟩ | refine ⟨anyZ _, ?_⟩
            refine takeZ (i := 9) (d := 66) (v := .int .i64 y2) rfl rfl (by kernel_rfl) (by kernel_rfl) (by kernel_rfl) (fun _ _ _ h => h) (Or.inl ⟨by rfl, fun W hW => ?_⟩) (anyZ _) ?_
            · (go_simp; first | exact HEW.out | (rw [HE2.out]) | (rw [HE2.out, IntKind.wrap_i64]; omega))
            simp only [Act.put, List.setIfInBounds_toArray, List.set_cons_zero, List.set_cons_succ]
            refine takeZ (i := 10) (d := 67) (v := .pointer (some ⟨g, k * 4, none⟩)) rfl rfl (by kernel_rfl) (by kernel_rfl) (by kernel_rfl) (fun _ _ _ h => h) (Or.inl ⟨by rfl, fun W hW => ?_⟩) (anyZ _) ?_
            · (go_simp)
            simp only [Act.put, List.setIfInBounds_toArray, List.set_cons_zero, List.set_cons_succ]
            refine takeZ (i := 11) (d := 68) (v := .pointer (some ⟨g, k * 4 + 2, none⟩)) rfl rfl (by kernel_rfl) (by kernel_rfl) (by kernel_rfl) (fun _ _ _ h => h) (Or.inl ⟨by rfl, fun W hW => ?_⟩) (anyZ _) ?_
            · (go_simp)
            simp only [Act.put, List.setIfInBounds_toArray, List.set_cons_zero, List.set_cons_succ]
            refine wpAnyH_all (rs := [12]) (by kernel_rfl) (by simp) ?_
            intro i hi
            obtain rfl : i = 12 := by simpa using hi
            unfold wpOp
            go_simp
            first | refine Or.inl ⟨anyZ _, ?_⟩ | refine ⟨anyZ _, ?_⟩
            refine wpAnyH_done (by kernel_rfl) ?_ _
            go_wp2
            go_roundw
            case rel => exact ⟨k + 1, by go_num, by omega, HB2, HR2, HK2⟩
            case measure => simp [intOf]; omega
        · have hkk : ¬ (k : Int) < (j : Int) := by omega
          have hkj2 : k = j := by omega
          have HSkA : Hid (SkAt wr ua acc q) := hideP (by
            by_cases h0 : 0 < j
            · obtain ⟨g, rfl, _, hSk⟩ := HBk.out h0
              rw [hkj2, HJ.out] at hSk
              exact hSk.at
            · intro hne
              exact absurd (List.eq_nil_of_length_eq_zero (by rw [← HJ.out]; omega)) hne)
          obtain ⟨lf, hlf⟩ : ∃ lf, lf = l.length - q := ⟨_, rfl⟩
          have CL := hideP (left_any br v l q wr HRk.out)
          rw [← hlf] at CL
          have hlf2 : lf ≤ 1073741824 := by omega
          have HB9 : Hid (decide (szs acc = l.length - q) = decide (sm = lf)) := hideP (by rw [HSm.out, hlf])
          clear hkj2 hlf
          by_cases hsl : sm = lf
          · have e1 : ((sm : Int) == (lf : Int)) = true := by rw [hsl]; simp
            have HB8 : Hid (decide (szs acc = l.length - q) = true) := hideP (by rw [HB9.out]; exact decide_eq_true hsl)
            subst hsl
            go_wp2_with (go_at_call 64; refine CL.out.mono ?_; clear CL; rintro e W ⟨rfl, nn, rfl⟩)
            go_ret2
            rw [HRs.out]
            have kd := Kept.drewN wr nn
            exact ⟨ua, uc, by rw [HB8.out, ← HJ.out]; rfl, HSkA.out.kept kd, HRk.out.drewN nn, HKk.out.trans kd (fun _ f => f.elim)⟩
          · have e1 : ((sm : Int) == (lf : Int)) = false := by simp; omega
            have e2 : ¬ (sm : Int) = (lf : Int) := by omega
            have HB8 : Hid (decide (szs acc = l.length - q) = false) := hideP (by rw [HB9.out]; exact decide_eq_false hsl)
            go_wp2_with (go_at_call 64; refine CL.out.mono ?_; clear CL; rintro e W ⟨rfl, nn, rfl⟩)
            go_ret2
            rw [HRs.out]
            have kd := Kept.drewN wr nn
            exact ⟨ua, uc, by rw [HB8.out, ← HJ.out]; rfl, HSkA.out.kept kd, HRk.out.drewN nn, HKk.out.trans kd (fun _ f => f.elim)⟩
end Go.Proofs.YtjkbongfampgjaaGreatDoor
