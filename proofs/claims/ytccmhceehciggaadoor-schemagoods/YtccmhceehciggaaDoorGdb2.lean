import Derived.Test.YtccmhceehciggaaDoorGda2
namespace Go.Proofs.YtccmhceehciggaaDoor
open Go.ChangeShapes Go.WideShapes Go.ChangeAt Go.RowKit Go.Maps Go.WideMaps

theorem gc_schema {F : List Fd} {xs : List Vl} (h : gschema F = false) : gcode F xs = 4 := by rw [gcode, if_pos h]
theorem gc_many {F : List Fd} {xs : List Vl} (h : gschema F = true) (h2 : 64 < xs.length) : gcode F xs = 2 := by rw [gcode, h, if_neg (by decide), if_pos h2]
theorem gc_list {F : List Fd} {xs : List Vl} (h : gschema F = true) (h2 : ¬ 64 < xs.length) : gcode F xs = lcode F xs := by rw [gcode, h, if_neg (by decide), if_neg h2]
theorem ret_e {u v : Value} (h : v = u) : Ending.returned u = .returned v := by rw [h]
set_option maxRecDepth 20000 in
set_option maxHeartbeats 4000000 in
theorem good_any (F : List Fd) (a : Option Addr) (c : Nat) (xs : List Vl) (va : Option Addr) (vc : Nat) (ad : Nat → Addr) (sy sr : Value) (w : World) (hF : FsAt w a F) (hO : ∀ f ∈ F, f.Ok) (hFl : F.length ≤ 4398046511104)
    (hV : VsAt w va xs) (hVo : ∀ x ∈ xs, x.Ok) (hVl : xs.length ≤ 4398046511104) (hE : Er4 w ad sy sr) :
    Calls Tryd.prog 13 #[.agg #[.slice a F.length c], .slice va xs.length vc] w fun e w' => e = .returned (evOf ad (gcode F xs)) ∧ Kept (fun _ => False) w w' := by
  have KA := Kept.alloc w (.cells #[.slice a F.length c] 24)
  have HK := hideW (check_any F a c _ _ (w.alloc (.cells #[.slice a F.length c] 24)) (hF.kept KA) hO hFl (KA.cell hE.e4 (fun f => f)))
  have HF := hideW hF
  have HO := hideW hO
  have HV := hideW hV
  have HVo := hideW hVo
  have HE := hideW hE
  have hbox : (w.alloc (.cells #[.slice a F.length c] 24)).cell? ⟨w.heap.size, 0, none⟩ = some (.slice a F.length c) := by simp
  have HB := hideW hbox
  clear hF hO hV hVo hE hbox
  cases hG : gschema F with
  | false =>
    have HX := hideW (show evOf ad (gcode F xs) = .iface 91 (.pointer (some (ad 4))) by rw [gc_schema hG, ev_pos ad (by decide)])
    rw [chk_bad _ hG] at HK
    clear hG
    go_enter Tryd.func13, Tryd.ntmps13
    go_wp2_with (go_at_call 9; refine HK.out.mono ?_; clear HK; rintro e W1 ⟨rfl, hk1⟩; have h4 := (HE.out.kept (KA.trans hk1 (fun _ f => f.elim))).e4)
    go_ret
    exact ⟨ret_e HX.out, KA.trans hk1 (fun _ f => f.elim)⟩
  | true =>
    rw [chk_good _ hG] at HK
    by_cases hM : 64 < xs.length
    · have hM' : 64 < (xs.length : Int) := by omega
      have HX := hideW (show evOf ad (gcode F xs) = .iface 91 (.pointer (some (ad 2))) by rw [gc_many hG hM, ev_pos ad (by decide)])
      clear hG hM
      go_enter Tryd.func13, Tryd.ntmps13
      go_wp2_with (go_at_call 9; refine HK.out.mono ?_; clear HK; rintro e W1 ⟨rfl, hk1⟩; have h4 := (HE.out.kept (KA.trans hk1 (fun _ f => f.elim))).e2)
      go_ret
      exact ⟨ret_e HX.out, KA.trans hk1 (fun _ f => f.elim)⟩
    · have hM' : ¬ 64 < (xs.length : Int) := by omega
      have HC := hideW (gc_list hG hM)
      clear hG
      go_enter Tryd.func13, Tryd.ntmps13
      go_wp2_with (first
        | (go_at_call 9; refine HK.out.mono ?_; clear HK; rintro e W1 ⟨rfl, hk1⟩; have hB1 := hk1.cell HB.out (fun f => f))
        | (go_at_call 19; refine (numbers_any F a c _ ((HF.out.kept KA).kept hk1) HO.out hFl).mono ?_; rintro e W2 ⟨B, D, rfl, hm, hN, hk2, hBB⟩; have HM := hideW hm; have HN := hideW hN; clear hm hN))
      have HK2 := hideW (hk1.trans hk2 (fun _ f => f.elim))
      go_loopw [22] (fun i wr => ∃ (k : Nat), k ≤ xs.length ∧ i = .int .i64 k ∧ Hid (lcode F (xs.take k) = 0) ∧ Hid (Kept (fun _ => False) W2 wr)) (fun i _ => xs.length - (intOf i).toNat)
      case atStart => exact ⟨0, by omega, rfl, rfl, hideW (Kept.refl _ _)⟩
      case round =>
        obtain ⟨k, hk, rfl, hL, hK⟩ := hrel
        have hK0 := hideW (HK2.out.trans hK.out (fun _ f => f.elim))
        have hKw := hideW (KA.trans hK0.out (fun _ f => f.elim))
        by_cases hlt : k < xs.length
        · obtain ⟨vb, voff, rfl, hc⟩ := HV.out (by intro e; rw [e] at hlt; simp at hlt)
          obtain ⟨x0, x1⟩ := hc k hlt
          have hxo := HVo.out _ (List.getElem_mem hlt)
          have hnx := lcode_next hlt hL.out
          obtain ⟨x, hx⟩ : ∃ x, x = xs[k] := ⟨_, rfl⟩
          rw [← hx] at x0 x1 hxo hnx
          have y0 := hKw.out.cell x0 (fun f => f)
          have y1 := hKw.out.cell x1 (fun f => f)
          have hn := hxo.n
          have ht := hxo.t
          have NX := hideW hnx
          have HMx := hideW (map_kept HM.out hK.out)
          have hi2 : ((k : Nat) : Int) < (xs.length : Int) := by omega
          have HEr := hideW (HE.out.kept hKw.out)
          have hg1 := World.block_lt_of_cell? wr _ HEr.out.e1
          have hg2 := World.block_lt_of_cell? wr _ HEr.out.e2
          have hg3 := World.block_lt_of_cell? wr _ HEr.out.e3
          clear x0 x1 hc hx hnx hxo
          cases hf : fi F x.n with
          | none =>
            have hH : Maps.has D (.string x.n.data.toList) = false := by rw [HN.out.has]; exact fi_none.1 hf
            have HX := hideW (show evOf ad (gcode F xs) = .iface 91 (.pointer (some (ad 1))) by
              have hv : vcode F x = 1 := by rw [vcode, hf]
              rw [HC.out, NX.out.2 (by rw [hv]; decide), hv, ev_pos ad (by decide)])
            have h1 := HEr.out.e1
            clear hf
            go_wp2_with (first
              | (at_lookup; refine wpList_lookup_own_ok_int _ rfl _ _ 48 rfl 9 3 .i64 lawK Tryd.underlying48 Tryd.underlying3 (zeroE _) B F.length D rfl (HMx.out.alloc _) _ _ rfl (keyOf_string_mk Tryd.underlying9 hn) ?_; intro cc hat hwc; obtain ⟨hcc, -⟩ := look_eq HN.out x.n hat; clear hat hwc)
              | go_in)
            go_ret
            exact ⟨ret_e HX.out, hKw.out.trans (Kept.alloc _ _) (fun _ f => f.elim)⟩
          | some i =>
            have hil := fi_lt hf
            have hH : Maps.has D (.string x.n.data.toList) = true := by
              rw [HN.out.has]
              cases hq : among F x.n with
              | true => rfl
              | false => rw [fi_none.2 hq] at hf; cases hf
            have HFN := hideW (show fiN F x.n = (i : Int) by rw [fiN, hf]; rfl)
            by_cases h4 : 4096 < x.t.size
            · have h4' : 4096 < (x.t.size : Int) := by omega
              have HX := hideW (show evOf ad (gcode F xs) = .iface 91 (.pointer (some (ad 2))) by
                have hv : vcode F x = 2 := by rw [vcode, hf]; simp only; rw [if_pos h4]
                rw [HC.out, NX.out.2 (by rw [hv]; decide), hv, ev_pos ad (by decide)])
              have h2 := HEr.out.e2
              clear hf h4
              go_wp2_with (first
                | (at_lookup; refine wpList_lookup_own_ok_int _ rfl _ _ 48 rfl 9 3 .i64 lawK Tryd.underlying48 Tryd.underlying3 (zeroE _) B F.length D rfl (HMx.out.alloc _) _ _ rfl (keyOf_string_mk Tryd.underlying9 hn) ?_; intro cc hat hwc; obtain ⟨hcc, -⟩ := look_eq HN.out x.n hat; clear hat hwc)
                | go_in)
              go_ret
              exact ⟨ret_e HX.out, hKw.out.trans (Kept.alloc _ _) (fun _ f => f.elim)⟩
            · have h4' : ¬ 4096 < (x.t.size : Int) := by omega
              obtain ⟨b, off, rfl, hcF⟩ := HF.out (by intro e; rw [e] at hil; simp at hil)
              obtain ⟨-, z1, -, -, -⟩ := hcF i hil
              obtain ⟨kd, hkd⟩ : ∃ kd, kd = F[i].k := ⟨_, rfl⟩
              rw [← hkd] at z1
              have HVC := hideW (show vcode F x = if tkB kd x.t then 0 else 3 by rw [vcode, hf]; simp only; rw [if_neg h4, List.getElem?_eq_getElem hil, hkd]; rfl)
              have hilI : ((i : Nat) : Int) < (F.length : Int) := by omega
              clear hf h4 hcF hkd
              go_wp2_with (first
                | (at_lookup; refine wpList_lookup_own_ok_int _ rfl _ _ 48 rfl 9 3 .i64 lawK Tryd.underlying48 Tryd.underlying3 (zeroE _) B F.length D rfl (HMx.out.alloc _) _ _ rfl (keyOf_string_mk Tryd.underlying9 hn) ?_; intro cc hat hwc; obtain ⟨hcc, -⟩ := look_eq HN.out x.n hat; clear hat hwc)
                | go_in)
              rw [HFN.out]
              obtain ⟨Wv, hWv⟩ : ∃ Wv, wr.alloc (.cells #[.string x.n, .string x.t] 41) = Wv := ⟨_, rfl⟩
              have hKv1 : Kept (fun _ => False) wr Wv := by rw [← hWv]; exact Kept.alloc _ _
              have HKv := hideW (hKw.out.trans hKv1 (fun _ f => f.elim))
              have hBv := hKv1.cell (hK0.out.cell HB.out (fun f => f)) (fun f => f)
              have hKv := HKv.out.cell z1 (fun f => f)
              have hTv : Wv.cell? ⟨wr.heap.size, 1, none⟩ = some (.string x.t) := by rw [← hWv]; simp
              have HEv := hideW (HE.out.kept HKv.out)
              have CT : Hid (∀ W, Kept (fun _ => False) Wv W → Calls Tryd.prog 21 #[.int .i64 kd, .string x.t] W fun e W' => e = .returned (.bool (tkB kd x.t)) ∧ Kept (fun _ => False) Wv W') := hideW (fun W q => (takes_any kd x.t ad sy sr W ht (HEv.out.kept q)).mono (fun e W' h => ⟨h.1, q.trans h.2 (fun _ f => f.elim)⟩))
              rw [hWv]
              clear hWv y0 y1 hcc
              cases hT : tkB kd x.t with
              | true =>
                rw [hT] at CT HVC
                have HL2 := hideW (NX.out.1 (by rw [HVC.out]; rfl))
                refine wp_region_held (S := fun W => Kept (fun _ => False) Wv W) (by kernel_rfl) ?_
                change wpAnyH _ _ _ _ _ _ _ _ (World.drew _)
                have hSd : Kept (fun _ => False) Wv Wv.drew := Kept.drew _
                refine takeZ (i := 0) (d := 41) (v := .pointer (some ⟨w.heap.size, 0, none⟩)) rfl rfl (by kernel_rfl) (by kernel_rfl) (by kernel_rfl) (fun _ _ _ h => h) (Or.inl ⟨by rfl, fun W hW => ?_⟩) hSd ?_
                · go_simp
                try simp only [Act.put, List.setIfInBounds_toArray, List.set_cons_zero, List.set_cons_succ]
                refine takeZ (i := 1) (d := 42) (v := .slice (some ⟨b, off, none⟩) F.length c) rfl rfl (by kernel_rfl) (by kernel_rfl) (by kernel_rfl) (fun _ _ _ h => h) (Or.inl ⟨by rfl, fun W hW => ?_⟩) hSd ?_
                · have hcW := hW.cell hBv (fun f => f)
                  go_simp
                try simp only [Act.put, List.setIfInBounds_toArray, List.set_cons_zero, List.set_cons_succ]
                refine takeZ (i := 2) (d := 43) (v := .int .i64 (i : Nat)) rfl rfl (by kernel_rfl) (by kernel_rfl) (by kernel_rfl) (fun _ _ _ h => h) (Or.inl ⟨by rfl, fun W hW => ?_⟩) hSd ?_
                · go_simp
                try simp only [Act.put, List.setIfInBounds_toArray, List.set_cons_zero, List.set_cons_succ]
                refine takeZ (i := 3) (d := 44) (v := .pointer (some ⟨b, off + i * 5, none⟩)) rfl rfl (by kernel_rfl) (by kernel_rfl) (by kernel_rfl) (fun _ _ _ h => h) (Or.inl ⟨by rfl, fun W hW => ?_⟩) hSd ?_
                · go_simp
                try simp only [Act.put, List.setIfInBounds_toArray, List.set_cons_zero, List.set_cons_succ]
                refine takeZ (i := 4) (d := 45) (v := .pointer (some ⟨b, off + i * 5 + 1, none⟩)) rfl rfl (by kernel_rfl) (by kernel_rfl) (by kernel_rfl) (fun _ _ _ h => h) (Or.inl ⟨by rfl, fun W hW => ?_⟩) hSd ?_
                · go_simp
                try simp only [Act.put, List.setIfInBounds_toArray, List.set_cons_zero, List.set_cons_succ]
                refine takeZ (i := 5) (d := 46) (v := .int .i64 kd) rfl rfl (by kernel_rfl) (by kernel_rfl) (by kernel_rfl) (fun _ _ _ h => h) (Or.inl ⟨by rfl, fun W hW => ?_⟩) hSd ?_
                · have hcW := hW.cell hKv (fun f => f)
                  go_simp
                try simp only [Act.put, List.setIfInBounds_toArray, List.set_cons_zero, List.set_cons_succ]
                refine takeZ (i := 6) (d := 47) (v := .pointer (some ⟨wr.heap.size, 1, none⟩)) rfl rfl (by kernel_rfl) (by kernel_rfl) (by kernel_rfl) (fun _ _ _ h => h) (Or.inl ⟨by rfl, fun W hW => ?_⟩) hSd ?_
                · go_simp
                try simp only [Act.put, List.setIfInBounds_toArray, List.set_cons_zero, List.set_cons_succ]
                refine takeZ (i := 7) (d := 48) (v := .string x.t) rfl rfl (by kernel_rfl) (by kernel_rfl) (by kernel_rfl) (fun _ _ _ h => h) (Or.inl ⟨by rfl, fun W hW => ?_⟩) hSd ?_
                · have hcW := hW.cell hTv (fun f => f)
                  go_simp
                try simp only [Act.put, List.setIfInBounds_toArray, List.set_cons_zero, List.set_cons_succ]
                refine wpAnyH_all (rs := [8]) (by kernel_rfl) (by simp) ?_
                intro i' hi'
                obtain rfl : i' = 8 := by simpa using hi'
                unfold wpOp
                go_simp
                first | refine (CT.out _ hSd).mono ?_ | refine Or.inl ((CT.out _ hSd).mono ?_)
                rintro e W7 ⟨rfl, hk7⟩
                refine ⟨hk7, ?_⟩
                try simp only [Act.put, List.setIfInBounds_toArray, List.set_cons_zero, List.set_cons_succ]
                refine takeZ (i := 9) (d := 50) (v := .bool false) rfl rfl (by kernel_rfl) (by kernel_rfl) (by kernel_rfl) (fun _ _ _ h => h) (Or.inl ⟨by rfl, fun W hW => ?_⟩) hk7 ?_
                · go_simp
                try simp only [Act.put, List.setIfInBounds_toArray, List.set_cons_zero, List.set_cons_succ]
                refine wpAnyH_done (by kernel_rfl) ?_ _
                go_wp2
                go_roundw
                case rel => exact ⟨k + 1, by omega, by go_num, HL2, hideW ((hK.out.trans hKv1 (fun _ f => f.elim)).trans hk7 (fun _ f => f.elim))⟩
                case measure => simp [intOf]; omega
              | false =>
                rw [hT] at CT HVC
                have HX := hideW (show evOf ad (gcode F xs) = .iface 91 (.pointer (some (ad 3))) by
                  have hv : vcode F x = 3 := HVC.out
                  rw [HC.out, NX.out.2 (by rw [hv]; decide), hv, ev_pos ad (by decide)])
                refine wp_region_held (S := fun W => Kept (fun _ => False) Wv W) (by kernel_rfl) ?_
                change wpAnyH _ _ _ _ _ _ _ _ (World.drew _)
                have hSd : Kept (fun _ => False) Wv Wv.drew := Kept.drew _
                refine takeZ (i := 0) (d := 41) (v := .pointer (some ⟨w.heap.size, 0, none⟩)) rfl rfl (by kernel_rfl) (by kernel_rfl) (by kernel_rfl) (fun _ _ _ h => h) (Or.inl ⟨by rfl, fun W hW => ?_⟩) hSd ?_
                · go_simp
                try simp only [Act.put, List.setIfInBounds_toArray, List.set_cons_zero, List.set_cons_succ]
                refine takeZ (i := 1) (d := 42) (v := .slice (some ⟨b, off, none⟩) F.length c) rfl rfl (by kernel_rfl) (by kernel_rfl) (by kernel_rfl) (fun _ _ _ h => h) (Or.inl ⟨by rfl, fun W hW => ?_⟩) hSd ?_
                · have hcW := hW.cell hBv (fun f => f)
                  go_simp
                try simp only [Act.put, List.setIfInBounds_toArray, List.set_cons_zero, List.set_cons_succ]
                refine takeZ (i := 2) (d := 43) (v := .int .i64 (i : Nat)) rfl rfl (by kernel_rfl) (by kernel_rfl) (by kernel_rfl) (fun _ _ _ h => h) (Or.inl ⟨by rfl, fun W hW => ?_⟩) hSd ?_
                · go_simp
                try simp only [Act.put, List.setIfInBounds_toArray, List.set_cons_zero, List.set_cons_succ]
                refine takeZ (i := 3) (d := 44) (v := .pointer (some ⟨b, off + i * 5, none⟩)) rfl rfl (by kernel_rfl) (by kernel_rfl) (by kernel_rfl) (fun _ _ _ h => h) (Or.inl ⟨by rfl, fun W hW => ?_⟩) hSd ?_
                · go_simp
                try simp only [Act.put, List.setIfInBounds_toArray, List.set_cons_zero, List.set_cons_succ]
                refine takeZ (i := 4) (d := 45) (v := .pointer (some ⟨b, off + i * 5 + 1, none⟩)) rfl rfl (by kernel_rfl) (by kernel_rfl) (by kernel_rfl) (fun _ _ _ h => h) (Or.inl ⟨by rfl, fun W hW => ?_⟩) hSd ?_
                · go_simp
                try simp only [Act.put, List.setIfInBounds_toArray, List.set_cons_zero, List.set_cons_succ]
                refine takeZ (i := 5) (d := 46) (v := .int .i64 kd) rfl rfl (by kernel_rfl) (by kernel_rfl) (by kernel_rfl) (fun _ _ _ h => h) (Or.inl ⟨by rfl, fun W hW => ?_⟩) hSd ?_
                · have hcW := hW.cell hKv (fun f => f)
                  go_simp
                try simp only [Act.put, List.setIfInBounds_toArray, List.set_cons_zero, List.set_cons_succ]
                refine takeZ (i := 6) (d := 47) (v := .pointer (some ⟨wr.heap.size, 1, none⟩)) rfl rfl (by kernel_rfl) (by kernel_rfl) (by kernel_rfl) (fun _ _ _ h => h) (Or.inl ⟨by rfl, fun W hW => ?_⟩) hSd ?_
                · go_simp
                try simp only [Act.put, List.setIfInBounds_toArray, List.set_cons_zero, List.set_cons_succ]
                refine takeZ (i := 7) (d := 48) (v := .string x.t) rfl rfl (by kernel_rfl) (by kernel_rfl) (by kernel_rfl) (fun _ _ _ h => h) (Or.inl ⟨by rfl, fun W hW => ?_⟩) hSd ?_
                · have hcW := hW.cell hTv (fun f => f)
                  go_simp
                try simp only [Act.put, List.setIfInBounds_toArray, List.set_cons_zero, List.set_cons_succ]
                refine wpAnyH_all (rs := [8]) (by kernel_rfl) (by simp) ?_
                intro i' hi'
                obtain rfl : i' = 8 := by simpa using hi'
                unfold wpOp
                go_simp
                first | refine (CT.out _ hSd).mono ?_ | refine Or.inl ((CT.out _ hSd).mono ?_)
                rintro e W7 ⟨rfl, hk7⟩
                refine ⟨hk7, ?_⟩
                try simp only [Act.put, List.setIfInBounds_toArray, List.set_cons_zero, List.set_cons_succ]
                refine takeZ (i := 9) (d := 50) (v := .bool true) rfl rfl (by kernel_rfl) (by kernel_rfl) (by kernel_rfl) (fun _ _ _ h => h) (Or.inl ⟨by rfl, fun W hW => ?_⟩) hk7 ?_
                · go_simp
                try simp only [Act.put, List.setIfInBounds_toArray, List.set_cons_zero, List.set_cons_succ]
                refine wpAnyH_done (by kernel_rfl) ?_ _
                have h3 := (HEv.out.kept hk7).e3
                go_wp2
                go_ret
                exact ⟨ret_e HX.out, HKv.out.trans hk7 (fun _ f => f.elim)⟩
        · obtain rfl : k = xs.length := by omega
          have HX := hideW (show evOf ad (gcode F xs) = .nilIface by have e := hL.out; rw [List.take_length] at e; rw [HC.out, e]; rfl)
          go_wp2
          go_ret
          exact ⟨ret_e HX.out, hKw.out⟩
end Go.Proofs.YtccmhceehciggaaDoor
