import Derived.Test.YtnkmjhcddegkhaaDoorChge
import Derived.Test.YtnkmjhcddegkhaaDoorLvt
import Derived.Test.YtnkmjhcddegkhaaDoorAnyz
namespace Go.Proofs.YtnkmjhcddegkhaaDoor
open Go.ChangeShapes Go.WideShapes Go.ChangeAt Go.RowKit

set_option maxRecDepth 20000 in
set_option maxHeartbeats 16000000 in
theorem gaps_in (TT : Nat → ByteArray) (f : Fd) (fb fo fn fc jj : Nat) (xs : List Vl) (va : Option Addr) (n vc : Nat) (w : World) (hj : jj < fn) (hF : FdAt w fb (fo + jj * 5) f) (hX : VsAt w va xs) (hn : n = xs.length) (hn2 : n ≤ 1048576) (hXt : ∀ v ∈ xs, v.t.size ≤ 1048576) (hS : StopsT TT w) (hE : Es2 w) :
    Calls Tryd.prog 4 #[.agg #[.slice (some ⟨fb, fo, none⟩) fn fc], .int .i64 jj, .slice va n vc] w fun e w' => e = .returned (.bool true) ∧ Kept (fun _ => False) w w' := by
  have CL := fun w => hideV (livesT_any w)
  have CF : Hid (∀ W, Kept (fun _ => False) w W → Calls Tryd.prog 11 #[.agg #[.slice (some ⟨fb, fo, none⟩) fn fc], .int .i64 jj, .slice va n vc] W fun e w' => ∃ a c, e = .returned (.slice a (frun TT f xs).L.length c) ∧ Gro W w' 29 5 (.slice a (frun TT f xs).L.length c) (frun TT f xs).L.length (tkvs (frun TT f xs).L)) := hideV (fun W k => field_at TT f fb fo fn fc jj xs va n vc W hj (hF.kept k) (hX.kept k) hn hn2 hXt (hS.kept k (fun f => f)) (hE.kept k))
  have hji : (jj : Int) < (fn : Int) := by omega
  have hj0 : ¬ (jj : Int) < 0 := by omega
  have hjd : decide ((fn : Int) ≤ (jj : Int)) = false := decide_eq_false (by omega)
  have hjd2 : decide (fn ≤ jj) = false := decide_eq_false (by omega)
  have KB := hideV (Kept.alloc w (.cells #[.slice (some ⟨fb, fo, none⟩) fn fc] 35))
  have BX : Hid ((w.alloc (.cells #[.slice (some ⟨fb, fo, none⟩) fn fc] 35)).cell? ⟨w.heap.size, 0, none⟩ = some (.slice (some ⟨fb, fo, none⟩) fn fc)) := hideV (by simp)
  obtain ⟨nm, kd, ffo, fst, fse⟩ := f
  have HF := hideV hF
  have HX := hideV hX
  have HXt := hideV hXt
  have HN := hideV hn
  have HS := hideV hS
  have HE := hideV hE
  clear hX hXt hn hS hE hF
  obtain ⟨f, hff⟩ : ∃ f, f = (⟨nm, kd, ffo, fst, fse⟩ : Fd) := ⟨_, rfl⟩
  rw [← hff] at CF HF
  have HFF := hideV hff
  clear hff
  obtain ⟨G, hG⟩ : ∃ G, G = (frun TT f xs).L := ⟨_, rfl⟩
  rw [← hG] at CF
  have HGe := hideV hG
  clear hG
  obtain ⟨ng, hng⟩ : ∃ ng, ng = G.length := ⟨_, rfl⟩
  rw [← hng] at CF
  have HNg := hideV hng
  clear hng
  go_enter Tryd.func4, Tryd.ntmps4
  go_wp2_with (first
    | (go_at_call 5; refine (CL _).out.mono ?_; clear CL; rintro e W0 ⟨rfl, K0⟩; have KC := hideV (KB.out.trans K0 (fun _ f => f.elim)); have bx0 := K0.cell BX.out (fun f => f))
    | (go_at_call 11; refine (CF.out _ KC.out).mono ?_; clear CF; rintro e W1 ⟨a1, c1, rfl, G1⟩; have bx1 := G1.kept.cell bx0 (fun f => f); have KW := hideV (KC.out.trans G1.kept (fun _ f => f.elim)); have G1 := hideV G1))
  have BX1 := hideV bx1
  have HF1 := hideV (HF.out.kept KW.out)
  have HX1 := hideV (HX.out.kept KW.out)
  have HS1 := hideV (HS.out.kept KW.out (fun f => f))
  have HE1 := hideV (HE.out.kept KW.out)
  clear bx0 bx1 BX HF HX HS HE KB KC
  generalize w.heap.size = b0 at *
  go_loopw [8, 9, 10, 39] (fun v8 v9 v10 i wr => ∃ (k m b : Nat) (fi : Bool) (la : Int), k ≤ n ∧ m ≤ k * 1048577 ∧ b ≤ k * 1048593 ∧ i = .int .i64 k ∧ v8 = .int .i64 m ∧ v9 = .bool fi ∧ v10 = .int .i64 la ∧ (fi = true → b = 0) ∧ 0 ≤ la ∧ (0 < m → la + 17 ≤ b) ∧ Hid (m = (frun TT f (xs.take k)).L.length ∧ b = (frun TT f (xs.take k)).b) ∧ Hid (Kept (fun _ => False) W1 wr)) (fun _ _ _ i _ => n - (intOf i).toNat)
  case atStart => exact ⟨0, 0, 0, true, 0, by omega, by omega, by omega, rfl, rfl, rfl, rfl, fun _ => rfl, by omega, by omega, hideV ⟨rfl, rfl⟩, Kept.refl _ _⟩
  case round =>
    obtain ⟨k, m, b, fi, la, hk, hmk, hbk, rfl, rfl, rfl, rfl, hfi, hla0, hla, HM, KK⟩ := hrel
    by_cases hlt : k < n
    · have hlt2 : k < xs.length := by rw [← HN.out]; exact hlt
      obtain ⟨vb, vo, rfl, hc⟩ := HX1.out (by intro e; rw [e] at hlt2; simp at hlt2)
      obtain ⟨z0, z1⟩ := hc k hlt2
      have z0 := KK.out.cell z0 (fun f => f)
      have z1 := KK.out.cell z1 (fun f => f)
      have hvt := HXt.out _ (List.getElem_mem hlt2)
      have hmb := mine_bounds TT f _ hvt
      have HR := hideV (frun_next TT f xs k hlt2)
      have HI := hideV (frun_i TT f xs k (by omega))
      have hki : (k : Int) < (n : Int) := by omega
      have HP := hideV (frun_pre TT f xs (k + 1))
      generalize xs[k] = v at *
      obtain ⟨vn, vt⟩ := v
      simp only at z0 z1 hvt
      obtain ⟨e0, e1, e2, e3, e4⟩ := HF1.out.kept KK.out
      have bx := KK.out.cell BX1.out (fun f => f)
      have e0 : wr.cell? ⟨fb, fo + jj * 5, none⟩ = some (.string nm) := by rw [HFF.out] at e0; exact e0
      have KA : Hid (Kept (fun _ => False) wr (wr.alloc (.cells #[.string vn, .string vt] 39))) := hideV (Kept.alloc _ _)
      have a0 := KA.out.cell e0 (fun f => f)
      have abx := KA.out.cell bx (fun f => f)
      clear hc e1 e2 e3 e4
      by_cases hnm : vn = nm
      · subst hnm
        have hq : (vn.toList == vn.toList) = true := beq_self_eq_true _
        have hq2 : (vn.toList != vn.toList) = false := by rw [bne, hq]; rfl
        obtain ⟨tl, htl⟩ : ∃ tl, tl = vt.data.toList := ⟨_, rfl⟩
        have hxt : vt = bq tl := by rw [htl]; rfl
        have hlen : tl.length ≤ 1099511627776 := by rw [htl, Array.length_toList]; exact Nat.le_trans hvt (by decide)
        have hM : mine TT f ⟨vn, vt⟩ = ofL TT kd ffo fst fse tl := by rw [HFF.out, htl]; rfl
        have hW : wrds f ⟨vn, vt⟩ = ofN kd tl := by rw [HFF.out, htl]; rfl
        have CT : Hid (∀ W, Kept (fun _ => False) W1 W → Calls Tryd.prog 6 #[.agg #[.string vn, .int .i64 kd, .bool ffo, .bool fst, .bool fse], .string vt] W fun e w' => ∃ a c, e = .returned (.slice a (ofL TT kd ffo fst fse tl).length c) ∧ Gro W w' 29 5 (.slice a (ofL TT kd ffo fst fse tl).length c) (ofL TT kd ffo fst fse tl).length (tkvs (ofL TT kd ffo fst fse tl))) := hideV (fun W q => by
          have := of_any TT vn kd ffo fst fse tl W hlen (HS1.out.kept q (fun f => f)) (HE1.out.kept q)
          rw [← hxt] at this
          exact this)
        have HRi := hideV (of_ris TT kd ffo fst fse tl)
        have HR2 : Hid ((frun TT f (xs.take (k + 1))).L = (frun TT f (xs.take k)).L ++ (ofL TT kd ffo fst fse tl).map (shT k b) ∧ (frun TT f (xs.take (k + 1))).b = b + ofN kd tl + 16) := hideV (by
          rw [HR.out]; unfold fstep
          rw [if_pos (show vn = f.n by rw [HFF.out]), HI.out, ← HM.out.2, hM, hW]
          exact ⟨rfl, rfl⟩)
        rw [hM, hW] at hmb
        have HFv : Hid (∀ W, Kept (fun _ => False) W1 W → FdAt W fb (fo + jj * 5) ⟨vn, kd, ffo, fst, fse⟩) := hideV (fun W q => by have := HF1.out.kept q; rw [HFF.out] at this; exact this)
        clear HR HI HX1 HXt HS1 HE1 hM hW htl hxt hlen
        generalize ofL TT kd ffo fst fse tl = M at *
        generalize ofN kd tl = nw at *
        obtain ⟨nl, hnl⟩ : ∃ nl, nl = M.length := ⟨_, rfl⟩
        rw [← hnl] at CT hmb
        have HNL := hideV hnl
        clear hnl
        obtain ⟨hmb1, hmb2⟩ := hmb
        go_wp2
        go_region
        go_wp2
        obtain ⟨Wv, hWv⟩ : ∃ Wv, (wr.alloc (.cells #[.string vn, .string vt] 39)).drew = Wv := ⟨_, rfl⟩
        have KV : Hid (Kept (fun _ => False) W1 Wv) := hideV (by rw [← hWv]; exact (KK.out.trans KA.out (fun _ f => f.elim)).trans (Kept.drew _) (fun _ f => f.elim))
        have hTv : Wv.cell? ⟨wr.heap.size, 1, none⟩ = some (.string vt) := by rw [← hWv]; show (wr.alloc _).cell? _ = _; simp
        have hBv := KV.out.cell BX1.out (fun f => f)
        rw [hWv]
        clear hWv z0 z1 a0 abx e0 bx KA
        generalize wr.heap.size = bv at *
        refine wp_region_held (S := fun W => Kept (fun _ => False) Wv W) (by kernel_rfl) ?_
        change wpAnyH _ _ _ _ _ _ _ _ (World.drew _)
        have hSd : Kept (fun _ => False) Wv Wv.drew := Kept.drew _
        refine takeZ (i := 0) (d := 53) (v := .pointer (some ⟨b0, 0, none⟩)) rfl rfl (by kernel_rfl) (by kernel_rfl) (by kernel_rfl) (fun _ _ _ h => h) (Or.inl ⟨by rfl, fun W hW => ?_⟩) hSd ?_
        · go_simp
        try simp only [Act.put, List.setIfInBounds_toArray, List.set_cons_zero, List.set_cons_succ]
        refine takeZ (i := 1) (d := 54) (v := .slice (some ⟨fb, fo, none⟩) fn fc) rfl rfl (by kernel_rfl) (by kernel_rfl) (by kernel_rfl) (fun _ _ _ h => h) (Or.inl ⟨by rfl, fun W hW => ?_⟩) hSd ?_
        · have hcW := hW.cell hBv (fun f => f)
          go_simp
        try simp only [Act.put, List.setIfInBounds_toArray, List.set_cons_zero, List.set_cons_succ]
        refine takeZ (i := 2) (d := 55) (v := .int .i64 (jj : Nat)) rfl rfl (by kernel_rfl) (by kernel_rfl) (by kernel_rfl) (fun _ _ _ h => h) (Or.inl ⟨by rfl, fun W hW => ?_⟩) hSd ?_
        · go_simp
        try simp only [Act.put, List.setIfInBounds_toArray, List.set_cons_zero, List.set_cons_succ]
        refine takeZ (i := 3) (d := 56) (v := .pointer (some ⟨fb, fo + jj * 5, none⟩)) rfl rfl (by kernel_rfl) (by kernel_rfl) (by kernel_rfl) (fun _ _ _ h => h) (Or.inl ⟨by rfl, fun W hW => ?_⟩) hSd ?_
        · go_simp
        try simp only [Act.put, List.setIfInBounds_toArray, List.set_cons_zero, List.set_cons_succ]
        refine takeZ (i := 4) (d := 57) (v := .agg #[.string vn, .int .i64 kd, .bool ffo, .bool fst, .bool fse]) rfl rfl (by kernel_rfl) (by kernel_rfl) (by kernel_rfl) (fun _ _ _ h => h) (Or.inl ⟨by rfl, fun W hW => ?_⟩) hSd ?_
        · obtain ⟨y0, y1, y2, y3, y4⟩ := HFv.out W (KV.out.trans hW (fun _ f => f.elim))
          simp only at y0 y1 y2 y3 y4
          go_simp
        try simp only [Act.put, List.setIfInBounds_toArray, List.set_cons_zero, List.set_cons_succ]
        refine takeZ (i := 5) (d := 58) (v := .pointer (some ⟨bv, 1, none⟩)) rfl rfl (by kernel_rfl) (by kernel_rfl) (by kernel_rfl) (fun _ _ _ h => h) (Or.inl ⟨by rfl, fun W hW => ?_⟩) hSd ?_
        · go_simp
        try simp only [Act.put, List.setIfInBounds_toArray, List.set_cons_zero, List.set_cons_succ]
        refine takeZ (i := 6) (d := 59) (v := .string vt) rfl rfl (by kernel_rfl) (by kernel_rfl) (by kernel_rfl) (fun _ _ _ h => h) (Or.inl ⟨by rfl, fun W hW => ?_⟩) hSd ?_
        · have hcW := hW.cell hTv (fun f => f)
          go_simp
        try simp only [Act.put, List.setIfInBounds_toArray, List.set_cons_zero, List.set_cons_succ]
        refine wpAnyH_all (rs := [7]) (by kernel_rfl) (by simp) ?_
        intro i' hi'
        obtain rfl : i' = 7 := by simpa using hi'
        unfold wpOp
        go_simp
        have CT2 : Calls Tryd.prog 6 #[.agg #[.string vn, .int .i64 kd, .bool ffo, .bool fst, .bool fse], .string vt] Wv.drew fun e w' => (∃ a c, e = .returned (.slice a nl c) ∧ Gro Wv.drew w' 29 5 (.slice a nl c) nl (tkvs M)) := CT.out _ (KV.out.trans hSd (fun _ f => f.elim))
        first | refine CT2.mono ?_ | refine Or.inl (CT2.mono ?_)
        clear CT CT2
        rintro e W3 ⟨a3, c3, rfl, G3⟩
        have hk3 : Kept (fun _ => False) Wv W3 := hSd.trans G3.kept (fun _ f => f.elim)
        refine ⟨hk3, ?_⟩
        try simp only [Act.put, List.setIfInBounds_toArray, List.set_cons_zero, List.set_cons_succ]
        refine takeZ (i := 8) (d := 13) (v := .slice a3 nl c3) rfl rfl (by kernel_rfl) (by kernel_rfl) (by kernel_rfl) (fun _ _ _ h => h) (Or.inl ⟨by rfl, fun W hW => ?_⟩) hk3 ?_
        · go_simp
        try simp only [Act.put, List.setIfInBounds_toArray, List.set_cons_zero, List.set_cons_succ]
        refine wpAnyH_done (by kernel_rfl) ?_ _
        have K13 := hideV (KV.out.trans hk3 (fun _ f => f.elim))
        have G3 := hideV G3
        have hm41 : m ≤ 1099512676352 := by have := Nat.mul_le_mul_right 1048577 (Nat.le_trans hk hn2); omega
        have hb41 : b ≤ 1099529453568 := by have := Nat.mul_le_mul_right 1048593 (Nat.le_trans hk hn2); omega
        clear KK KV hTv hBv hSd hk3 HFv
        go_wp2
        go_loopw [8, 10, 14, 63] (fun v8 v10 v14 ix w4 => ∃ (j mm : Nat) (lb sh : Int), j ≤ nl ∧ mm = m + j ∧ ix = .int .i64 j ∧ v8 = .int .i64 mm ∧ v10 = .int .i64 lb ∧ v14 = .int .i64 sh ∧ Hid ((j = 0 → lb = la) ∧ (0 < j → sh = b ∧ ∃ h : j - 1 < M.length, lb = M[j - 1].p + b)) ∧ Hid (Kept (fun _ => False) W3 w4)) (fun _ _ _ ix _ => nl - (intOf ix).toNat)
        case atStart => exact ⟨0, m, la, 0, by omega, rfl, rfl, rfl, rfl, rfl, hideV ⟨fun _ => rfl, fun h => by omega⟩, Kept.refl _ _⟩
        case round =>
          obtain ⟨j, mm, lb, sh, hj1, hmm, rfl, rfl, rfl, rfl, HJ, K4⟩ := hrel
          by_cases hjl : j < nl
          · have hjl2 : j < M.length := by rw [← HNL.out]; exact hjl
            have HAt : Hid (∃ hl : mm < G.length, G[mm] = shT k b M[j]) := hideV (by
              obtain ⟨R, hR⟩ := HP.out
              rw [← HGe.out, HR2.out.1] at hR
              obtain ⟨hl, he⟩ := pre_at hR HM.out.1 (j := j) (by rw [List.length_map]; exact hjl2)
              subst hmm
              exact ⟨hl, by rw [he, List.getElem_map]⟩)
            obtain ⟨g3, rfl⟩ := G3.out.some (by omega)
            obtain ⟨t0, t1, t2, t3, t4⟩ := (G3.out.later K4.out).tok hjl2
            obtain ⟨hml, hme⟩ := HAt.out
            have hmg : mm < ng := by rw [HNg.out]; exact hml
            obtain ⟨g1, rfl⟩ := G1.out.some (by omega)
            obtain ⟨u0, u1, u2, u3, u4⟩ := ((G1.out.later K13.out).later K4.out).tok hml
            rw [hme] at u0 u1 u2 u3 u4
            have hp := HRi.out.2 _ (List.getElem_mem hjl2)
            have HLA : Hid (0 ≤ lb ∧ (0 < mm → lb + 1 ≤ M[j].p + b) ∧ (j = 0 → 0 < mm → lb + 16 ≤ M[j].p + b)) := hideV (by
              by_cases h0 : j = 0
              · have := HJ.out.1 h0
                exact ⟨by omega, fun h => by have := hla (by omega); omega, fun _ h => by have := hla (by omega); omega⟩
              · obtain ⟨_, h1, h2⟩ := HJ.out.2 (by omega)
                have h3 := ris_lt HRi.out (i := j - 1) (j := j) (by omega) hjl2
                have h4 := HRi.out.2 _ (List.getElem_mem h1)
                exact ⟨by omega, fun _ => by omega, fun h => by omega⟩)
            have HSH : Hid (0 < j → sh = b) := hideV (fun h => (HJ.out.2 h).1)
            have HJn : Hid (∀ p : Int, p = M[j].p + b → ((j + 1 = 0 → p = la) ∧ (0 < j + 1 → (b : Int) = b ∧ ∃ h : j + 1 - 1 < M.length, p = M[j + 1 - 1].p + b))) := hideV (fun p e => ⟨fun h => by omega, fun _ => ⟨rfl, by simpa using hjl2, by simpa using e⟩⟩)
            have hji2 : (j : Int) < (nl : Int) := by omega
            have hmg2 : (mm : Int) < (ng : Int) := by omega
            have hmg3 : ¬ (ng : Int) ≤ (mm : Int) := by omega
            clear HAt hme hml HJ HP HR2
            generalize M[j] = X at *
            obtain ⟨xt, xv, xp, xs', xe⟩ := X
            simp only [shT] at t0 t1 t2 t3 t4 u0 u1 u2 u3 u4 hp HLA HJn
            have hwr : IntKind.i64.wrap (xp + (b : Int)) = xp + (b : Int) := by rw [IntKind.wrap_i64]; omega
            have hsub : IntKind.i64.wrap (xp + (b : Int) - xp) = (b : Int) := by rw [IntKind.wrap_i64]; omega
            have hsub2 : xp + (b : Int) - xp = (b : Int) := by omega
            have hbw : IntKind.i64.wrap (b : Int) = (b : Int) := by rw [IntKind.wrap_i64]; omega
            obtain ⟨hlb0, hlb1, hlb2⟩ := HLA.out
            have HHJ := hideV (HJn.out _ rfl)
            clear HLA HJn HRi G1 G3
            have hmmb : mm ≤ 1099514000000 := by omega
            have HMM := hideV hmm
            clear hmm
            have KT := hideV (Kept.alloc wr (.cells #[.string xt, .int .i64 xv, .int .i64 xp, .int .i64 xs', .int .i64 xe] 29))
            have q0 := KT.out.cell u0 (fun f => f)
            have q1 := KT.out.cell u1 (fun f => f)
            have q2 := KT.out.cell u2 (fun f => f)
            have q3 := KT.out.cell u3 (fun f => f)
            have q4 := KT.out.cell u4 (fun f => f)
            by_cases h0 : j = 0
            · subst h0
              by_cases hm0 : mm = 0
              · have hA0 : ¬ (0 : Int) < (mm : Int) := by omega
                have hA1 : decide ((0 : Int) < (mm : Int)) = false := decide_eq_false (by omega)
                have hA2 : decide (0 < mm) = false := decide_eq_false (by omega)
                have hA3 : ¬ 0 < mm := by omega
                clear hm0
                cases fi
                · clear hfi
                  go_wp2
                  go_region
                  go_wp2
                  obtain ⟨W6, hW6⟩ : ∃ W6, W6 = (wr.alloc (.cells #[.string xt, .int .i64 (k : Nat), .int .i64 (xp + b), .int .i64 xs', .int .i64 xe] 29)).drew := ⟨_, rfl⟩
                  have K6 : Hid (Kept (fun _ => False) wr W6) := hideV (by rw [hW6]; exact (Kept.alloc _ _).trans (Kept.drew _) (fun _ f => f.elim))
                  have d0 : W6.cell? ⟨wr.heap.size, 0, none⟩ = some (.string xt) := by rw [hW6]; show (wr.alloc _).cell? _ = _; simp
                  have d1 : W6.cell? ⟨wr.heap.size, 1, none⟩ = some (.int .i64 (k : Nat)) := by rw [hW6]; show (wr.alloc _).cell? _ = _; simp
                  have d2 : W6.cell? ⟨wr.heap.size, 2, none⟩ = some (.int .i64 (xp + b)) := by rw [hW6]; show (wr.alloc _).cell? _ = _; simp
                  have d3 : W6.cell? ⟨wr.heap.size, 3, none⟩ = some (.int .i64 xs') := by rw [hW6]; show (wr.alloc _).cell? _ = _; simp
                  have d4 : W6.cell? ⟨wr.heap.size, 4, none⟩ = some (.int .i64 xe) := by rw [hW6]; show (wr.alloc _).cell? _ = _; simp
                  have r0 := K6.out.cell u0 (fun f => f)
                  have r1 := K6.out.cell u1 (fun f => f)
                  have r2 := K6.out.cell u2 (fun f => f)
                  have r3 := K6.out.cell u3 (fun f => f)
                  have r4 := K6.out.cell u4 (fun f => f)
                  rw [← hW6]
                  clear hW6 u0 u1 u2 u3 u4 q0 q1 q2 q3 q4 t0 t1 t2 t3 t4 KT
                  generalize wr.heap.size = bt at *
                  go_quiet (fail)
                  have d2' : (W6.drewN nq).cell? ⟨bt, 2, none⟩ = some (.int .i64 (xp + b)) := d2
                  have KD : Hid (Kept (fun _ => False) W6 (W6.drewN nq)) := hideV (by have k := Kept.refl (fun _ => False) W6; exact ⟨k.os, k.tape, k.output, k.size, k.block⟩)
                  clear d0 d1 d2 d3 d4 r0 r1 r2 r3 r4
                  generalize W6.drewN nq = W7 at d2' KD ⊢
                  go_wp2
                  go_roundw
                  case rel => exact ⟨0 + 1, mm + 1, xp + b, b, hjl, (by have := HMM.out; omega), by go_num, by go_num, rfl, rfl, hideV ⟨HHJ.out.1, fun h => ⟨rfl, (HHJ.out.2 h).2⟩⟩, hideV ((K4.out.trans K6.out (fun _ f => f.elim)).trans KD.out (fun _ f => f.elim))⟩
                  case measure => simp [intOf]; omega
                · have hbz : ((b : Int) != 0) = false := by rw [hfi rfl]; rfl
                  clear hfi
                  go_wp2
                  go_region
                  go_wp2
                  obtain ⟨W6, hW6⟩ : ∃ W6, W6 = (wr.alloc (.cells #[.string xt, .int .i64 (k : Nat), .int .i64 (xp + b), .int .i64 xs', .int .i64 xe] 29)).drew := ⟨_, rfl⟩
                  have K6 : Hid (Kept (fun _ => False) wr W6) := hideV (by rw [hW6]; exact (Kept.alloc _ _).trans (Kept.drew _) (fun _ f => f.elim))
                  have d0 : W6.cell? ⟨wr.heap.size, 0, none⟩ = some (.string xt) := by rw [hW6]; show (wr.alloc _).cell? _ = _; simp
                  have d1 : W6.cell? ⟨wr.heap.size, 1, none⟩ = some (.int .i64 (k : Nat)) := by rw [hW6]; show (wr.alloc _).cell? _ = _; simp
                  have d2 : W6.cell? ⟨wr.heap.size, 2, none⟩ = some (.int .i64 (xp + b)) := by rw [hW6]; show (wr.alloc _).cell? _ = _; simp
                  have d3 : W6.cell? ⟨wr.heap.size, 3, none⟩ = some (.int .i64 xs') := by rw [hW6]; show (wr.alloc _).cell? _ = _; simp
                  have d4 : W6.cell? ⟨wr.heap.size, 4, none⟩ = some (.int .i64 xe) := by rw [hW6]; show (wr.alloc _).cell? _ = _; simp
                  have r0 := K6.out.cell u0 (fun f => f)
                  have r1 := K6.out.cell u1 (fun f => f)
                  have r2 := K6.out.cell u2 (fun f => f)
                  have r3 := K6.out.cell u3 (fun f => f)
                  have r4 := K6.out.cell u4 (fun f => f)
                  rw [← hW6]
                  clear hW6 u0 u1 u2 u3 u4 q0 q1 q2 q3 q4 t0 t1 t2 t3 t4 KT
                  generalize wr.heap.size = bt at *
                  go_quiet (fail)
                  have d2' : (W6.drewN nq).cell? ⟨bt, 2, none⟩ = some (.int .i64 (xp + b)) := d2
                  have KD : Hid (Kept (fun _ => False) W6 (W6.drewN nq)) := hideV (by have k := Kept.refl (fun _ => False) W6; exact ⟨k.os, k.tape, k.output, k.size, k.block⟩)
                  clear d0 d1 d2 d3 d4 r0 r1 r2 r3 r4
                  generalize W6.drewN nq = W7 at d2' KD ⊢
                  go_wp2
                  go_roundw
                  case rel => exact ⟨0 + 1, mm + 1, xp + b, b, hjl, (by have := HMM.out; omega), by go_num, by go_num, rfl, rfl, hideV ⟨HHJ.out.1, fun h => ⟨rfl, (HHJ.out.2 h).2⟩⟩, hideV ((K4.out.trans K6.out (fun _ f => f.elim)).trans KD.out (fun _ f => f.elim))⟩
                  case measure => simp [intOf]; omega
              · have hfi0 : fi = false := by
                  cases fi
                  · rfl
                  · have h1 := hfi rfl; have h2 := HMM.out; have h3 := hla (by omega); omega
                subst hfi0
                clear hfi
                have hmp : 0 < mm := by omega
                have hlC1 := hlb1 hmp
                have hlC2 := hlb2 rfl hmp
                have hA1 : decide ((0 : Int) < (mm : Int)) = true := decide_eq_true (by omega)
                have hA2 : decide (0 < mm) = true := decide_eq_true (by omega)
                have hw1 : IntKind.i64.wrap (lb + 1) = lb + 1 := by rw [IntKind.wrap_i64]; omega
                have hw16 : IntKind.i64.wrap (lb + 16) = lb + 16 := by rw [IntKind.wrap_i64]; omega
                have hd1 : decide (xp + (b : Int) < lb + 1) = false := decide_eq_false (by omega)
                have hd16 : decide (xp + (b : Int) < lb + 16) = false := decide_eq_false (by omega)
                clear hm0 hlb1 hlb2
                go_wp2
                go_region
                go_wp2
                obtain ⟨W6, hW6⟩ : ∃ W6, W6 = (wr.alloc (.cells #[.string xt, .int .i64 (k : Nat), .int .i64 (xp + b), .int .i64 xs', .int .i64 xe] 29)).drew := ⟨_, rfl⟩
                have K6 : Hid (Kept (fun _ => False) wr W6) := hideV (by rw [hW6]; exact (Kept.alloc _ _).trans (Kept.drew _) (fun _ f => f.elim))
                have d0 : W6.cell? ⟨wr.heap.size, 0, none⟩ = some (.string xt) := by rw [hW6]; show (wr.alloc _).cell? _ = _; simp
                have d1 : W6.cell? ⟨wr.heap.size, 1, none⟩ = some (.int .i64 (k : Nat)) := by rw [hW6]; show (wr.alloc _).cell? _ = _; simp
                have d2 : W6.cell? ⟨wr.heap.size, 2, none⟩ = some (.int .i64 (xp + b)) := by rw [hW6]; show (wr.alloc _).cell? _ = _; simp
                have d3 : W6.cell? ⟨wr.heap.size, 3, none⟩ = some (.int .i64 xs') := by rw [hW6]; show (wr.alloc _).cell? _ = _; simp
                have d4 : W6.cell? ⟨wr.heap.size, 4, none⟩ = some (.int .i64 xe) := by rw [hW6]; show (wr.alloc _).cell? _ = _; simp
                have r0 := K6.out.cell u0 (fun f => f)
                have r1 := K6.out.cell u1 (fun f => f)
                have r2 := K6.out.cell u2 (fun f => f)
                have r3 := K6.out.cell u3 (fun f => f)
                have r4 := K6.out.cell u4 (fun f => f)
                rw [← hW6]
                clear hW6 u0 u1 u2 u3 u4 q0 q1 q2 q3 q4 t0 t1 t2 t3 t4 KT
                generalize wr.heap.size = bt at *
                go_quiet (fail)
                have d2' : (W6.drewN nq).cell? ⟨bt, 2, none⟩ = some (.int .i64 (xp + b)) := d2
                have KD : Hid (Kept (fun _ => False) W6 (W6.drewN nq)) := hideV (by have k := Kept.refl (fun _ => False) W6; exact ⟨k.os, k.tape, k.output, k.size, k.block⟩)
                clear d0 d1 d2 d3 d4 r0 r1 r2 r3 r4
                generalize W6.drewN nq = W7 at d2' KD ⊢
                go_wp2
                go_roundw
                case rel => exact ⟨0 + 1, mm + 1, xp + b, b, hjl, (by have := HMM.out; omega), by go_num, by go_num, rfl, rfl, hideV ⟨HHJ.out.1, fun h => ⟨rfl, (HHJ.out.2 h).2⟩⟩, hideV ((K4.out.trans K6.out (fun _ f => f.elim)).trans KD.out (fun _ f => f.elim))⟩
                case measure => simp [intOf]; omega
            · have hjp : 0 < j := by omega
              obtain rfl : sh = (b : Int) := HSH.out hjp
              have hmp : 0 < mm := by have := HMM.out; omega
              have hlC1 := hlb1 hmp
              have hA1 : decide ((0 : Int) < (mm : Int)) = true := decide_eq_true (by omega)
              have hA2 : decide (0 < mm) = true := decide_eq_true (by omega)
              have hj2 : ((j : Int) == 0) = false := by rw [beq_eq_false_iff_ne]; omega
              have hj3 : (j == 0) = false := by rw [beq_eq_false_iff_ne]; omega
              have hw1 : IntKind.i64.wrap (lb + 1) = lb + 1 := by rw [IntKind.wrap_i64]; omega
              have hd1 : decide (xp + (b : Int) < lb + 1) = false := decide_eq_false (by omega)
              clear hlb1 hlb2
              cases fi
              · clear hfi
                go_wp2
                obtain ⟨W6, hW6⟩ : ∃ W6, W6 = (wr.alloc (.cells #[.string xt, .int .i64 (k : Nat), .int .i64 (xp + b), .int .i64 xs', .int .i64 xe] 29)) := ⟨_, rfl⟩
                have K6 : Hid (Kept (fun _ => False) wr W6) := hideV (by rw [hW6]; exact Kept.alloc _ _)
                have d0 : W6.cell? ⟨wr.heap.size, 0, none⟩ = some (.string xt) := by rw [hW6]; show (wr.alloc _).cell? _ = _; simp
                have d1 : W6.cell? ⟨wr.heap.size, 1, none⟩ = some (.int .i64 (k : Nat)) := by rw [hW6]; show (wr.alloc _).cell? _ = _; simp
                have d2 : W6.cell? ⟨wr.heap.size, 2, none⟩ = some (.int .i64 (xp + b)) := by rw [hW6]; show (wr.alloc _).cell? _ = _; simp
                have d3 : W6.cell? ⟨wr.heap.size, 3, none⟩ = some (.int .i64 xs') := by rw [hW6]; show (wr.alloc _).cell? _ = _; simp
                have d4 : W6.cell? ⟨wr.heap.size, 4, none⟩ = some (.int .i64 xe) := by rw [hW6]; show (wr.alloc _).cell? _ = _; simp
                have r0 := K6.out.cell u0 (fun f => f)
                have r1 := K6.out.cell u1 (fun f => f)
                have r2 := K6.out.cell u2 (fun f => f)
                have r3 := K6.out.cell u3 (fun f => f)
                have r4 := K6.out.cell u4 (fun f => f)
                rw [← hW6]
                clear hW6 u0 u1 u2 u3 u4 q0 q1 q2 q3 q4 t0 t1 t2 t3 t4 KT
                generalize wr.heap.size = bt at *
                go_quiet (fail)
                have d2' : (W6.drewN nq).cell? ⟨bt, 2, none⟩ = some (.int .i64 (xp + b)) := d2
                have KD : Hid (Kept (fun _ => False) W6 (W6.drewN nq)) := hideV (by have k := Kept.refl (fun _ => False) W6; exact ⟨k.os, k.tape, k.output, k.size, k.block⟩)
                clear d0 d1 d2 d3 d4 r0 r1 r2 r3 r4
                generalize W6.drewN nq = W7 at d2' KD ⊢
                go_wp2
                go_roundw
                case rel => exact ⟨j + 1, mm + 1, xp + b, b, hjl, (by have := HMM.out; omega), by go_num, by go_num, rfl, rfl, hideV ⟨HHJ.out.1, fun h => ⟨rfl, (HHJ.out.2 h).2⟩⟩, hideV ((K4.out.trans K6.out (fun _ f => f.elim)).trans KD.out (fun _ f => f.elim))⟩
                case measure => simp [intOf]; omega
              · have hbz : ((b : Int) != 0) = false := by rw [hfi rfl]; rfl
                clear hfi
                go_wp2
                obtain ⟨W6, hW6⟩ : ∃ W6, W6 = (wr.alloc (.cells #[.string xt, .int .i64 (k : Nat), .int .i64 (xp + b), .int .i64 xs', .int .i64 xe] 29)) := ⟨_, rfl⟩
                have K6 : Hid (Kept (fun _ => False) wr W6) := hideV (by rw [hW6]; exact Kept.alloc _ _)
                have d0 : W6.cell? ⟨wr.heap.size, 0, none⟩ = some (.string xt) := by rw [hW6]; show (wr.alloc _).cell? _ = _; simp
                have d1 : W6.cell? ⟨wr.heap.size, 1, none⟩ = some (.int .i64 (k : Nat)) := by rw [hW6]; show (wr.alloc _).cell? _ = _; simp
                have d2 : W6.cell? ⟨wr.heap.size, 2, none⟩ = some (.int .i64 (xp + b)) := by rw [hW6]; show (wr.alloc _).cell? _ = _; simp
                have d3 : W6.cell? ⟨wr.heap.size, 3, none⟩ = some (.int .i64 xs') := by rw [hW6]; show (wr.alloc _).cell? _ = _; simp
                have d4 : W6.cell? ⟨wr.heap.size, 4, none⟩ = some (.int .i64 xe) := by rw [hW6]; show (wr.alloc _).cell? _ = _; simp
                have r0 := K6.out.cell u0 (fun f => f)
                have r1 := K6.out.cell u1 (fun f => f)
                have r2 := K6.out.cell u2 (fun f => f)
                have r3 := K6.out.cell u3 (fun f => f)
                have r4 := K6.out.cell u4 (fun f => f)
                rw [← hW6]
                clear hW6 u0 u1 u2 u3 u4 q0 q1 q2 q3 q4 t0 t1 t2 t3 t4 KT
                generalize wr.heap.size = bt at *
                go_quiet (fail)
                have d2' : (W6.drewN nq).cell? ⟨bt, 2, none⟩ = some (.int .i64 (xp + b)) := d2
                have KD : Hid (Kept (fun _ => False) W6 (W6.drewN nq)) := hideV (by have k := Kept.refl (fun _ => False) W6; exact ⟨k.os, k.tape, k.output, k.size, k.block⟩)
                clear d0 d1 d2 d3 d4 r0 r1 r2 r3 r4
                generalize W6.drewN nq = W7 at d2' KD ⊢
                go_wp2
                go_roundw
                case rel => exact ⟨j + 1, mm + 1, xp + b, b, hjl, (by have := HMM.out; omega), by go_num, by go_num, rfl, rfl, hideV ⟨HHJ.out.1, fun h => ⟨rfl, (HHJ.out.2 h).2⟩⟩, hideV ((K4.out.trans K6.out (fun _ f => f.elim)).trans KD.out (fun _ f => f.elim))⟩
                case measure => simp [intOf]; omega
          · obtain rfl : j = nl := by omega
            have HLB : Hid (0 ≤ lb ∧ (0 < mm → lb + 17 ≤ ((b + nw + 16 : Nat) : Int))) := hideV (by
              by_cases h0 : j = 0
              · have := HJ.out.1 h0
                exact ⟨by omega, fun h => by have := hla (by omega); omega⟩
              · obtain ⟨_, h1, h2⟩ := HJ.out.2 (by omega)
                have h4 := HRi.out.2 _ (List.getElem_mem h1)
                exact ⟨by omega, fun _ => by omega⟩)
            have HM2 : Hid (mm = (frun TT f (xs.take (k + 1))).L.length ∧ b + nw + 16 = (frun TT f (xs.take (k + 1))).b) := hideV ⟨by rw [HR2.out.1, List.length_append, List.length_map, ← HM.out.1, ← HNL.out]; exact hmm, HR2.out.2.symm⟩
            have hmm2 : mm ≤ (k + 1) * 1048577 := by rw [Nat.add_mul]; omega
            have hbb2 : b + nw + 16 ≤ (k + 1) * 1048593 := by rw [Nat.add_mul]; omega
            clear HR2 HM HRi HNL HP HJ
            go_wp2
            go_roundw
            case rel => exact ⟨k + 1, mm, b + nw + 16, false, lb, hlt, hmm2, hbb2, by go_num, rfl, rfl, rfl, (fun h => by cases h), HLB.out.1, HLB.out.2, HM2, hideV (K13.out.trans K4.out (fun _ f => f.elim))⟩
            case measure => simp [intOf]; omega
      · have hq : (vn.toList == nm.toList) = false := by rw [beq_l]; exact decide_eq_false hnm
        have hq2 : (vn.toList != nm.toList) = true := by rw [bne, hq]; rfl
        have HR2 : Hid ((frun TT f (xs.take (k + 1))).L = (frun TT f (xs.take k)).L ∧ (frun TT f (xs.take (k + 1))).b = (frun TT f (xs.take k)).b) := hideV (by
          rw [HR.out]; unfold fstep
          rw [if_neg (show ¬ vn = f.n by rw [HFF.out]; exact hnm)]
          exact ⟨rfl, rfl⟩)
        clear HR HI HX1 HXt HS1 HE1 hnm HP G1 KA
        go_wp2
        go_region
        go_wp2
        go_roundw
        case rel => exact ⟨k + 1, m, b, fi, la, hlt, Nat.le_trans hmk (Nat.mul_le_mul_right _ (Nat.le_succ k)), Nat.le_trans hbk (Nat.mul_le_mul_right _ (Nat.le_succ k)), by go_num, rfl, rfl, rfl, hfi, hla0, hla, by rw [HR2.out.1, HR2.out.2]; exact HM, hideV ((KK.out.trans (Kept.alloc _ _) (fun _ f => f.elim)).trans (Kept.drew _) (fun _ f => f.elim))⟩
        case measure => simp [intOf]; omega
    · obtain rfl : k = n := by omega
      have hT : xs.take k = xs := List.take_of_length_le (by rw [HN.out]; exact Nat.le_refl _)
      rw [hT] at HM
      have e2 : m = ng := by rw [HM.out.1, HNg.out, HGe.out]
      subst e2
      clear HX1 HXt HS1 HE1 HN HM G1
      go_wp2
      go_ret
      exact ⟨rfl, KW.out.trans KK.out (fun _ f => f.elim)⟩
end Go.Proofs.YtnkmjhcddegkhaaDoor
