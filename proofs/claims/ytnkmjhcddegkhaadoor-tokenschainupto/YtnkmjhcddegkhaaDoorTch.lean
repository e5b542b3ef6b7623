import Derived.Test.YtnkmjhcddegkhaaDoorTcm
namespace Go.Proofs.YtnkmjhcddegkhaaDoor
open Go.ChangeShapes Go.WideShapes Go.ChangeAt Go.RowKit

set_option maxRecDepth 20000 in
set_option maxHeartbeats 16000000 in
theorem chain_walk (nm : ByteArray) (kd : Int) (fo st se : Bool) (l : List UInt8) (w : World) (hl : l.length ≤ 1099511627776) (hS : StopsAt w) :
    Calls Tryd.prog 3 #[.agg #[.string nm, .int .i64 kd, .bool fo, .bool st, .bool se], .string (bq l)] w fun e w' => e = .returned (.bool true) ∧ Kept (fun _ => False) w w' := by
  have CL := fun w => hideV (livesT_any w)
  have CO := hideV (fun W h => of_text nm fo st se l W hl h)
  have CW := fun w => hideV (words_any l w hl)
  rw [tks_wtk] at CW
  have CWn : ∀ w, Hid (Calls Tryd.prog 7 #[.string (bq l)] w fun e w' => ∃ a c, e = .returned (.slice a (words l).length c) ∧ Gro w w' 29 5 (.slice a (words l).length c) (words l).length (tkvs (tkL l))) := CW
  clear CW
  have hwl : (words l).length ≤ 1099511627776 := by
    have : (words l).length ≤ l.length := by rw [words_F]; exact wF_len l _ 0 (Nat.le_refl _)
    omega
  have HLs := hideV (tkL_size l hl)
  have HLn := hideV (tkL_len l)
  have HCL : (chd (kk fo st se) (tkL l)).length ≤ (words l).length := by have := chd_len (kk fo st se) (tkL l); rw [tkL_len] at this; exact this
  have HS := hideV hS
  have KB := hideV (Kept.alloc w (fdO nm kd fo st se))
  clear hS
  generalize tkL l = L at *
  generalize (words l).length = N at *
  obtain ⟨G, hG⟩ : ∃ G, G = chd (kk fo st se) L := ⟨_, rfl⟩
  rw [← hG] at CO HCL
  have HGe := hideV hG
  clear hG
  obtain ⟨ng, hng⟩ : ∃ ng, ng = G.length := ⟨_, rfl⟩
  rw [← hng] at CO HCL
  have HNg := hideV hng
  clear hng
  generalize bq l = S at *
  go_enter Tryd.func3, Tryd.ntmps3
  go_wp2_with (first
    | (go_at_call 5; refine (CL _).out.mono ?_; clear CL; rintro e W0 ⟨rfl, K0⟩; obtain ⟨y0, y1, y2, y3, y4⟩ := fd_kept K0; have hh0 := K0.heap (heap_alloc_new w _) (fun f => f); have fz : W0.frozen? ⟨w.heap.size, 1, none⟩ = false := (by simp [World.frozen?, hh0]); have KS := hideV ((KB.out.trans K0 (fun _ f => f.elim)).trans (Kept.setCell W0 ⟨w.heap.size, 1, none⟩ (.int .i64 1)) (fun i e => .inr (by simp only at e; omega))); have FD0 : Hid (FdIn (W0.setCell ⟨w.heap.size, 1, none⟩ (.int .i64 1)) w.heap.size nm fo st se) := hideV (heap_setCell_same W0 w.heap.size 1 _ _ (.int .i64 1) hh0); clear hh0)
    | (go_at_call 6; refine (CO.out _ (HS.out.kept KS.out (fun f => f))).mono ?_; clear CO; rintro e W1 ⟨a1, c1, rfl, G1⟩; have K1 := hideV G1.kept; have G1 := hideV G1)
    | (go_at_call 7; refine (CWn _).out.mono ?_; clear CWn; rintro e W2 ⟨a2, c2, rfl, G2⟩; have K2 := hideV G2.kept; have G2 := hideV G2))
  have KW := hideV ((KS.out.trans K1.out (fun _ f => f.elim)).trans K2.out (fun _ f => f.elim))
  have FD := hideV ((FD0.out.kept K1.out).kept K2.out)
  have GG := hideV (G1.out.later K2.out)
  clear KS K1 K2 FD0 G1
  generalize w.heap.size = b0 at *
  go_loopw [6, 19] (fun nv i wr => ∃ (k n : Nat), k ≤ N ∧ n ≤ ng ∧ i = .int .i64 k ∧ nv = .int .i64 n ∧ Hid (n = (chd (kk fo st se) (L.take k)).length) ∧ Hid (Kept (fun _ => False) W2 wr)) (fun _ i _ => N - (intOf i).toNat)
  case atStart => exact ⟨0, 0, by omega, by omega, rfl, rfl, rfl, Kept.refl _ _⟩
  case round =>
    obtain ⟨k, n, hk, hn, rfl, rfl, HN, KK⟩ := hrel
    by_cases hlt : k < N
    · have hlt2 : k < L.length := by rw [HLn.out]; exact hlt
      obtain ⟨g, rfl⟩ := G2.out.some (by omega)
      obtain ⟨x0, x1, x2, x3, x4⟩ := (G2.out.later KK.out).tok hlt2
      have hz := HLs.out _ (List.getElem_mem hlt2)
      have HX := hideV (chd_take (kk fo st se) L k hlt2)
      have HAt := hideV (chd_at (kk fo st se) L k hlt2)
      rw [← HGe.out, ← HN.out] at HAt
      have hki : (k : Int) < (N : Int) := by omega
      generalize L[k] = X at *
      obtain ⟨xt, xv, xp, xs, xe⟩ := X
      simp only at x0 x1 x2 x3 x4 hz
      obtain ⟨tl, htl⟩ : ∃ tl, tl = xt.data.toList := ⟨_, rfl⟩
      have hxt : xt = bq tl := by rw [htl]; rfl
      have htz : tl.length ≤ 281474976710000 := by rw [htl, Array.length_toList]; exact hz
      have hch : ch1 (kk fo st se) ⟨xt, xv, xp, xs, xe⟩ = match thr (kk fo st se) tl with | some t => if t.length ≤ 64 then some ⟨bq t, xv, xp, xs, xe⟩ else none | none => none := by rw [htl]; rfl
      rw [hch] at HX HAt
      subst hxt
      have hgs : W2.heap.size ≤ wr.heap.size := KK.out.size
      have HST : Hid (∀ W, Kept (fun _ => False) W2 W → StopsAt W) := hideV (fun W k => HS.out.kept (KW.out.trans k (fun _ f => f.elim)) (fun f => f))
      have T0 : Hid (TokIn (wr.alloc (.cells #[.string (bq tl), .int .i64 xv, .int .i64 xp, .int .i64 xs, .int .i64 xe] 29)) wr.heap.size (bq tl) xv xp xs xe) := hideV (heap_alloc_new wr _)
      have K0a : Hid (Kept (fun _ => False) W2 (wr.alloc (.cells #[.string (bq tl), .int .i64 xv, .int .i64 xp, .int .i64 xs, .int .i64 xe] 29))) := hideV (KK.out.trans (Kept.alloc _ _) (fun _ f => f.elim))
      have HCell : Hid (∀ W, Kept (fun _ => False) W2 W → W.cell? ⟨b0, 2, none⟩ = some (.bool fo) ∧ W.cell? ⟨b0, 3, none⟩ = some (.bool st) ∧ W.cell? ⟨b0, 4, none⟩ = some (.bool se)) := hideV (fun W k => (FD.out.kept k).cells)
      have HGot : Hid (∀ W, Kept (fun _ => False) W2 W → ∀ y, (∃ hl : n < G.length, G[n] = y) → ∃ gg, a1 = some ⟨gg, 0, none⟩ ∧ W.cell? ⟨gg, n * 5, none⟩ = some (.string y.t) ∧ W.cell? ⟨gg, n * 5 + 1, none⟩ = some (.int .i64 y.v) ∧ W.cell? ⟨gg, n * 5 + 2, none⟩ = some (.int .i64 y.p) ∧ W.cell? ⟨gg, n * 5 + 3, none⟩ = some (.int .i64 y.s) ∧ W.cell? ⟨gg, n * 5 + 4, none⟩ = some (.int .i64 y.e)) := hideV (fun W k y hy => by
        obtain ⟨hl, rfl⟩ := hy
        obtain ⟨gg, rfl⟩ := GG.out.some (by rw [HNg.out]; omega)
        exact ⟨gg, rfl, (GG.out.later k).tok hl⟩)
      obtain ⟨bb2, bb3, bb4⟩ := HCell.out _ K0a.out
      obtain ⟨tt0, tt1, tt2, tt3, tt4, ttf⟩ := T0.out.cells
      clear hch htl hz G2 GG FD HLs HLn HS KW
      cases fo <;> cases st <;> cases se
      · skip
        have hf5 : (tl).length ≤ 281474976710000 := by exact htz
        have hth : thr (kk false false false) tl = some tl := rfl
        rw [hth] at HX HAt
        have sz : ((bq tl).size : Int) = ((tl).length : Int) := by rw [bq_size]
        clear hth 
        by_cases h64 : (tl).length ≤ 64
        · have h64i : ¬ (64 : Int) < ((tl).length : Int) := by omega
          simp only [if_pos h64] at HX HAt
          have HY := hideV (HAt.out _ rfl)
          have hnlt : (n : Int) < (ng : Int) := by have := HY.out.1; rw [← HNg.out] at this; omega
          have hnl : decide ((ng : Int) ≤ (n : Int)) = false := decide_eq_false (by omega)
          have hnl2 : decide (ng ≤ n) = false := decide_eq_false (by omega)
          have hnl3 : n < ng := by omega
          have hnl4 : ¬ ng ≤ n := by omega
          have HN2 : Hid (n + 1 = (chd (kk false false false) (L.take (k + 1))).length) := hideV (by rw [HX.out, List.length_append, ← HN.out]; rfl)
          clear HX HAt
          obtain ⟨gg9, hgg9, z0, z1, z2, z3, z4⟩ := HGot.out _ KK.out _ HY.out
          subst hgg9
          have hglt : gg9 < wr.heap.size := World.block_lt_of_cell? wr _ z0
          have hgne : ¬ gg9 = wr.heap.size := by omega
          go_wp2
          go_region
          go_wp2
          go_roundw
          case rel => exact ⟨k + 1, n + 1, by omega, by omega, by go_num, by go_num, HN2, K0a.out.trans (Kept.drew _) (fun _ f => f.elim)⟩
          case measure => simp [intOf]; omega
        · have h64i : (64 : Int) < ((tl).length : Int) := by omega
          simp only [if_neg h64] at HX
          have HN2 : Hid (n = (chd (kk false false false) (L.take (k + 1))).length) := hideV (by rw [HX.out, List.append_nil]; exact HN.out)
          clear HX HAt HGot
          go_wp2
          go_roundw
          case rel => exact ⟨k + 1, n, by omega, hn, by go_num, rfl, HN2, K0a⟩
          case measure => simp [intOf]; omega
      · skip
        have hf5 : (tl).length ≤ 281474976710000 := by exact htz
        have CM := fun w => hideV (stem_any tl w hf5)
        have hth : thr (kk false false true) tl = some (stem tl) := rfl
        rw [hth] at HX HAt
        have sz : ((bq (stem tl)).size : Int) = (((stem tl)).length : Int) := by rw [bq_size]
        clear hth 
        by_cases h64 : ((stem tl)).length ≤ 64
        · have h64i : ¬ (64 : Int) < (((stem tl)).length : Int) := by omega
          simp only [if_pos h64] at HX HAt
          have HY := hideV (HAt.out _ rfl)
          have hnlt : (n : Int) < (ng : Int) := by have := HY.out.1; rw [← HNg.out] at this; omega
          have hnl : decide ((ng : Int) ≤ (n : Int)) = false := decide_eq_false (by omega)
          have hnl2 : decide (ng ≤ n) = false := decide_eq_false (by omega)
          have hnl3 : n < ng := by omega
          have hnl4 : ¬ ng ≤ n := by omega
          have HN2 : Hid (n + 1 = (chd (kk false false true) (L.take (k + 1))).length) := hideV (by rw [HX.out, List.length_append, ← HN.out]; rfl)
          clear HX HAt
          go_wp2_with (first | (go_at_call 10; refine (CM _).out.mono ?_; clear CM; rintro e W7 ⟨rfl, K7⟩; have T7 := hideV (T0.out.kept K7); obtain ⟨h0, h1, h2, h3, h4, fz7⟩ := T7.out.cells; have T7s := hideV (T7.out.put (bq (stem tl))); have K7s := hideV (kept_put (u := .string (bq (stem tl))) (K0a.out.trans K7 (fun _ f => f.elim)) hgs); obtain ⟨i0, i1, i2, i3, i4, _⟩ := T7s.out.cells; obtain ⟨gg9, hgg9, z0, z1, z2, z3, z4⟩ := HGot.out _ K7s.out _ HY.out; subst hgg9))
          go_region
          go_wp2
          go_roundw
          case rel => exact ⟨k + 1, n + 1, by omega, by omega, by go_num, by go_num, HN2, K7s.out.trans (Kept.drew _) (fun _ f => f.elim)⟩
          case measure => simp [intOf]; omega
        · have h64i : (64 : Int) < (((stem tl)).length : Int) := by omega
          simp only [if_neg h64] at HX
          have HN2 : Hid (n = (chd (kk false false true) (L.take (k + 1))).length) := hideV (by rw [HX.out, List.append_nil]; exact HN.out)
          clear HX HAt HGot
          go_wp2_with (first | (go_at_call 10; refine (CM _).out.mono ?_; clear CM; rintro e W7 ⟨rfl, K7⟩; have T7 := hideV (T0.out.kept K7); obtain ⟨h0, h1, h2, h3, h4, fz7⟩ := T7.out.cells; have T7s := hideV (T7.out.put (bq (stem tl))); have K7s := hideV (kept_put (u := .string (bq (stem tl))) (K0a.out.trans K7 (fun _ f => f.elim)) hgs); obtain ⟨i0, i1, i2, i3, i4, _⟩ := T7s.out.cells))
          go_roundw
          case rel => exact ⟨k + 1, n, by omega, hn, by go_num, rfl, HN2, K7s⟩
          case measure => simp [intOf]; omega
      · skip
        have hf5 : (tl).length ≤ 281474976710000 := by exact htz
        have CP := hideV (fun W k => isStop_any (bq tl) W (HST.out W k))
        cases hb : isSt (bq tl) with
        | true =>
          have hth : thr (kk false true false) tl = none := by show (if isSt (bq tl) then none else _) = none; rw [hb]; rfl
          rw [hth] at HX
          rw [hb] at CP
          have HN2 : Hid (n = (chd (kk false true false) (L.take (k + 1))).length) := hideV (by rw [HX.out, List.append_nil]; exact HN.out)
          clear hth hb HX HAt HGot 
          go_wp2_with (first | (go_at_call 9; refine (CP.out _ K0a.out).mono ?_; clear CP; rintro e W6 ⟨rfl, K6⟩; have T6 := hideV (T0.out.kept K6); obtain ⟨e0, e1, e2, e3, e4, fz6⟩ := T6.out.cells; have K6s := hideV (K0a.out.trans K6 (fun _ f => f.elim)); obtain ⟨c62, c63, c64⟩ := HCell.out _ K6s.out))
          go_roundw
          case rel => exact ⟨k + 1, n, by omega, hn, by go_num, rfl, HN2, K6s⟩
          case measure => simp [intOf]; omega
        | false =>
          have hth : thr (kk false true false) tl = some tl := by show (if isSt (bq tl) then none else _) = _; rw [hb]; rfl
          rw [hb] at CP
          rw [hth] at HX HAt
          have sz : ((bq tl).size : Int) = ((tl).length : Int) := by rw [bq_size]
          clear hth hb
          by_cases h64 : (tl).length ≤ 64
          · have h64i : ¬ (64 : Int) < ((tl).length : Int) := by omega
            simp only [if_pos h64] at HX HAt
            have HY := hideV (HAt.out _ rfl)
            have hnlt : (n : Int) < (ng : Int) := by have := HY.out.1; rw [← HNg.out] at this; omega
            have hnl : decide ((ng : Int) ≤ (n : Int)) = false := decide_eq_false (by omega)
            have hnl2 : decide (ng ≤ n) = false := decide_eq_false (by omega)
            have hnl3 : n < ng := by omega
            have hnl4 : ¬ ng ≤ n := by omega
            have HN2 : Hid (n + 1 = (chd (kk false true false) (L.take (k + 1))).length) := hideV (by rw [HX.out, List.length_append, ← HN.out]; rfl)
            clear HX HAt
            go_wp2_with (first | (go_at_call 9; refine (CP.out _ K0a.out).mono ?_; clear CP; rintro e W6 ⟨rfl, K6⟩; have T6 := hideV (T0.out.kept K6); obtain ⟨e0, e1, e2, e3, e4, fz6⟩ := T6.out.cells; have K6s := hideV (K0a.out.trans K6 (fun _ f => f.elim)); obtain ⟨c62, c63, c64⟩ := HCell.out _ K6s.out; obtain ⟨gg9, hgg9, z0, z1, z2, z3, z4⟩ := HGot.out _ K6s.out _ HY.out; subst hgg9))
            go_region
            go_wp2
            go_roundw
            case rel => exact ⟨k + 1, n + 1, by omega, by omega, by go_num, by go_num, HN2, K6s.out.trans (Kept.drew _) (fun _ f => f.elim)⟩
            case measure => simp [intOf]; omega
          · have h64i : (64 : Int) < ((tl).length : Int) := by omega
            simp only [if_neg h64] at HX
            have HN2 : Hid (n = (chd (kk false true false) (L.take (k + 1))).length) := hideV (by rw [HX.out, List.append_nil]; exact HN.out)
            clear HX HAt HGot
            go_wp2_with (first | (go_at_call 9; refine (CP.out _ K0a.out).mono ?_; clear CP; rintro e W6 ⟨rfl, K6⟩; have T6 := hideV (T0.out.kept K6); obtain ⟨e0, e1, e2, e3, e4, fz6⟩ := T6.out.cells; have K6s := hideV (K0a.out.trans K6 (fun _ f => f.elim)); obtain ⟨c62, c63, c64⟩ := HCell.out _ K6s.out))
            go_roundw
            case rel => exact ⟨k + 1, n, by omega, hn, by go_num, rfl, HN2, K6s⟩
            case measure => simp [intOf]; omega
      · skip
        have hf5 : (tl).length ≤ 281474976710000 := by exact htz
        have CP := hideV (fun W k => isStop_any (bq tl) W (HST.out W k))
        have CM := fun w => hideV (stem_any tl w hf5)
        cases hb : isSt (bq tl) with
        | true =>
          have hth : thr (kk false true true) tl = none := by show (if isSt (bq tl) then none else _) = none; rw [hb]; rfl
          rw [hth] at HX
          rw [hb] at CP
          have HN2 : Hid (n = (chd (kk false true true) (L.take (k + 1))).length) := hideV (by rw [HX.out, List.append_nil]; exact HN.out)
          clear hth hb HX HAt HGot CM
          go_wp2_with (first | (go_at_call 9; refine (CP.out _ K0a.out).mono ?_; clear CP; rintro e W6 ⟨rfl, K6⟩; have T6 := hideV (T0.out.kept K6); obtain ⟨e0, e1, e2, e3, e4, fz6⟩ := T6.out.cells; have K6s := hideV (K0a.out.trans K6 (fun _ f => f.elim)); obtain ⟨c62, c63, c64⟩ := HCell.out _ K6s.out))
          go_roundw
          case rel => exact ⟨k + 1, n, by omega, hn, by go_num, rfl, HN2, K6s⟩
          case measure => simp [intOf]; omega
        | false =>
          have hth : thr (kk false true true) tl = some (stem tl) := by show (if isSt (bq tl) then none else _) = _; rw [hb]; rfl
          rw [hb] at CP
          rw [hth] at HX HAt
          have sz : ((bq (stem tl)).size : Int) = (((stem tl)).length : Int) := by rw [bq_size]
          clear hth hb
          by_cases h64 : ((stem tl)).length ≤ 64
          · have h64i : ¬ (64 : Int) < (((stem tl)).length : Int) := by omega
            simp only [if_pos h64] at HX HAt
            have HY := hideV (HAt.out _ rfl)
            have hnlt : (n : Int) < (ng : Int) := by have := HY.out.1; rw [← HNg.out] at this; omega
            have hnl : decide ((ng : Int) ≤ (n : Int)) = false := decide_eq_false (by omega)
            have hnl2 : decide (ng ≤ n) = false := decide_eq_false (by omega)
            have hnl3 : n < ng := by omega
            have hnl4 : ¬ ng ≤ n := by omega
            have HN2 : Hid (n + 1 = (chd (kk false true true) (L.take (k + 1))).length) := hideV (by rw [HX.out, List.length_append, ← HN.out]; rfl)
            clear HX HAt
            go_wp2_with (first | (go_at_call 9; refine (CP.out _ K0a.out).mono ?_; clear CP; rintro e W6 ⟨rfl, K6⟩; have T6 := hideV (T0.out.kept K6); obtain ⟨e0, e1, e2, e3, e4, fz6⟩ := T6.out.cells; have K6s := hideV (K0a.out.trans K6 (fun _ f => f.elim)); obtain ⟨c62, c63, c64⟩ := HCell.out _ K6s.out) | (go_at_call 10; refine (CM _).out.mono ?_; clear CM; rintro e W7 ⟨rfl, K7⟩; have T7 := hideV (T6.out.kept K7); obtain ⟨h0, h1, h2, h3, h4, fz7⟩ := T7.out.cells; have T7s := hideV (T7.out.put (bq (stem tl))); have K7s := hideV (kept_put (u := .string (bq (stem tl))) (K6s.out.trans K7 (fun _ f => f.elim)) hgs); obtain ⟨i0, i1, i2, i3, i4, _⟩ := T7s.out.cells; obtain ⟨gg9, hgg9, z0, z1, z2, z3, z4⟩ := HGot.out _ K7s.out _ HY.out; subst hgg9))
            go_region
            go_wp2
            go_roundw
            case rel => exact ⟨k + 1, n + 1, by omega, by omega, by go_num, by go_num, HN2, K7s.out.trans (Kept.drew _) (fun _ f => f.elim)⟩
            case measure => simp [intOf]; omega
          · have h64i : (64 : Int) < (((stem tl)).length : Int) := by omega
            simp only [if_neg h64] at HX
            have HN2 : Hid (n = (chd (kk false true true) (L.take (k + 1))).length) := hideV (by rw [HX.out, List.append_nil]; exact HN.out)
            clear HX HAt HGot
            go_wp2_with (first | (go_at_call 9; refine (CP.out _ K0a.out).mono ?_; clear CP; rintro e W6 ⟨rfl, K6⟩; have T6 := hideV (T0.out.kept K6); obtain ⟨e0, e1, e2, e3, e4, fz6⟩ := T6.out.cells; have K6s := hideV (K0a.out.trans K6 (fun _ f => f.elim)); obtain ⟨c62, c63, c64⟩ := HCell.out _ K6s.out) | (go_at_call 10; refine (CM _).out.mono ?_; clear CM; rintro e W7 ⟨rfl, K7⟩; have T7 := hideV (T6.out.kept K7); obtain ⟨h0, h1, h2, h3, h4, fz7⟩ := T7.out.cells; have T7s := hideV (T7.out.put (bq (stem tl))); have K7s := hideV (kept_put (u := .string (bq (stem tl))) (K6s.out.trans K7 (fun _ f => f.elim)) hgs); obtain ⟨i0, i1, i2, i3, i4, _⟩ := T7s.out.cells))
            go_roundw
            case rel => exact ⟨k + 1, n, by omega, hn, by go_num, rfl, HN2, K7s⟩
            case measure => simp [intOf]; omega
      · skip
        have hf5 : ((fl 0 tl)).length ≤ 281474976710000 := by rw [fl_len]; exact htz
        have CF := fun w => hideV (fold_q tl w htz)
        have hth : thr (kk true false false) tl = some (fl 0 tl) := rfl
        rw [hth] at HX HAt
        have sz : ((bq (fl 0 tl)).size : Int) = (((fl 0 tl)).length : Int) := by rw [bq_size]
        clear hth 
        by_cases h64 : ((fl 0 tl)).length ≤ 64
        · have h64i : ¬ (64 : Int) < (((fl 0 tl)).length : Int) := by omega
          simp only [if_pos h64] at HX HAt
          have HY := hideV (HAt.out _ rfl)
          have hnlt : (n : Int) < (ng : Int) := by have := HY.out.1; rw [← HNg.out] at this; omega
          have hnl : decide ((ng : Int) ≤ (n : Int)) = false := decide_eq_false (by omega)
          have hnl2 : decide (ng ≤ n) = false := decide_eq_false (by omega)
          have hnl3 : n < ng := by omega
          have hnl4 : ¬ ng ≤ n := by omega
          have HN2 : Hid (n + 1 = (chd (kk true false false) (L.take (k + 1))).length) := hideV (by rw [HX.out, List.length_append, ← HN.out]; rfl)
          clear HX HAt
          go_wp2_with (first | (go_at_call 8; refine (CF _).out.mono ?_; clear CF; rintro e W5 ⟨rfl, K5⟩; have T5 := hideV (T0.out.kept K5); obtain ⟨y0, y1, y2, y3, y4, fz5⟩ := T5.out.cells; have T5s := hideV (T5.out.put (bq (fl 0 tl))); have K5s := hideV (kept_put (u := .string (bq (fl 0 tl))) (K0a.out.trans K5 (fun _ f => f.elim)) hgs); obtain ⟨c52, c53, c54⟩ := HCell.out _ K5s.out; obtain ⟨d0, d1, d2, d3, d4, _⟩ := T5s.out.cells; obtain ⟨gg9, hgg9, z0, z1, z2, z3, z4⟩ := HGot.out _ K5s.out _ HY.out; subst hgg9))
          go_region
          go_wp2
          go_roundw
          case rel => exact ⟨k + 1, n + 1, by omega, by omega, by go_num, by go_num, HN2, K5s.out.trans (Kept.drew _) (fun _ f => f.elim)⟩
          case measure => simp [intOf]; omega
        · have h64i : (64 : Int) < (((fl 0 tl)).length : Int) := by omega
          simp only [if_neg h64] at HX
          have HN2 : Hid (n = (chd (kk true false false) (L.take (k + 1))).length) := hideV (by rw [HX.out, List.append_nil]; exact HN.out)
          clear HX HAt HGot
          go_wp2_with (first | (go_at_call 8; refine (CF _).out.mono ?_; clear CF; rintro e W5 ⟨rfl, K5⟩; have T5 := hideV (T0.out.kept K5); obtain ⟨y0, y1, y2, y3, y4, fz5⟩ := T5.out.cells; have T5s := hideV (T5.out.put (bq (fl 0 tl))); have K5s := hideV (kept_put (u := .string (bq (fl 0 tl))) (K0a.out.trans K5 (fun _ f => f.elim)) hgs); obtain ⟨c52, c53, c54⟩ := HCell.out _ K5s.out; obtain ⟨d0, d1, d2, d3, d4, _⟩ := T5s.out.cells))
          go_roundw
          case rel => exact ⟨k + 1, n, by omega, hn, by go_num, rfl, HN2, K5s⟩
          case measure => simp [intOf]; omega
      · skip
        have hf5 : ((fl 0 tl)).length ≤ 281474976710000 := by rw [fl_len]; exact htz
        have CF := fun w => hideV (fold_q tl w htz)
        have CM := fun w => hideV (stem_any (fl 0 tl) w hf5)
        have hth : thr (kk true false true) tl = some (stem (fl 0 tl)) := rfl
        rw [hth] at HX HAt
        have sz : ((bq (stem (fl 0 tl))).size : Int) = (((stem (fl 0 tl))).length : Int) := by rw [bq_size]
        clear hth 
        by_cases h64 : ((stem (fl 0 tl))).length ≤ 64
        · have h64i : ¬ (64 : Int) < (((stem (fl 0 tl))).length : Int) := by omega
          simp only [if_pos h64] at HX HAt
          have HY := hideV (HAt.out _ rfl)
          have hnlt : (n : Int) < (ng : Int) := by have := HY.out.1; rw [← HNg.out] at this; omega
          have hnl : decide ((ng : Int) ≤ (n : Int)) = false := decide_eq_false (by omega)
          have hnl2 : decide (ng ≤ n) = false := decide_eq_false (by omega)
          have hnl3 : n < ng := by omega
          have hnl4 : ¬ ng ≤ n := by omega
          have HN2 : Hid (n + 1 = (chd (kk true false true) (L.take (k + 1))).length) := hideV (by rw [HX.out, List.length_append, ← HN.out]; rfl)
          clear HX HAt
          go_wp2_with (first | (go_at_call 8; refine (CF _).out.mono ?_; clear CF; rintro e W5 ⟨rfl, K5⟩; have T5 := hideV (T0.out.kept K5); obtain ⟨y0, y1, y2, y3, y4, fz5⟩ := T5.out.cells; have T5s := hideV (T5.out.put (bq (fl 0 tl))); have K5s := hideV (kept_put (u := .string (bq (fl 0 tl))) (K0a.out.trans K5 (fun _ f => f.elim)) hgs); obtain ⟨c52, c53, c54⟩ := HCell.out _ K5s.out; obtain ⟨d0, d1, d2, d3, d4, _⟩ := T5s.out.cells) | (go_at_call 10; refine (CM _).out.mono ?_; clear CM; rintro e W7 ⟨rfl, K7⟩; have T7 := hideV (T5s.out.kept K7); obtain ⟨h0, h1, h2, h3, h4, fz7⟩ := T7.out.cells; have T7s := hideV (T7.out.put (bq (stem (fl 0 tl)))); have K7s := hideV (kept_put (u := .string (bq (stem (fl 0 tl)))) (K5s.out.trans K7 (fun _ f => f.elim)) hgs); obtain ⟨i0, i1, i2, i3, i4, _⟩ := T7s.out.cells; obtain ⟨gg9, hgg9, z0, z1, z2, z3, z4⟩ := HGot.out _ K7s.out _ HY.out; subst hgg9))
          go_region
          go_wp2
          go_roundw
          case rel => exact ⟨k + 1, n + 1, by omega, by omega, by go_num, by go_num, HN2, K7s.out.trans (Kept.drew _) (fun _ f => f.elim)⟩
          case measure => simp [intOf]; omega
        · have h64i : (64 : Int) < (((stem (fl 0 tl))).length : Int) := by omega
          simp only [if_neg h64] at HX
          have HN2 : Hid (n = (chd (kk true false true) (L.take (k + 1))).length) := hideV (by rw [HX.out, List.append_nil]; exact HN.out)
          clear HX HAt HGot
          go_wp2_with (first | (go_at_call 8; refine (CF _).out.mono ?_; clear CF; rintro e W5 ⟨rfl, K5⟩; have T5 := hideV (T0.out.kept K5); obtain ⟨y0, y1, y2, y3, y4, fz5⟩ := T5.out.cells; have T5s := hideV (T5.out.put (bq (fl 0 tl))); have K5s := hideV (kept_put (u := .string (bq (fl 0 tl))) (K0a.out.trans K5 (fun _ f => f.elim)) hgs); obtain ⟨c52, c53, c54⟩ := HCell.out _ K5s.out; obtain ⟨d0, d1, d2, d3, d4, _⟩ := T5s.out.cells) | (go_at_call 10; refine (CM _).out.mono ?_; clear CM; rintro e W7 ⟨rfl, K7⟩; have T7 := hideV (T5s.out.kept K7); obtain ⟨h0, h1, h2, h3, h4, fz7⟩ := T7.out.cells; have T7s := hideV (T7.out.put (bq (stem (fl 0 tl)))); have K7s := hideV (kept_put (u := .string (bq (stem (fl 0 tl)))) (K5s.out.trans K7 (fun _ f => f.elim)) hgs); obtain ⟨i0, i1, i2, i3, i4, _⟩ := T7s.out.cells))
          go_roundw
          case rel => exact ⟨k + 1, n, by omega, hn, by go_num, rfl, HN2, K7s⟩
          case measure => simp [intOf]; omega
      · skip
        have hf5 : ((fl 0 tl)).length ≤ 281474976710000 := by rw [fl_len]; exact htz
        have CF := fun w => hideV (fold_q tl w htz)
        have CP := hideV (fun W k => isStop_any (bq (fl 0 tl)) W (HST.out W k))
        cases hb : isSt (bq (fl 0 tl)) with
        | true =>
          have hth : thr (kk true true false) tl = none := by show (if isSt (bq (fl 0 tl)) then none else _) = none; rw [hb]; rfl
          rw [hth] at HX
          rw [hb] at CP
          have HN2 : Hid (n = (chd (kk true true false) (L.take (k + 1))).length) := hideV (by rw [HX.out, List.append_nil]; exact HN.out)
          clear hth hb HX HAt HGot 
          go_wp2_with (first | (go_at_call 8; refine (CF _).out.mono ?_; clear CF; rintro e W5 ⟨rfl, K5⟩; have T5 := hideV (T0.out.kept K5); obtain ⟨y0, y1, y2, y3, y4, fz5⟩ := T5.out.cells; have T5s := hideV (T5.out.put (bq (fl 0 tl))); have K5s := hideV (kept_put (u := .string (bq (fl 0 tl))) (K0a.out.trans K5 (fun _ f => f.elim)) hgs); obtain ⟨c52, c53, c54⟩ := HCell.out _ K5s.out; obtain ⟨d0, d1, d2, d3, d4, _⟩ := T5s.out.cells) | (go_at_call 9; refine (CP.out _ K5s.out).mono ?_; clear CP; rintro e W6 ⟨rfl, K6⟩; have T6 := hideV (T5s.out.kept K6); obtain ⟨e0, e1, e2, e3, e4, fz6⟩ := T6.out.cells; have K6s := hideV (K5s.out.trans K6 (fun _ f => f.elim)); obtain ⟨c62, c63, c64⟩ := HCell.out _ K6s.out))
          go_roundw
          case rel => exact ⟨k + 1, n, by omega, hn, by go_num, rfl, HN2, K6s⟩
          case measure => simp [intOf]; omega
        | false =>
          have hth : thr (kk true true false) tl = some (fl 0 tl) := by show (if isSt (bq (fl 0 tl)) then none else _) = _; rw [hb]; rfl
          rw [hb] at CP
          rw [hth] at HX HAt
          have sz : ((bq (fl 0 tl)).size : Int) = (((fl 0 tl)).length : Int) := by rw [bq_size]
          clear hth hb
          by_cases h64 : ((fl 0 tl)).length ≤ 64
          · have h64i : ¬ (64 : Int) < (((fl 0 tl)).length : Int) := by omega
            simp only [if_pos h64] at HX HAt
            have HY := hideV (HAt.out _ rfl)
            have hnlt : (n : Int) < (ng : Int) := by have := HY.out.1; rw [← HNg.out] at this; omega
            have hnl : decide ((ng : Int) ≤ (n : Int)) = false := decide_eq_false (by omega)
            have hnl2 : decide (ng ≤ n) = false := decide_eq_false (by omega)
            have hnl3 : n < ng := by omega
            have hnl4 : ¬ ng ≤ n := by omega
            have HN2 : Hid (n + 1 = (chd (kk true true false) (L.take (k + 1))).length) := hideV (by rw [HX.out, List.length_append, ← HN.out]; rfl)
            clear HX HAt
            go_wp2_with (first | (go_at_call 8; refine (CF _).out.mono ?_; clear CF; rintro e W5 ⟨rfl, K5⟩; have T5 := hideV (T0.out.kept K5); obtain ⟨y0, y1, y2, y3, y4, fz5⟩ := T5.out.cells; have T5s := hideV (T5.out.put (bq (fl 0 tl))); have K5s := hideV (kept_put (u := .string (bq (fl 0 tl))) (K0a.out.trans K5 (fun _ f => f.elim)) hgs); obtain ⟨c52, c53, c54⟩ := HCell.out _ K5s.out; obtain ⟨d0, d1, d2, d3, d4, _⟩ := T5s.out.cells) | (go_at_call 9; refine (CP.out _ K5s.out).mono ?_; clear CP; rintro e W6 ⟨rfl, K6⟩; have T6 := hideV (T5s.out.kept K6); obtain ⟨e0, e1, e2, e3, e4, fz6⟩ := T6.out.cells; have K6s := hideV (K5s.out.trans K6 (fun _ f => f.elim)); obtain ⟨c62, c63, c64⟩ := HCell.out _ K6s.out; obtain ⟨gg9, hgg9, z0, z1, z2, z3, z4⟩ := HGot.out _ K6s.out _ HY.out; subst hgg9))
            go_region
            go_wp2
            go_roundw
            case rel => exact ⟨k + 1, n + 1, by omega, by omega, by go_num, by go_num, HN2, K6s.out.trans (Kept.drew _) (fun _ f => f.elim)⟩
            case measure => simp [intOf]; omega
          · have h64i : (64 : Int) < (((fl 0 tl)).length : Int) := by omega
            simp only [if_neg h64] at HX
            have HN2 : Hid (n = (chd (kk true true false) (L.take (k + 1))).length) := hideV (by rw [HX.out, List.append_nil]; exact HN.out)
            clear HX HAt HGot
            go_wp2_with (first | (go_at_call 8; refine (CF _).out.mono ?_; clear CF; rintro e W5 ⟨rfl, K5⟩; have T5 := hideV (T0.out.kept K5); obtain ⟨y0, y1, y2, y3, y4, fz5⟩ := T5.out.cells; have T5s := hideV (T5.out.put (bq (fl 0 tl))); have K5s := hideV (kept_put (u := .string (bq (fl 0 tl))) (K0a.out.trans K5 (fun _ f => f.elim)) hgs); obtain ⟨c52, c53, c54⟩ := HCell.out _ K5s.out; obtain ⟨d0, d1, d2, d3, d4, _⟩ := T5s.out.cells) | (go_at_call 9; refine (CP.out _ K5s.out).mono ?_; clear CP; rintro e W6 ⟨rfl, K6⟩; have T6 := hideV (T5s.out.kept K6); obtain ⟨e0, e1, e2, e3, e4, fz6⟩ := T6.out.cells; have K6s := hideV (K5s.out.trans K6 (fun _ f => f.elim)); obtain ⟨c62, c63, c64⟩ := HCell.out _ K6s.out))
            go_roundw
            case rel => exact ⟨k + 1, n, by omega, hn, by go_num, rfl, HN2, K6s⟩
            case measure => simp [intOf]; omega
      · skip
        have hf5 : ((fl 0 tl)).length ≤ 281474976710000 := by rw [fl_len]; exact htz
        have CF := fun w => hideV (fold_q tl w htz)
        have CP := hideV (fun W k => isStop_any (bq (fl 0 tl)) W (HST.out W k))
        have CM := fun w => hideV (stem_any (fl 0 tl) w hf5)
        cases hb : isSt (bq (fl 0 tl)) with
        | true =>
          have hth : thr (kk true true true) tl = none := by show (if isSt (bq (fl 0 tl)) then none else _) = none; rw [hb]; rfl
          rw [hth] at HX
          rw [hb] at CP
          have HN2 : Hid (n = (chd (kk true true true) (L.take (k + 1))).length) := hideV (by rw [HX.out, List.append_nil]; exact HN.out)
          clear hth hb HX HAt HGot CM
          go_wp2_with (first | (go_at_call 8; refine (CF _).out.mono ?_; clear CF; rintro e W5 ⟨rfl, K5⟩; have T5 := hideV (T0.out.kept K5); obtain ⟨y0, y1, y2, y3, y4, fz5⟩ := T5.out.cells; have T5s := hideV (T5.out.put (bq (fl 0 tl))); have K5s := hideV (kept_put (u := .string (bq (fl 0 tl))) (K0a.out.trans K5 (fun _ f => f.elim)) hgs); obtain ⟨c52, c53, c54⟩ := HCell.out _ K5s.out; obtain ⟨d0, d1, d2, d3, d4, _⟩ := T5s.out.cells) | (go_at_call 9; refine (CP.out _ K5s.out).mono ?_; clear CP; rintro e W6 ⟨rfl, K6⟩; have T6 := hideV (T5s.out.kept K6); obtain ⟨e0, e1, e2, e3, e4, fz6⟩ := T6.out.cells; have K6s := hideV (K5s.out.trans K6 (fun _ f => f.elim)); obtain ⟨c62, c63, c64⟩ := HCell.out _ K6s.out))
          go_roundw
          case rel => exact ⟨k + 1, n, by omega, hn, by go_num, rfl, HN2, K6s⟩
          case measure => simp [intOf]; omega
        | false =>
          have hth : thr (kk true true true) tl = some (stem (fl 0 tl)) := by show (if isSt (bq (fl 0 tl)) then none else _) = _; rw [hb]; rfl
          rw [hb] at CP
          rw [hth] at HX HAt
          have sz : ((bq (stem (fl 0 tl))).size : Int) = (((stem (fl 0 tl))).length : Int) := by rw [bq_size]
          clear hth hb
          by_cases h64 : ((stem (fl 0 tl))).length ≤ 64
          · have h64i : ¬ (64 : Int) < (((stem (fl 0 tl))).length : Int) := by omega
            simp only [if_pos h64] at HX HAt
            have HY := hideV (HAt.out _ rfl)
            have hnlt : (n : Int) < (ng : Int) := by have := HY.out.1; rw [← HNg.out] at this; omega
            have hnl : decide ((ng : Int) ≤ (n : Int)) = false := decide_eq_false (by omega)
            have hnl2 : decide (ng ≤ n) = false := decide_eq_false (by omega)
            have hnl3 : n < ng := by omega
            have hnl4 : ¬ ng ≤ n := by omega
            have HN2 : Hid (n + 1 = (chd (kk true true true) (L.take (k + 1))).length) := hideV (by rw [HX.out, List.length_append, ← HN.out]; rfl)
            clear HX HAt
            go_wp2_with (first | (go_at_call 8; refine (CF _).out.mono ?_; clear CF; rintro e W5 ⟨rfl, K5⟩; have T5 := hideV (T0.out.kept K5); obtain ⟨y0, y1, y2, y3, y4, fz5⟩ := T5.out.cells; have T5s := hideV (T5.out.put (bq (fl 0 tl))); have K5s := hideV (kept_put (u := .string (bq (fl 0 tl))) (K0a.out.trans K5 (fun _ f => f.elim)) hgs); obtain ⟨c52, c53, c54⟩ := HCell.out _ K5s.out; obtain ⟨d0, d1, d2, d3, d4, _⟩ := T5s.out.cells) | (go_at_call 9; refine (CP.out _ K5s.out).mono ?_; clear CP; rintro e W6 ⟨rfl, K6⟩; have T6 := hideV (T5s.out.kept K6); obtain ⟨e0, e1, e2, e3, e4, fz6⟩ := T6.out.cells; have K6s := hideV (K5s.out.trans K6 (fun _ f => f.elim)); obtain ⟨c62, c63, c64⟩ := HCell.out _ K6s.out) | (go_at_call 10; refine (CM _).out.mono ?_; clear CM; rintro e W7 ⟨rfl, K7⟩; have T7 := hideV (T6.out.kept K7); obtain ⟨h0, h1, h2, h3, h4, fz7⟩ := T7.out.cells; have T7s := hideV (T7.out.put (bq (stem (fl 0 tl)))); have K7s := hideV (kept_put (u := .string (bq (stem (fl 0 tl)))) (K6s.out.trans K7 (fun _ f => f.elim)) hgs); obtain ⟨i0, i1, i2, i3, i4, _⟩ := T7s.out.cells; obtain ⟨gg9, hgg9, z0, z1, z2, z3, z4⟩ := HGot.out _ K7s.out _ HY.out; subst hgg9))
            go_region
            go_wp2
            go_roundw
            case rel => exact ⟨k + 1, n + 1, by omega, by omega, by go_num, by go_num, HN2, K7s.out.trans (Kept.drew _) (fun _ f => f.elim)⟩
            case measure => simp [intOf]; omega
          · have h64i : (64 : Int) < (((stem (fl 0 tl))).length : Int) := by omega
            simp only [if_neg h64] at HX
            have HN2 : Hid (n = (chd (kk true true true) (L.take (k + 1))).length) := hideV (by rw [HX.out, List.append_nil]; exact HN.out)
            clear HX HAt HGot
            go_wp2_with (first | (go_at_call 8; refine (CF _).out.mono ?_; clear CF; rintro e W5 ⟨rfl, K5⟩; have T5 := hideV (T0.out.kept K5); obtain ⟨y0, y1, y2, y3, y4, fz5⟩ := T5.out.cells; have T5s := hideV (T5.out.put (bq (fl 0 tl))); have K5s := hideV (kept_put (u := .string (bq (fl 0 tl))) (K0a.out.trans K5 (fun _ f => f.elim)) hgs); obtain ⟨c52, c53, c54⟩ := HCell.out _ K5s.out; obtain ⟨d0, d1, d2, d3, d4, _⟩ := T5s.out.cells) | (go_at_call 9; refine (CP.out _ K5s.out).mono ?_; clear CP; rintro e W6 ⟨rfl, K6⟩; have T6 := hideV (T5s.out.kept K6); obtain ⟨e0, e1, e2, e3, e4, fz6⟩ := T6.out.cells; have K6s := hideV (K5s.out.trans K6 (fun _ f => f.elim)); obtain ⟨c62, c63, c64⟩ := HCell.out _ K6s.out) | (go_at_call 10; refine (CM _).out.mono ?_; clear CM; rintro e W7 ⟨rfl, K7⟩; have T7 := hideV (T6.out.kept K7); obtain ⟨h0, h1, h2, h3, h4, fz7⟩ := T7.out.cells; have T7s := hideV (T7.out.put (bq (stem (fl 0 tl)))); have K7s := hideV (kept_put (u := .string (bq (stem (fl 0 tl)))) (K6s.out.trans K7 (fun _ f => f.elim)) hgs); obtain ⟨i0, i1, i2, i3, i4, _⟩ := T7s.out.cells))
            go_roundw
            case rel => exact ⟨k + 1, n, by omega, hn, by go_num, rfl, HN2, K7s⟩
            case measure => simp [intOf]; omega
    · obtain rfl : k = N := by omega
      have hT : L.take k = L := List.take_of_length_le (by rw [HLn.out]; exact Nat.le_refl _)
      have e2 : n = ng := by rw [HN.out, hT, HNg.out, HGe.out]
      subst e2
      clear G2 GG FD HLs HLn HS HN HGe HNg
      go_wp2
      go_ret
      exact ⟨rfl, KW.out.trans KK.out (fun _ f => f.elim)⟩
end Go.Proofs.YtnkmjhcddegkhaaDoor
