import Derived.Test.YtakjaablankipaaDoorLzn
namespace Go.Proofs.YtakjaablankipaaDoor
open Go.ChangeShapes Go.WideShapes Go.ChangeAt Go.RowKit

set_option maxRecDepth 20000 in
set_option maxHeartbeats 4000000 in
theorem rscan_cons (l : List UInt8) (w : World) (hl : l.length ≤ 400000000000) (h0 : l ≠ []) : Calls Tryd.prog 7 #[.string (bq l)] w (rsPost w (scanF l)) := by
  obtain ⟨G, hGd⟩ : ∃ G, G = sgp 0 l := ⟨_, rfl⟩
  obtain ⟨N, hN⟩ : ∃ N, N = G.length := ⟨_, rfl⟩
  obtain ⟨Z, hZ⟩ : ∃ Z, Z = scanF l := ⟨_, rfl⟩
  have HS0 : Hid (SP l G 0 0) := hideL (by rw [hGd]; exact sp_zero l)
  have hNp : 0 < N := by
    rcases sp_cases HS0.out with ⟨h1, _⟩ | ⟨_, _, h1, _⟩
    · cases l with
      | nil => exact absurd rfl h0
      | cons c l => simp at h1
    · omega
  have hnb : N ≤ 400000000000 := by rw [hN, hGd]; exact Nat.le_trans (sgp_len 0 l) hl
  have HZ0 : Hid (Z = cmL [] (scF (l.length - 0 + 1) 0 (l.drop 0))) := hideL (by rw [hZ]; rfl)
  have CS := hideL (fun W => signs_any l W hl)
  rw [← hGd, ← hN] at CS
  unfold sgPost at CS
  have HN := hideL hN
  have CB := hideL rblank_any
  have CY := hideL (fun (b cp i p : Nat) (W : World) (hG : SgB W b G) (hS : SP l G i p) (hcp : N ≤ cp) (hin : i < N) (c : UInt8) (s : List UInt8) (hd : l.drop p = c :: s) (hbc : bkB c = false) (t : Tk) (ht : tokF (l.drop p) = some t) => one_yes l G b N cp i p W hN hnb hG hS hcp hin hd hbc t ht)
  have CN := hideL (fun (b cp i p : Nat) (W : World) (hG : SgB W b G) (hS : SP l G i p) (hcp : N ≤ cp) (hin : i < N) (c : UInt8) (s : List UInt8) (hd : l.drop p = c :: s) (hbc : bkB c = false) (ht : tokF (l.drop p) = none) => one_no l G b N cp i p W hN hnb hG hS hcp hin hd hbc ht)
  have HNO : Hid (∀ (f : Nat) a c w', Z.2 = some f → Kept (fun _ => False) w w' → rsPost w Z (.returned (.tuple #[.slice a 0 c, .int .i64 (f : Int), .int .i64 16])) w') := hideL (fun f a c w' h k => .inr ⟨f, h, ⟨a, c, rfl⟩, k⟩)
  have HYE : Hid (∀ a c m w' L, Z = (L, none) → Tks w w' a c m L → rsPost w Z (.returned (.tuple #[.slice a m c, .int .i64 0, .int .i64 0])) w') := hideL (fun a c m w' L h k => .inl ⟨by rw [h], a, c, m, rfl, by rw [h]; exact k⟩)
  rw [← hZ]
  generalize rsPost w Z = Q at *
  have hsz : (bq l).size = l.length := bq_size l
  generalize bq l = str at *
  obtain ⟨nl, hnl⟩ : ∃ nl, nl = l.length := ⟨_, rfl⟩
  rw [← hnl] at hsz hl
  have HNL := hideL hnl
  clear hN hGd hZ h0 hnl
  go_enter Tryd.func7, Tryd.ntmps7
  go_wp2_with (go_at_call 16; refine (CS.out _).mono ?_; clear CS; rintro e W9 ⟨a9, cp, rfl, G9⟩; obtain ⟨b, rfl, hcp, hB9⟩ := G9.sgb hNp; have HT := hideL (tks_empty w W9 G9.gro.kept); have HB := hideL (hB9.later (Kept.alloc W9 (.cells #[] 41))); clear G9 hB9)
  go_loopw [6, 7] (fun ov iv wr => ∃ (k p m : Nat) (a : Option Addr) (c : Nat) (L : List Lx), iv = .int .i64 k ∧ ov = .slice a m c ∧ k ≤ N ∧ m ≤ k ∧ Hid (Tks w wr a c m L) ∧ Hid (SgB wr b G) ∧ Hid (SP l G k p) ∧ Hid (Z = cmL L (scF (l.length - p + 1) p (l.drop p)))) (fun _ iv _ => N - (intOf iv).toNat)
  case atStart => exact ⟨0, 0, 0, _, _, [], rfl, rfl, by omega, by omega, HT, HB, HS0, HZ0⟩
  case round =>
    obtain ⟨k, p, m, a, c, L, rfl, rfl, hk, hmk, HTr, HGr, HSp, HZ⟩ := hrel
    clear HT HB HS0 HZ0
    rcases sp_cases HSp.out with ⟨h1, h2⟩ | ⟨x, q, hkG, hx, hq, hSn, hh⟩
    · have hkn : k = N := by have := HN.out; omega
      have hkz : ¬ (k : Int) < (N : Int) := by omega
      have HZe : Hid (Z = (L ++ [endT nl], none)) := hideL (by rw [HZ.out, List.drop_of_length_le (by omega), cm_end, h1, HNL.out])
      have HE : Hid ((0 : Int) = ((endT nl).k : Int) ∧ (⟨#[]⟩ : ByteArray) = bq (endT nl).t ∧ (0 : Int) = (endT nl).n ∧ (nl : Int) = ((endT nl).a : Int) ∧ (nl : Int) = ((endT nl).e : Int)) := hideL ⟨rfl, rfl, rfl, rfl, rfl⟩
      clear HZ h1 h2 hkn CB CY CN HNO HSp HGr
      go_wp2_with (at_builtin; refine wpList_pushLx rfl _ _ rfl _ _ m L (endT nl) _ _ _ _ _ rfl HTr _ (by first | rfl | simp) rfl HE (by omega) ?_; intro a4 c4 W4 H4 K4; clear HTr K4)
      go_ret3
      exact HYE.out _ _ _ _ _ HZe.out H4.out
    · obtain ⟨xc, xl, xp, xz⟩ := x
      have hkn : k < N := by have := HN.out; omega
      have hkz : (k : Int) < (N : Int) := by omega
      obtain ⟨x0, x1, x2, x3⟩ := HGr.out.l k _ hx
      rw [Nat.zero_add] at x0 x1 x2 x3
      dsimp only at x0 x1 x2 x3
      rcases sign_ways hh with ⟨s, hxl, hbk, hd, hq1⟩ | ⟨hxl, ch, s, hd, hbk⟩
      · dsimp only at hxl hbk hd
        subst hxl hq1
        have HSn := hideL hSn
        have HZn : Hid (Z = cmL L (scF (l.length - (p + 1) + 1) (p + 1) (l.drop (p + 1)))) := hideL (by rw [HZ.out, sc_stepB L hd (by rw [bk_cl] at hbk; simpa using hbk)])
        have C1 := hideL (fun W => CB.out xc W)
        rw [hbk] at C1
        have hxb : xc.toNat < 256 := xc.toNat_lt
        generalize xc.toNat = qx at x0 C1 hxb
        clear hh hx hq hSn hd hbk HZ HSp CB CY CN HNO HYE x2 x3
        go_wp2_with (go_at_call 17; refine (C1.out _).mono ?_; clear C1; rintro e w6 ⟨rfl, e6⟩; subst e6)
        go_roundw
        case rel => exact ⟨k + 1, p + 1, m, a, c, L, by go_num, rfl, by omega, by omega, HTr, HGr, HSn, HZn⟩
        case measure => simp [intOf] <;> omega
      · dsimp only at hxl
        have C0 := hideL (fun W => CB.out xc W)
        have hcl : cl ch ≠ 101 := by intro e; rw [bk_cl, e] at hbk; cases hbk
        have hxb : xc.toNat < 256 := xc.toNat_lt
        cases ht : tokF (l.drop p) with
        | none =>
          have hzn : Z.2 = some p := by rw [HZ.out]; exact sc_stepN L hd hcl ht
          have HZN := hideL hzn
          have C1 := hideL (CN.out b cp k p wr HGr.out HSp.out hcp hkn ch s hd hbk ht)
          have HKr := hideL HTr.out.gro.kept
          have hxl2 : xl = false → bkB xc = false := by intro e; rcases hxl with h | h; rw [e] at h; cases h; exact h
          clear hh hx hq hSn hd hbk HZ HSp CB CY CN HYE x2 x3 ht hcl hzn hxl HTr
          cases xl with
          | true =>
            clear C0 hxl2
            generalize xc.toNat = qx at x0 hxb
            go_wp2_with (go_at_call 18; refine C1.out.mono ?_; clear C1; rintro e w6 ⟨z6, rfl, k6⟩; have K6 := hideL k6; clear k6)
            obtain ⟨-, -, -, d3, -⟩ := lx_new w6 (.int .i64 (-1)) (.string ⟨#[]⟩) (.int .i64 0) (.int .i64 (p : Int)) (.int .i64 0)
            have KV := hideL ((HKr.out.trans K6.out (fun _ f => f.elim)).trans (Kept.alloc w6 (.cells #[.int .i64 (-1), .string ⟨#[]⟩, .int .i64 0, .int .i64 (p : Int), .int .i64 0] 41)) (fun _ f => f.elim))
            generalize w6.alloc (.cells #[.int .i64 (-1), .string ⟨#[]⟩, .int .i64 0, .int .i64 (p : Int), .int .i64 0] 41) = V at *
            generalize w6.heap.size = b8 at *
            have d3a := (Kept.alloc V (.cells #[] 41)).cell d3 (fun f => f)
            clear HKr K6 x0 x1
            go_region
            all_goals go_wp2
            all_goals go_ret3
            all_goals exact HNO.out p _ _ _ HZN.out (KV.out.trans ((Kept.drew V).trans (Kept.alloc _ _) (fun _ f => f.elim)) (fun _ f => f.elim))
          | false =>
            rw [hxl2 rfl] at C0
            clear hxl2
            generalize xc.toNat = qx at x0 C0 hxb
            go_wp2_with (first | (go_at_call 17; refine (C0.out _).mono ?_; clear C0; rintro e w5 ⟨rfl, e5⟩; subst e5) | (go_at_call 18; refine C1.out.mono ?_; clear C1; rintro e w6 ⟨z6, rfl, k6⟩; have K6 := hideL k6; clear k6))
            obtain ⟨-, -, -, d3, -⟩ := lx_new w6 (.int .i64 (-1)) (.string ⟨#[]⟩) (.int .i64 0) (.int .i64 (p : Int)) (.int .i64 0)
            have KV := hideL ((HKr.out.trans K6.out (fun _ f => f.elim)).trans (Kept.alloc w6 (.cells #[.int .i64 (-1), .string ⟨#[]⟩, .int .i64 0, .int .i64 (p : Int), .int .i64 0] 41)) (fun _ f => f.elim))
            generalize w6.alloc (.cells #[.int .i64 (-1), .string ⟨#[]⟩, .int .i64 0, .int .i64 (p : Int), .int .i64 0] 41) = V at *
            generalize w6.heap.size = b8 at *
            have d3a := (Kept.alloc V (.cells #[] 41)).cell d3 (fun f => f)
            clear HKr K6 x0 x1
            go_region
            all_goals go_wp2
            all_goals go_ret3
            all_goals exact HNO.out p _ _ _ HZN.out (KV.out.trans ((Kept.drew V).trans (Kept.alloc _ _) (fun _ f => f.elim)) (fun _ f => f.elim))
        | some t =>
          have HZT := hideL (HZ.out.trans (sc_stepT L hd hcl t ht))
          have C1 := hideL (CY.out b cp k p wr HGr.out HSp.out hcp hkn ch s hd hbk t ht)
          have htz := tok_len _ t ht
          have hpl : p ≤ l.length := HSp.out.2.1
          have hpb : p ≤ 400000000000 := by have := HNL.out; omega
          have hxl2 : xl = false → bkB xc = false := by intro e; rcases hxl with h | h; rw [e] at h; cases h; exact h
          obtain ⟨tk, tt, tn, tz⟩ := t
          dsimp only at C1 HZT
          clear hh hx hq hSn hd hbk HZ HSp CB CY CN HNO HYE x2 x3 ht hcl hxl htz hpl
          cases xl with
          | true =>
            clear C0 hxl2
            generalize xc.toNat = qx at x0 hxb
            go_wp2_with (go_at_call 18; refine C1.out.mono ?_; clear C1; rintro e w6 ⟨j, yp, yz, rfl, HSj, hkj, hjn, y2, y3, HYQ, hyb, k6⟩; have K6 := hideL k6; have hjz : (j : Int) < (N : Int) := (by omega); have htk : ¬ (tk : Int) < 0 := (by omega); clear k6)
            have hV := heap_alloc_new w6 (.cells #[.int .i64 (tk : Int), .string (bq tt), .int .i64 tn, .int .i64 (p : Int), .int .i64 0] 41)
            have KA := Kept.alloc w6 (.cells #[.int .i64 (tk : Int), .string (bq tt), .int .i64 tn, .int .i64 (p : Int), .int .i64 0] 41)
            have y2v := KA.cell y2 (fun f => f)
            have y3v := KA.cell y3 (fun f => f)
            have KV := hideL (K6.out.trans KA (fun _ f => f.elim))
            have KW := hideL KA
            clear KA y2 y3 x0 x1
            generalize hVe : w6.alloc (.cells #[.int .i64 (tk : Int), .string (bq tt), .int .i64 tn, .int .i64 (p : Int), .int .i64 0] 41) = V at hV y2v y3v KV KW ⊢
            obtain ⟨d0, d1, d2, d3, d4⟩ := (show V.cell? ⟨w6.heap.size, 0, none⟩ = some (.int .i64 (tk : Int)) ∧ V.cell? ⟨w6.heap.size, 1, none⟩ = some (.string (bq tt)) ∧ V.cell? ⟨w6.heap.size, 2, none⟩ = some (.int .i64 tn) ∧ V.cell? ⟨w6.heap.size, 3, none⟩ = some (.int .i64 (p : Int)) ∧ V.cell? ⟨w6.heap.size, 4, none⟩ = some (.int .i64 0) by rw [← hVe]; exact lx_new w6 _ _ _ _ _)
            have f4 : V.frozen? ⟨w6.heap.size, 4, none⟩ = false := by simp [World.frozen?, hV]
            have hbw := hideL K6.out.size
            have hyb2 : yp + yz ≤ 400000000000 := by have := HNL.out; omega
            have HYZ := hideL (show (tk : Int) = ((⟨tk, tt, tn, p, p + tz⟩ : Lx).k : Int) ∧ bq tt = bq (⟨tk, tt, tn, p, p + tz⟩ : Lx).t ∧ tn = (⟨tk, tt, tn, p, p + tz⟩ : Lx).n ∧ (p : Int) = ((⟨tk, tt, tn, p, p + tz⟩ : Lx).a : Int) ∧ (yp : Int) + (yz : Int) = ((⟨tk, tt, tn, p, p + tz⟩ : Lx).e : Int) from ⟨rfl, rfl, rfl, rfl, by have := HYQ.out; show (yp : Int) + (yz : Int) = ((p + tz : Nat) : Int); omega⟩)
            clear hVe KW
            generalize w6.heap.size = b8 at *
            have HVV := hideL hV
            clear hV
            go_region
            have hX := heap_setCell_same V b8 4 _ _ (.int .i64 ((yp : Int) + (yz : Int))) HVV.out
            have hX : (V.setCell ⟨b8, 4, none⟩ (.int .i64 ((yp : Int) + (yz : Int)))).drew.heap[b8]? = some (.cells #[.int .i64 (tk : Int), .string (bq tt), .int .i64 tn, .int .i64 (p : Int), .int .i64 ((yp : Int) + (yz : Int))] 41 (0, 0)) := hX
            have KX := (kept_putL (o := 4) (v := .int .i64 ((yp : Int) + (yz : Int))) KV.out hbw.out).trans (Kept.drew _) (fun _ f => f.elim)
            have HTX := hideL (HTr.out.later KX)
            have HGX := hideL (HGr.out.later KX)
            obtain ⟨e0, e1, e2, e3, e4, -⟩ := row_cells5 hX
            clear HTr HGr KX KV hX d0 d1 d2 d3 d4 f4 y2v y3v K6 HVV hbw HYQ hyb
            generalize (V.setCell ⟨b8, 4, none⟩ (.int .i64 ((yp : Int) + (yz : Int)))).drew = X at *
            go_wp2_with (at_builtin; refine wpList_pushLx rfl _ _ rfl _ _ m L ⟨tk, tt, tn, p, p + tz⟩ _ _ _ _ _ rfl HTX _ (by first | rfl | simp) rfl HYZ (by omega) ?_; intro a4 c4 W4 H4 K4; have HG4 := hideL (HGX.out.other K4.out (by decide)); clear HTX K4 HGX)
            go_roundw
            case rel => exact ⟨j + 1, p + tz, m + 1, a4, c4, _, by go_num, rfl, by omega, by omega, H4, HG4, HSj, HZT⟩
            case measure => simp [intOf] <;> omega
          | false =>
            rw [hxl2 rfl] at C0
            clear hxl2
            generalize xc.toNat = qx at x0 C0 hxb
            go_wp2_with (first | (go_at_call 17; refine (C0.out _).mono ?_; clear C0; rintro e w5 ⟨rfl, e5⟩; subst e5) | (go_at_call 18; refine C1.out.mono ?_; clear C1; rintro e w6 ⟨j, yp, yz, rfl, HSj, hkj, hjn, y2, y3, HYQ, hyb, k6⟩; have K6 := hideL k6; have hjz : (j : Int) < (N : Int) := (by omega); have htk : ¬ (tk : Int) < 0 := (by omega); clear k6))
            have hV := heap_alloc_new w6 (.cells #[.int .i64 (tk : Int), .string (bq tt), .int .i64 tn, .int .i64 (p : Int), .int .i64 0] 41)
            have KA := Kept.alloc w6 (.cells #[.int .i64 (tk : Int), .string (bq tt), .int .i64 tn, .int .i64 (p : Int), .int .i64 0] 41)
            have y2v := KA.cell y2 (fun f => f)
            have y3v := KA.cell y3 (fun f => f)
            have KV := hideL (K6.out.trans KA (fun _ f => f.elim))
            have KW := hideL KA
            clear KA y2 y3 x0 x1
            generalize hVe : w6.alloc (.cells #[.int .i64 (tk : Int), .string (bq tt), .int .i64 tn, .int .i64 (p : Int), .int .i64 0] 41) = V at hV y2v y3v KV KW ⊢
            obtain ⟨d0, d1, d2, d3, d4⟩ := (show V.cell? ⟨w6.heap.size, 0, none⟩ = some (.int .i64 (tk : Int)) ∧ V.cell? ⟨w6.heap.size, 1, none⟩ = some (.string (bq tt)) ∧ V.cell? ⟨w6.heap.size, 2, none⟩ = some (.int .i64 tn) ∧ V.cell? ⟨w6.heap.size, 3, none⟩ = some (.int .i64 (p : Int)) ∧ V.cell? ⟨w6.heap.size, 4, none⟩ = some (.int .i64 0) by rw [← hVe]; exact lx_new w6 _ _ _ _ _)
            have f4 : V.frozen? ⟨w6.heap.size, 4, none⟩ = false := by simp [World.frozen?, hV]
            have hbw := hideL K6.out.size
            have hyb2 : yp + yz ≤ 400000000000 := by have := HNL.out; omega
            have HYZ := hideL (show (tk : Int) = ((⟨tk, tt, tn, p, p + tz⟩ : Lx).k : Int) ∧ bq tt = bq (⟨tk, tt, tn, p, p + tz⟩ : Lx).t ∧ tn = (⟨tk, tt, tn, p, p + tz⟩ : Lx).n ∧ (p : Int) = ((⟨tk, tt, tn, p, p + tz⟩ : Lx).a : Int) ∧ (yp : Int) + (yz : Int) = ((⟨tk, tt, tn, p, p + tz⟩ : Lx).e : Int) from ⟨rfl, rfl, rfl, rfl, by have := HYQ.out; show (yp : Int) + (yz : Int) = ((p + tz : Nat) : Int); omega⟩)
            clear hVe KW
            generalize w6.heap.size = b8 at *
            have HVV := hideL hV
            clear hV
            go_region
            have hX := heap_setCell_same V b8 4 _ _ (.int .i64 ((yp : Int) + (yz : Int))) HVV.out
            have hX : (V.setCell ⟨b8, 4, none⟩ (.int .i64 ((yp : Int) + (yz : Int)))).drew.heap[b8]? = some (.cells #[.int .i64 (tk : Int), .string (bq tt), .int .i64 tn, .int .i64 (p : Int), .int .i64 ((yp : Int) + (yz : Int))] 41 (0, 0)) := hX
            have KX := (kept_putL (o := 4) (v := .int .i64 ((yp : Int) + (yz : Int))) KV.out hbw.out).trans (Kept.drew _) (fun _ f => f.elim)
            have HTX := hideL (HTr.out.later KX)
            have HGX := hideL (HGr.out.later KX)
            obtain ⟨e0, e1, e2, e3, e4, -⟩ := row_cells5 hX
            clear HTr HGr KX KV hX d0 d1 d2 d3 d4 f4 y2v y3v K6 HVV hbw HYQ hyb
            generalize (V.setCell ⟨b8, 4, none⟩ (.int .i64 ((yp : Int) + (yz : Int)))).drew = X at *
            go_wp2_with (at_builtin; refine wpList_pushLx rfl _ _ rfl _ _ m L ⟨tk, tt, tn, p, p + tz⟩ _ _ _ _ _ rfl HTX _ (by first | rfl | simp) rfl HYZ (by omega) ?_; intro a4 c4 W4 H4 K4; have HG4 := hideL (HGX.out.other K4.out (by decide)); clear HTX K4 HGX)
            go_roundw
            case rel => exact ⟨j + 1, p + tz, m + 1, a4, c4, _, by go_num, rfl, by omega, by omega, H4, HG4, HSj, HZT⟩
            case measure => simp [intOf] <;> omega
end Go.Proofs.YtakjaablankipaaDoor
