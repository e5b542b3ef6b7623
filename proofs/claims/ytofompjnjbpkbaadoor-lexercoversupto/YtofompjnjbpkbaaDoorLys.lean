import Derived.Test.YtofompjnjbpkbaaDoorLyr
namespace Go.Proofs.YtofompjnjbpkbaaDoor
open Go.ChangeShapes Go.WideShapes Go.ChangeAt Go.RowKit

theorem cov_cons (l : List UInt8) (a : Nat) (M : List Lx) (h : Cov l a M) : ∃ x N, M = x :: N ∧ a ≤ x.a ∧ x.a ≤ x.e ∧ x.e ≤ l.length ∧ blk ((l.drop a).take (x.a - a)) = true := by
  cases M with
  | nil => exact h.elim
  | cons x N =>
    cases N with
    | nil =>
      obtain ⟨rfl, h1, h2⟩ := h
      exact ⟨_, _, rfl, h1, Nat.le_refl _, Nat.le_refl _, h2⟩
    | cons y N =>
      obtain ⟨h1, h2, h3, h4, _⟩ := h
      exact ⟨_, _, rfl, h1, by omega, h3, h4⟩
theorem slice_of (l : List UInt8) (i j : Nat) (h : i ≤ j) (hj : j ≤ l.length) (W : World) : (Instr.slice 9 (.string (bq l)) (some (.int .i64 (i : Int))) (some (.int .i64 (j : Int))) none).run Tryd.prog W = .ok (.string (bq ((l.drop i).take (j - i)))) W := by
  rw [run_slice_string W 9 (bq l) .i64 .i64 (i : Int) (j : Int) Tryd.underlying9 (by omega) (by omega) (by rw [bq_size]; omega), Int.toNat_natCast, Int.toNat_natCast, bq_extract]
theorem lx2_new (w : World) (x y : Lx) : ∀ k z, [x, y][k]? = some z → LxAt (w.alloc (.cells #[.int .i64 (x.k : Int), .string (bq x.t), .int .i64 x.n, .int .i64 (x.a : Int), .int .i64 (x.e : Int), .int .i64 (y.k : Int), .string (bq y.t), .int .i64 y.n, .int .i64 (y.a : Int), .int .i64 (y.e : Int)] 34)) w.heap.size k z := by
  intro k z h
  match k, h with
  | 0, h =>
    simp at h; subst h
    refine ⟨?_, ?_, ?_, ?_, ?_⟩ <;> (rw [World.cell?_alloc_new]; rfl)
  | 1, h =>
    simp at h; subst h
    refine ⟨?_, ?_, ?_, ?_, ?_⟩ <;> (rw [World.cell?_alloc_new]; rfl)
/-- The law where the text is long, or has a fault. -/
theorem covers_edge (l : List UInt8) (w : World) (ad : Addr) (hC : ClsAt w) (hS : SynAt w ad) (hl : l.length ≤ 400000000000) (h : 16384 < l.length ∨ ∃ f, (scanF l).2 = some f) :
    Calls Tryd.prog 4 #[.string (bq l)] w fun e w' => e = .returned (.bool true) ∧ Kept (fun _ => False) w w' := by
  have CV := hideL (lives13_any w ad hC hS)
  have hz : (bq l).size = l.length := bq_size l
  by_cases hb : 16384 < l.length
  · have u1 : (16384 : Int) < ((bq l).size : Int) := by omega
    generalize bq l = s at *
    clear hC hS h hz hb
    go_enter Tryd.func4, Tryd.ntmps4
    go_wp2_with (go_at_call 8; refine CV.out.mono ?_; clear CV; rintro x W1 ⟨rfl, k1⟩; have K1 := hideL k1; clear k1)
    go_ret
    exact ⟨rfl, K1.out⟩
  · obtain ⟨f, hZ⟩ : ∃ f, (scanF l).2 = some f := h.elim (fun x => absurd x hb) id
    have C1 := hideL (fun W (k : Kept (fun _ => False) w W) => scan_some l W ad (hC.later k) (hS.later k) hl f hZ)
    have HS := hideL hS
    have u1 : ¬ (16384 : Int) < ((bq l).size : Int) := by omega
    generalize bq l = s at *
    clear hC hS h hz hb hZ
    go_enter Tryd.func4, Tryd.ntmps4
    go_wp2_with (first
      | (go_at_call 8; refine CV.out.mono ?_; clear CV; rintro x W1 ⟨rfl, k1⟩; have K1 := hideL k1; clear k1)
      | (go_at_call 9; refine (C1.out _ K1.out).mono ?_; clear C1; rintro x W2 ⟨rfl, k2⟩; have K2 := hideL (K1.out.trans k2 (fun _ f => f.elim)); have b2 := (HS.out.later K2.out).var; unfold synV at b2; have q2 := errEqL W2 ad; clear K1 k2))
    go_ret
    exact ⟨rfl, K2.out⟩
set_option maxRecDepth 20000 in
set_option maxHeartbeats 4000000 in
theorem covers_good (l : List UInt8) (w : World) (ad : Addr) (hC : ClsAt w) (hS : SynAt w ad) (hl : l.length ≤ 16384) (hZ : (scanF l).2 = none) :
    Calls Tryd.prog 4 #[.string (bq l)] w fun e w' => e = .returned (.bool true) ∧ Kept (fun _ => False) w w' := by
  have CV := hideL (lives13_any w ad hC hS)
  obtain ⟨L, hL⟩ : ∃ L, L = (scanF l).1 := ⟨_, rfl⟩
  have h1 : scanF l = (L, none) := by rw [hL, ← hZ]
  obtain ⟨p0, p1, -⟩ := scan_pos l hZ
  have hcov := scan_cov l hZ
  rw [← hL] at p0 p1 hcov
  obtain ⟨m, hm⟩ : ∃ m, m = L.length := ⟨_, rfl⟩
  have C1 := hideL (fun W (k : Kept (fun _ => False) w W) => scan_list l L m W ad (hC.later k) (hS.later k) (by omega) h1 hm (by omega))
  have CA := hideL (fun (s : List UInt8) (L2 : List Lx) W (k : Kept (fun _ => False) w W) (h2 : scanF s = (L2, none)) (hl : s.length ≤ 400000000000) (hn : 2 = L2.length) => scan_list s L2 2 W ad (hC.later k) (hS.later k) hl h2 hn (by omega))
  have SL := hideL (fun i j h hj W => slice_of l i j h hj W)
  have HCV := hideL hcov
  have HM := hideL hm
  have hz : (bq l).size = l.length := bq_size l
  have hz1 : (bq l).size ≤ 16384 := by omega
  have u1 : ¬ (16384 : Int) < ((bq l).size : Int) := by omega
  have u0 : decide ((16384 : Int) < ((bq l).size : Int)) = false := decide_eq_false u1
  have HZS := hideL hz
  have hmb : m ≤ 16385 := by omega
  have hm0 : 0 < m := by omega
  generalize bq l = s at *
  clear hC hS hZ hL h1 p0 p1 hcov hm hz
  go_enter Tryd.func4, Tryd.ntmps4
  go_wp2_with (first
    | (go_at_call 8; refine CV.out.mono ?_; clear CV; rintro x W1 ⟨rfl, k1⟩; have K1 := hideL k1; clear k1)
    | (go_at_call 9; refine (C1.out _ K1.out).mono ?_; clear C1; rintro x W2 ⟨⟨g, c2, rfl, l2⟩, k2⟩; have K2 := hideL (K1.out.trans k2 (fun _ f => f.elim)); have L2 := hideL l2; clear K1 k2 l2))
  clear u1 u0
  go_loopw [7, 42] (fun av iv wr => ∃ (k at' : Nat), k ≤ m ∧ av = .int .i64 at' ∧ iv = .int .i64 k ∧ Hid (Cov l at' (L.drop k)) ∧ Hid (∀ j y, L[j]? = some y → LxAt wr g j y) ∧ Hid (Kept (fun _ => False) w wr)) (fun _ iv _ => m - (intOf iv).toNat)
  case atStart => exact ⟨0, 0, by omega, rfl, rfl, HCV, L2, K2⟩
  case round =>
    obtain ⟨k, at', hk, rfl, rfl, HC2, HLs, HK⟩ := hrel
    clear HCV L2 K2
    obtain ⟨x, N, hdr, i1, i2, i3, hbl⟩ := cov_cons l at' _ HC2.out
    have hkm : k < L.length := by
      rcases Nat.lt_or_ge k L.length with h | h
      · exact h
      · rw [List.drop_of_length_le h] at hdr; cases hdr
    have hlt : k < m := by rw [HM.out]; exact hkm
    have hkz : (k : Int) < (m : Int) := by omega
    have hLk : L[k]? = some x := by
      rw [List.drop_eq_getElem_cons hkm] at hdr
      rw [List.getElem?_eq_getElem hkm, (List.cons.inj hdr).1]
    have hlx := HLs.out k x hLk
    have s1 := SL.out at' x.a i1 (by omega)
    have CB := hideL (fun W => blanks_any ((l.drop at').take (x.a - at')) W (by rw [List.length_take, List.length_drop]; omega))
    have hbl2 : ((l.drop at').take (x.a - at')).all (fun c => cl c == 101) = true := hbl
    rw [hbl2] at CB
    generalize bq ((l.drop at').take (x.a - at')) = v1 at s1 CB
    have HC3 := HC2.out
    rw [hdr] at HC3
    cases N with
    | nil =>
      obtain ⟨hx, -, -⟩ := HC3
      subst hx
      have hlast : k + 1 = m := by
        have := congrArg List.length hdr
        rw [List.length_drop] at this
        simp at this
        have := HM.out
        omega
      obtain ⟨x0, x1, x2, x3, x4⟩ := hlx
      have y0 : wr.cell? ⟨g, k * 5, none⟩ = some (.int .i64 0) := x0
      have y1 : wr.cell? ⟨g, k * 5 + 1, none⟩ = some (.string ⟨#[]⟩) := x1
      have y2 : wr.cell? ⟨g, k * 5 + 2, none⟩ = some (.int .i64 0) := x2
      have y3 : wr.cell? ⟨g, k * 5 + 3, none⟩ = some (.int .i64 (s.size : Int)) := by rw [HZS.out]; exact x3
      have y4 : wr.cell? ⟨g, k * 5 + 4, none⟩ = some (.int .i64 (s.size : Int)) := by rw [HZS.out]; exact x4
      have e9 : (endT l.length).a = s.size := HZS.out.symm
      rw [e9] at s1 i1
      have j1 : ¬ (s.size : Int) < (at' : Int) := by omega
      have j2 : (k : Int) = (m : Int) - 1 := by omega
      have j3 : ((k : Int) == (m : Int) - 1) = true := by rw [j2]; simp
      have HJ2 := hideL j2
      clear x0 x1 x2 x3 x4 hLk hdr HC2 hbl hbl2 CA SL i2 i3 e9 j2 hkm hlast
      go_wp2_with (go_at_call 13; refine (CB.out _).mono ?_; clear CB; rintro x W3 ⟨rfl, e3⟩; subst e3)
      go_ret
      exact ⟨rfl, HK.out.trans (Kept.alloc _ _) (fun _ f => f.elim)⟩
    | cons y N =>
      obtain ⟨h1, h2, h3, h4, hk0, hsc, hcov⟩ := HC3
      have HCn : Hid (Cov l x.e (L.drop (k + 1))) := hideL (by
        have := congrArg (List.drop 1) hdr
        rw [List.drop_drop] at this
        rw [this]; exact hcov)
      have hmore : k + 1 < m := by
        have := congrArg List.length hdr
        rw [List.length_drop] at this
        simp at this
        have := HM.out
        omega
      have s2 := SL.out x.a x.e (by omega) h3
      obtain ⟨z, hz⟩ : ∃ z, z = x.e - x.a := ⟨_, rfl⟩
      rw [← hz] at hsc s2
      have CS := hideL (fun W (kk : Kept (fun _ => False) w W) => CA.out ((l.drop x.a).take z) [⟨x.k, x.t, x.n, 0, z⟩, endT z] W kk hsc (by rw [List.length_take, List.length_drop]; omega) rfl)
      generalize bq ((l.drop x.a).take z) = v2 at s2 CS
      obtain ⟨x0, x1, x2, x3, x4⟩ := hlx
      have z1 : (x.e : Int) - (x.a : Int) = (z : Int) := by omega
      have z2 : ((z : Int) == 0) = false := by rw [beq_eq_false_iff_ne]; omega
      have z3 : ((x.k : Int) == 0) = false := by rw [beq_eq_false_iff_ne]; omega
      have j1 : ¬ (x.a : Int) < (at' : Int) := by omega
      have j4 : ¬ (x.e : Int) < (x.a : Int) := by omega
      have j5 : ¬ (s.size : Int) < (x.e : Int) := by have := HZS.out; omega
      have j3 : ((k : Int) == (m : Int) - 1) = false := by rw [beq_eq_false_iff_ne]; omega
      have j6 : z ≤ 16384 := by omega
      have j7 : x.e ≤ 16384 := by omega
      have j8 : x.a ≤ 16384 := by omega
      obtain ⟨xk, xt, xn, xa, xe⟩ := x
      dsimp only at x0 x1 x2 x3 x4 s1 s2 z1 z2 z3 j1 j4 j5 j7 j8 HCn CS
      clear hLk hdr HC2 hbl hbl2 CA SL i1 i2 i3 hkm h1 h2 h3 h4 hk0 hsc hcov hz
      go_wp2_with (first
        | (go_at_call 13; refine (CB.out _).mono ?_; clear CB; rintro x W3 ⟨rfl, e3⟩; subst e3)
        | (go_at_call 9; have KV := hideL (HK.out.trans (Kept.alloc wr (.cells #[.int .i64 (xk : Int), .string (bq xt), .int .i64 xn, .int .i64 (xa : Int), .int .i64 (xe : Int)] 34)) (fun _ f => f.elim)); have d := lx_new wr (.int .i64 (xk : Int)) (.string (bq xt)) (.int .i64 xn) (.int .i64 (xa : Int)) (.int .i64 (xe : Int)); have LV := hideL (fun j y h => (HLs.out j y h).later (Kept.alloc wr (.cells #[.int .i64 (xk : Int), .string (bq xt), .int .i64 xn, .int .i64 (xa : Int), .int .i64 (xe : Int)] 34))); refine (CS.out _ KV.out).mono ?_; clear CS; rintro x W5 ⟨⟨g5, c5, rfl, l5⟩, k5⟩; have d0 := k5.cell d.1 (fun f => f); have d1 := k5.cell d.2.1 (fun f => f); have d2 := k5.cell d.2.2.1 (fun f => f); have d3 := k5.cell d.2.2.2.1 (fun f => f); have d4 := k5.cell d.2.2.2.2 (fun f => f); have e0 := (Kept.alloc W5 (.cells #[.int .i64 (xk : Int), .string (bq xt), .int .i64 xn, .int .i64 0, .int .i64 (z : Int)] 34)).cell d0 (fun f => f); have L5 := hideL l5; have LW := hideL (fun j y h => (LV.out j y h).later k5); have K5 := hideL (KV.out.trans k5 (fun _ f => f.elim)); clear d l5 LV KV k5 HK HLs)
        | (go_at_call 11; refine Stp13.go ?_))
      refine ⟨?_⟩
      have KA := Kept.alloc W5 (.cells #[.int .i64 (xk : Int), .string (bq xt), .int .i64 xn, .int .i64 0, .int .i64 (z : Int)] 34)
      have KB := Kept.alloc (W5.alloc (.cells #[.int .i64 (xk : Int), .string (bq xt), .int .i64 xn, .int .i64 0, .int .i64 (z : Int)] 34)) (.cells #[.int .i64 (xk : Int), .string (bq xt), .int .i64 xn, .int .i64 0, .int .i64 (z : Int), .int .i64 0, .string ⟨#[]⟩, .int .i64 0, .int .i64 (z : Int), .int .i64 (z : Int)] 34)
      refine (same_true [⟨xk, xt, xn, 0, z⟩, endT z] 2 g5 (W5.heap.size + 1) c5 2 _ rfl (by decide) (fun j y h => ((L5.out j y h).later KA).later KB) (fun j y h => ?_)).mono ?_
      · have := lx2_new (W5.alloc (.cells #[.int .i64 (xk : Int), .string (bq xt), .int .i64 xn, .int .i64 0, .int .i64 (z : Int)] 34)) ⟨xk, xt, xn, 0, z⟩ (endT z) j y h
        rw [World.size_alloc] at this
        exact this
      · rintro x W8 ⟨rfl, k8⟩
        have K58 := (KA.trans KB (fun _ f => f.elim)).trans k8 (fun _ f => f.elim)
        have L8 := hideL (fun j y h => (LW.out j y h).later K58)
        have K8 := hideL (K5.out.trans K58 (fun _ f => f.elim))
        clear KA KB k8 K58 L5 LW K5 d0 d1 d2 d3 d4 e0 x0 x1 x2 x3 x4
        go_wp2_with fail
        go_roundw
        case rel => exact ⟨k + 1, xe, by omega, rfl, by go_num, HCn, L8, K8⟩
        case measure => simp [intOf] <;> omega
theorem covers_all (l : List UInt8) (w : World) (hC : ClsAt w) (hS : ∃ ad, SynAt w ad) (hl : l.length ≤ 400000000000) :
    Calls Tryd.prog 4 #[.string (bq l)] w fun e w' => e = .returned (.bool true) ∧ Kept (fun _ => False) w w' := by
  obtain ⟨ad, hS⟩ := hS
  by_cases h : 16384 < l.length
  · exact covers_edge l w ad hC hS hl (.inl h)
  · cases hZ : (scanF l).2 with
    | some f => exact covers_edge l w ad hC hS hl (.inr ⟨f, hZ⟩)
    | none => exact covers_good l w ad hC hS (by omega) hZ
end Go.Proofs.YtofompjnjbpkbaaDoor
