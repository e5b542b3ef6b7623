import Derived.Test.YtmfdoohnladohaaRff
namespace Go.Proofs.Ytmfdoohnladohaa
open Go.ChangeShapes Go.WideShapes Go.ChangeAt Go.RowKit

set_option maxRecDepth 20000 in
set_option maxHeartbeats 8000000 in
theorem rfirst_none (l : List UInt8) (w : World) (hl : l.length ≤ 140737488353000) (hg : lg tb1 l = none) :
    Calls Try.prog 15 #[.string (bq l)] w fun e w' => e = .returned (.string (bq (st1c (st1b (rep tb1 0 l))))) ∧ Kept (fun _ => False) w w' := by
  obtain ⟨l1, h1⟩ : ∃ x, x = rep tb1 0 l := ⟨_, rfl⟩
  have n1 : l1.length ≤ 140737488353000 := by rw [h1]; exact Nat.le_trans (rep1_le 0 l) hl
  obtain ⟨l2, h2⟩ : ∃ x, x = st1b l1 := ⟨_, rfl⟩
  have n2 : l2.length ≤ 140737488353000 := by rw [h2]; exact Nat.le_trans (st1b_le l1) n1
  rw [← h1, ← h2]
  have C1 := fun w b hb => hideV (longest_new l tb1 4 w b hb #[.string ⟨#[115, 115, 101, 115]⟩, .string ⟨#[115, 115]⟩, .string ⟨#[105, 101, 115]⟩, .string ⟨#[105]⟩, .string ⟨#[115, 115]⟩, .string ⟨#[115, 115]⟩, .string ⟨#[115]⟩, .string ⟨#[]⟩] rfl (by omega) (fun p hp => (tb1_k.1 p hp).2) rfl (by decide))
  have CE := fun w b hb => hideV (longest_new l1 tbE 3 w b hb #[.string ⟨#[101, 101, 100]⟩, .string ⟨#[101, 101]⟩, .string ⟨#[101, 100]⟩, .string ⟨#[]⟩, .string ⟨#[105, 110, 103]⟩, .string ⟨#[]⟩] rfl (by omega) (by decide) rfl (by decide))
  have a1 := cutE_le l1 [101, 101, 100]
  have a2 := cutE_le l1 [101, 100]
  have a3 := cutE_le l1 [105, 110, 103]
  have a4 := cutE_le l2 [121]
  have CM := fun w => hideV (rmeasure_any (cutE l1 [101, 101, 100]) w (by omega))
  have MI : meas (cutE l1 [101, 101, 100]) ≤ 140737488353000 := Nat.le_trans (meas_le _) (by omega)
  have V2 := fun w => hideV (rvowelled_any (cutE l1 [101, 100]) w (by omega))
  have V3 := fun w => hideV (rvowelled_any (cutE l1 [105, 110, 103]) w (by omega))
  have D2 := fun w => hideV (rmended_any (cutE l1 [101, 100]) w (by omega))
  have D3 := fun w => hideV (rmended_any (cutE l1 [105, 110, 103]) w (by omega))
  have EY := fun w => hideV (rends_any l2 [121] w (by omega) (by decide))
  have VY := fun w => hideV (rvowelled_any (cutE l2 [121]) w (by omega))
  have se : (bq (cutE l1 [101, 101, 100])).size ≤ 140737488353000 := by rw [bq_size]; omega
  have sy : (bq (cutE l2 [121])).size ≤ 140737488353000 := by rw [bq_size]; omega
  have vz : (bq l2).size = l2.length := bq_size l2
  have vz' : ((bq l2).size : Int) = (l2.length : Int) := by rw [vz]
  have y1 : (bq l2).extract 0 (l2.length - 1) = bq (cutE l2 [121]) := ext_take l2 (l2.length - 1)
  have ypos : sfx l2 [121] = true → 1 ≤ l2.length := fun h => by have := sfx_le h; simpa using this
  have HFC := hideV (st1c_F l2)
  have HFB := hideV (show st1b l1 = _ by unfold st1b; rfl)
  rw [← h2] at HFB
  have HGE := hideV (lg_E l1)
  have HFA := hideV (rep_lg tb1 tb1_k.1 tb1_k.2 0 l)
  rw [← h1] at HFA
  have HS1 : Hid (∀ p, lg tb1 l = some p → (bq (cutE l p.1)).size ≤ 140737488353000 ∧ (bq p.2).size ≤ 7) := hideV (fun p hp => ⟨by rw [bq_size]; have := cutE_le l p.1; omega, by
    have hb := lg_best tb1 l
    rw [hp] at hb
    rw [bq_size]; exact tb1_small p hb.1⟩)
  obtain ⟨Z, hZ⟩ : ∃ Z, Z = bq (st1c l2) := ⟨_, rfl⟩
  rw [← hZ] at HFC ⊢
  obtain ⟨q, hq⟩ : ∃ q, q = l2.length - 1 := ⟨_, rfl⟩
  rw [← hq] at y1
  have HQ0 := hideV hq
  clear hZ hq h1 h2 a1 a2 a3 a4 hl n1
  generalize hasV (cutE l2 [121]) = vy at *
  generalize bq (cutE l2 [121]) = RY at *
  generalize sfx l2 [121] = by1 at *
  have hl1 : l1 = l := by rw [HFA.out, hg]
  rw [hg] at C1
  have C1n : ∀ (w : World) (b : Nat), b = w.heap.size → Hid (Calls Try.prog 32 #[.string (bq l), .slice (some ⟨b, 0, none⟩) 4 4] (w.alloc (.cells #[.string ⟨#[115, 115, 101, 115]⟩, .string ⟨#[115, 115]⟩, .string ⟨#[105, 101, 115]⟩, .string ⟨#[105]⟩, .string ⟨#[115, 115]⟩, .string ⟨#[115, 115]⟩, .string ⟨#[115]⟩, .string ⟨#[]⟩] 37)) fun e w' => e = .returned (.tuple #[.string (bq (cutE l [])), .agg #[.string ⟨#[]⟩, .string ⟨#[]⟩], .bool false]) ∧ Kept (fun _ => False) w w') := C1
  clear C1
  subst hl1
  clear HFA HS1 hg
  generalize bq (cutE l1 []) = R0 at C1n
  generalize hs : bq l1 = s at *
  have hB1 : bq l1 = s := hs
  clear hs
  cases e1 : sfx l1 [101, 101, 100] with
  | true =>
    rw [show lg tbE l1 = some ([101, 101, 100], [101, 101]) by rw [HGE.out, e1]; rfl] at CE
    have CEn : ∀ (w : World) (b : Nat), b = w.heap.size → Hid (Calls Try.prog 32 #[.string s, .slice (some ⟨b, 0, none⟩) 3 3] (w.alloc (.cells #[.string ⟨#[101, 101, 100]⟩, .string ⟨#[101, 101]⟩, .string ⟨#[101, 100]⟩, .string ⟨#[]⟩, .string ⟨#[105, 110, 103]⟩, .string ⟨#[]⟩] 37)) fun e w' => e = .returned (.tuple #[.string (bq (cutE l1 [101, 101, 100])), .agg #[.string ⟨#[101, 101, 100]⟩, .string ⟨#[101, 101]⟩], .bool true]) ∧ Kept (fun _ => False) w w') := CE
    clear CE
    clear V2 V3 D2 D3 HGE
    by_cases hm : 0 < meas (cutE l1 [101, 101, 100])
    · have hV : bq l2 = bq (cutE l1 [101, 101, 100]) ++ ⟨#[101, 101]⟩ := by rw [HFB.out, e1, if_pos rfl, if_pos hm]; exact (bq_append _ [101, 101]).symm
      have m2 : (0 : Int) < (meas (cutE l1 [101, 101, 100]) : Int) := by omega
      clear HFB hm e1
      generalize meas (cutE l1 [101, 101, 100]) = mm at *
      generalize bq (cutE l1 [101, 101, 100]) = RE at *
      generalize bq l2 = V at *
      have hVs := hV.symm
      clear hV
      cases by1 with
      | false =>
        have HG : Hid (V = Z) := hideV (by rw [HFC.out]; rfl)
        clear HFC y1 VY
        go_enter Try.func15, Try.ntmps15
        go_wp2_with (first | (go_at_call 32; first | (refine (C1n _ _ (by first | rfl | simp)).out.mono ?_; clear C1n; rintro e W1 ⟨rfl, K1⟩) | (refine (CEn _ _ (by first | rfl | simp)).out.mono ?_; clear CEn; rintro e W2 ⟨rfl, K2⟩; have hh := K2.heap (heap_alloc_new W1 _) (fun f => f); obtain ⟨c0, c1, f0, f1⟩ := rule_blk hh; have KA := (K1.trans (Kept.alloc _ _) (fun _ f => f.elim)).trans K2 (fun _ f => f.elim); have KB := hideV (fun a b => rule_kept (a := a) (b := b) KA K1.size); have hp := hideV (fun a b => rule_put (a := a) (b := b) hh); clear hh)) | (go_at_call 33; refine (CM _).out.mono ?_; clear CM; rintro e W3 ⟨rfl, K3⟩; obtain ⟨d0, d1, _, _⟩ := rule_blk (K3.heap (hp.out _ _) (fun f => f))) | (go_at_call 14; refine (EY _).out.mono ?_; clear EY; rintro e W5 ⟨rfl, e5⟩; subst e5) | (go_at_call 34; refine (VY _).out.mono ?_; clear VY; rintro e W6 ⟨rfl, K6⟩))
        go_ret
        exact ⟨rets HG.out, ((KB.out _ _)).trans K3 (fun _ f => f.elim)⟩
      | true =>
        have hp1 := ypos rfl
        have q1 : (l2.length : Int) - 1 = (q : Int) := by have := HQ0.out; omega
        have q2 : q ≤ l2.length := by have := HQ0.out; omega
        have q3 : IntKind.i64.wrap (q : Int) = (q : Int) := by have := HQ0.out; rw [IntKind.wrap_i64]; omega
        clear ypos
        cases vy with
        | true =>
          have HG : Hid (RY ++ ⟨#[105]⟩ = Z) := hideV (by rw [HFC.out]; rfl)
          clear HFC
          go_enter Try.func15, Try.ntmps15
          go_wp2_with (first | (go_at_call 32; first | (refine (C1n _ _ (by first | rfl | simp)).out.mono ?_; clear C1n; rintro e W1 ⟨rfl, K1⟩) | (refine (CEn _ _ (by first | rfl | simp)).out.mono ?_; clear CEn; rintro e W2 ⟨rfl, K2⟩; have hh := K2.heap (heap_alloc_new W1 _) (fun f => f); obtain ⟨c0, c1, f0, f1⟩ := rule_blk hh; have KA := (K1.trans (Kept.alloc _ _) (fun _ f => f.elim)).trans K2 (fun _ f => f.elim); have KB := hideV (fun a b => rule_kept (a := a) (b := b) KA K1.size); have hp := hideV (fun a b => rule_put (a := a) (b := b) hh); clear hh)) | (go_at_call 33; refine (CM _).out.mono ?_; clear CM; rintro e W3 ⟨rfl, K3⟩; obtain ⟨d0, d1, _, _⟩ := rule_blk (K3.heap (hp.out _ _) (fun f => f))) | (go_at_call 14; refine (EY _).out.mono ?_; clear EY; rintro e W5 ⟨rfl, e5⟩; subst e5) | (go_at_call 34; refine (VY _).out.mono ?_; clear VY; rintro e W6 ⟨rfl, K6⟩))
          go_ret
          exact ⟨rets HG.out, (((KB.out _ _)).trans K3 (fun _ f => f.elim)).trans K6 (fun _ f => f.elim)⟩
        | false =>
          have HG : Hid (V = Z) := hideV (by rw [HFC.out]; rfl)
          clear HFC
          go_enter Try.func15, Try.ntmps15
          go_wp2_with (first | (go_at_call 32; first | (refine (C1n _ _ (by first | rfl | simp)).out.mono ?_; clear C1n; rintro e W1 ⟨rfl, K1⟩) | (refine (CEn _ _ (by first | rfl | simp)).out.mono ?_; clear CEn; rintro e W2 ⟨rfl, K2⟩; have hh := K2.heap (heap_alloc_new W1 _) (fun f => f); obtain ⟨c0, c1, f0, f1⟩ := rule_blk hh; have KA := (K1.trans (Kept.alloc _ _) (fun _ f => f.elim)).trans K2 (fun _ f => f.elim); have KB := hideV (fun a b => rule_kept (a := a) (b := b) KA K1.size); have hp := hideV (fun a b => rule_put (a := a) (b := b) hh); clear hh)) | (go_at_call 33; refine (CM _).out.mono ?_; clear CM; rintro e W3 ⟨rfl, K3⟩; obtain ⟨d0, d1, _, _⟩ := rule_blk (K3.heap (hp.out _ _) (fun f => f))) | (go_at_call 14; refine (EY _).out.mono ?_; clear EY; rintro e W5 ⟨rfl, e5⟩; subst e5) | (go_at_call 34; refine (VY _).out.mono ?_; clear VY; rintro e W6 ⟨rfl, K6⟩))
          go_ret
          exact ⟨rets HG.out, (((KB.out _ _)).trans K3 (fun _ f => f.elim)).trans K6 (fun _ f => f.elim)⟩
    · have hV : bq l2 = s := by rw [HFB.out, e1, if_pos rfl, if_neg hm]; exact hB1
      have m2 : ¬ (0 : Int) < (meas (cutE l1 [101, 101, 100]) : Int) := by omega
      clear HFB hm e1
      generalize meas (cutE l1 [101, 101, 100]) = mm at *
      generalize bq (cutE l1 [101, 101, 100]) = RE at *
      rw [hV] at EY vz vz' y1 HFC
      clear hV
      cases by1 with
      | false =>
        have HG : Hid (s = Z) := hideV (by rw [HFC.out]; rfl)
        clear HFC y1 VY
        go_enter Try.func15, Try.ntmps15
        go_wp2_with (first | (go_at_call 32; first | (refine (C1n _ _ (by first | rfl | simp)).out.mono ?_; clear C1n; rintro e W1 ⟨rfl, K1⟩) | (refine (CEn _ _ (by first | rfl | simp)).out.mono ?_; clear CEn; rintro e W2 ⟨rfl, K2⟩; have hh := K2.heap (heap_alloc_new W1 _) (fun f => f); obtain ⟨c0, c1, f0, f1⟩ := rule_blk hh; have KA := (K1.trans (Kept.alloc _ _) (fun _ f => f.elim)).trans K2 (fun _ f => f.elim); have KB := hideV (fun a b => rule_kept (a := a) (b := b) KA K1.size); have hp := hideV (fun a b => rule_put (a := a) (b := b) hh); clear hh)) | (go_at_call 33; refine (CM _).out.mono ?_; clear CM; rintro e W3 ⟨rfl, K3⟩; obtain ⟨d0, d1, _, _⟩ := rule_blk (K3.heap (hp.out _ _) (fun f => f))) | (go_at_call 14; refine (EY _).out.mono ?_; clear EY; rintro e W5 ⟨rfl, e5⟩; subst e5) | (go_at_call 34; refine (VY _).out.mono ?_; clear VY; rintro e W6 ⟨rfl, K6⟩))
        go_ret
        exact ⟨rets HG.out, ((KB.out _ _)).trans K3 (fun _ f => f.elim)⟩
      | true =>
        have hp1 := ypos rfl
        have q1 : (l2.length : Int) - 1 = (q : Int) := by have := HQ0.out; omega
        have q2 : q ≤ l2.length := by have := HQ0.out; omega
        have q3 : IntKind.i64.wrap (q : Int) = (q : Int) := by have := HQ0.out; rw [IntKind.wrap_i64]; omega
        clear ypos
        cases vy with
        | true =>
          have HG : Hid (RY ++ ⟨#[105]⟩ = Z) := hideV (by rw [HFC.out]; rfl)
          clear HFC
          go_enter Try.func15, Try.ntmps15
          go_wp2_with (first | (go_at_call 32; first | (refine (C1n _ _ (by first | rfl | simp)).out.mono ?_; clear C1n; rintro e W1 ⟨rfl, K1⟩) | (refine (CEn _ _ (by first | rfl | simp)).out.mono ?_; clear CEn; rintro e W2 ⟨rfl, K2⟩; have hh := K2.heap (heap_alloc_new W1 _) (fun f => f); obtain ⟨c0, c1, f0, f1⟩ := rule_blk hh; have KA := (K1.trans (Kept.alloc _ _) (fun _ f => f.elim)).trans K2 (fun _ f => f.elim); have KB := hideV (fun a b => rule_kept (a := a) (b := b) KA K1.size); have hp := hideV (fun a b => rule_put (a := a) (b := b) hh); clear hh)) | (go_at_call 33; refine (CM _).out.mono ?_; clear CM; rintro e W3 ⟨rfl, K3⟩; obtain ⟨d0, d1, _, _⟩ := rule_blk (K3.heap (hp.out _ _) (fun f => f))) | (go_at_call 14; refine (EY _).out.mono ?_; clear EY; rintro e W5 ⟨rfl, e5⟩; subst e5) | (go_at_call 34; refine (VY _).out.mono ?_; clear VY; rintro e W6 ⟨rfl, K6⟩))
          go_ret
          exact ⟨rets HG.out, (((KB.out _ _)).trans K3 (fun _ f => f.elim)).trans K6 (fun _ f => f.elim)⟩
        | false =>
          have HG : Hid (s = Z) := hideV (by rw [HFC.out]; rfl)
          clear HFC
          go_enter Try.func15, Try.ntmps15
          go_wp2_with (first | (go_at_call 32; first | (refine (C1n _ _ (by first | rfl | simp)).out.mono ?_; clear C1n; rintro e W1 ⟨rfl, K1⟩) | (refine (CEn _ _ (by first | rfl | simp)).out.mono ?_; clear CEn; rintro e W2 ⟨rfl, K2⟩; have hh := K2.heap (heap_alloc_new W1 _) (fun f => f); obtain ⟨c0, c1, f0, f1⟩ := rule_blk hh; have KA := (K1.trans (Kept.alloc _ _) (fun _ f => f.elim)).trans K2 (fun _ f => f.elim); have KB := hideV (fun a b => rule_kept (a := a) (b := b) KA K1.size); have hp := hideV (fun a b => rule_put (a := a) (b := b) hh); clear hh)) | (go_at_call 33; refine (CM _).out.mono ?_; clear CM; rintro e W3 ⟨rfl, K3⟩; obtain ⟨d0, d1, _, _⟩ := rule_blk (K3.heap (hp.out _ _) (fun f => f))) | (go_at_call 14; refine (EY _).out.mono ?_; clear EY; rintro e W5 ⟨rfl, e5⟩; subst e5) | (go_at_call 34; refine (VY _).out.mono ?_; clear VY; rintro e W6 ⟨rfl, K6⟩))
          go_ret
          exact ⟨rets HG.out, (((KB.out _ _)).trans K3 (fun _ f => f.elim)).trans K6 (fun _ f => f.elim)⟩
  | false =>
    clear CM MI se
    cases e2 : sfx l1 [101, 100] with
    | true =>
      rw [show lg tbE l1 = some ([101, 100], []) by rw [HGE.out, e1, e2]; rfl] at CE
      have CEn : ∀ (w : World) (b : Nat), b = w.heap.size → Hid (Calls Try.prog 32 #[.string s, .slice (some ⟨b, 0, none⟩) 3 3] (w.alloc (.cells #[.string ⟨#[101, 101, 100]⟩, .string ⟨#[101, 101]⟩, .string ⟨#[101, 100]⟩, .string ⟨#[]⟩, .string ⟨#[105, 110, 103]⟩, .string ⟨#[]⟩] 37)) fun e w' => e = .returned (.tuple #[.string (bq (cutE l1 [101, 100])), .agg #[.string ⟨#[101, 100]⟩, .string ⟨#[]⟩], .bool true]) ∧ Kept (fun _ => False) w w') := CE
      clear CE
      clear HGE V3 D3
      cases hv : hasV (cutE l1 [101, 100]) with
      | true =>
        have hV : bq l2 = bq (mend (cutE l1 [101, 100])) := by rw [HFB.out, e1, e2, hv]; rfl
        rw [hv] at V2
        rw [← hV] at D2
        clear HFB hv e1 hV
        generalize bq (cutE l1 [101, 100]) = RE at *
        generalize bq l2 = V at *
        cases by1 with
        | false =>
          have HG : Hid (V = Z) := hideV (by rw [HFC.out]; rfl)
          clear HFC y1 VY
          go_enter Try.func15, Try.ntmps15
          go_wp2_with (first | (go_at_call 32; first | (refine (C1n _ _ (by first | rfl | simp)).out.mono ?_; clear C1n; rintro e W1 ⟨rfl, K1⟩) | (refine (CEn _ _ (by first | rfl | simp)).out.mono ?_; clear CEn; rintro e W2 ⟨rfl, K2⟩; have hh := K2.heap (heap_alloc_new W1 _) (fun f => f); obtain ⟨c0, c1, f0, f1⟩ := rule_blk hh; have KA := (K1.trans (Kept.alloc _ _) (fun _ f => f.elim)).trans K2 (fun _ f => f.elim); have KB := hideV (fun a b => rule_kept (a := a) (b := b) KA K1.size); have hp := hideV (fun a b => rule_put (a := a) (b := b) hh); clear hh)) | (go_at_call 34; first | (refine (V2 _).out.mono ?_; clear V2; rintro e W3 ⟨rfl, K3⟩) | (refine (VY _).out.mono ?_; clear VY; rintro e W6 ⟨rfl, K6⟩)) | (go_at_call 35; refine (D2 _).out.mono ?_; clear D2; rintro e W4 ⟨rfl, K4⟩) | (go_at_call 14; refine (EY _).out.mono ?_; clear EY; rintro e W5 ⟨rfl, e5⟩; subst e5))
          go_ret
          exact ⟨rets HG.out, (((KB.out _ _)).trans K3 (fun _ f => f.elim)).trans K4 (fun _ f => f.elim)⟩
        | true =>
          have hp1 := ypos rfl
          have q1 : (l2.length : Int) - 1 = (q : Int) := by have := HQ0.out; omega
          have q2 : q ≤ l2.length := by have := HQ0.out; omega
          have q3 : IntKind.i64.wrap (q : Int) = (q : Int) := by have := HQ0.out; rw [IntKind.wrap_i64]; omega
          clear ypos
          cases vy with
          | true =>
            have HG : Hid (RY ++ ⟨#[105]⟩ = Z) := hideV (by rw [HFC.out]; rfl)
            clear HFC
            go_enter Try.func15, Try.ntmps15
            go_wp2_with (first | (go_at_call 32; first | (refine (C1n _ _ (by first | rfl | simp)).out.mono ?_; clear C1n; rintro e W1 ⟨rfl, K1⟩) | (refine (CEn _ _ (by first | rfl | simp)).out.mono ?_; clear CEn; rintro e W2 ⟨rfl, K2⟩; have hh := K2.heap (heap_alloc_new W1 _) (fun f => f); obtain ⟨c0, c1, f0, f1⟩ := rule_blk hh; have KA := (K1.trans (Kept.alloc _ _) (fun _ f => f.elim)).trans K2 (fun _ f => f.elim); have KB := hideV (fun a b => rule_kept (a := a) (b := b) KA K1.size); have hp := hideV (fun a b => rule_put (a := a) (b := b) hh); clear hh)) | (go_at_call 34; first | (refine (V2 _).out.mono ?_; clear V2; rintro e W3 ⟨rfl, K3⟩) | (refine (VY _).out.mono ?_; clear VY; rintro e W6 ⟨rfl, K6⟩)) | (go_at_call 35; refine (D2 _).out.mono ?_; clear D2; rintro e W4 ⟨rfl, K4⟩) | (go_at_call 14; refine (EY _).out.mono ?_; clear EY; rintro e W5 ⟨rfl, e5⟩; subst e5))
            go_ret
            exact ⟨rets HG.out, ((((KB.out _ _)).trans K3 (fun _ f => f.elim)).trans K4 (fun _ f => f.elim)).trans K6 (fun _ f => f.elim)⟩
          | false =>
            have HG : Hid (V = Z) := hideV (by rw [HFC.out]; rfl)
            clear HFC
            go_enter Try.func15, Try.ntmps15
            go_wp2_with (first | (go_at_call 32; first | (refine (C1n _ _ (by first | rfl | simp)).out.mono ?_; clear C1n; rintro e W1 ⟨rfl, K1⟩) | (refine (CEn _ _ (by first | rfl | simp)).out.mono ?_; clear CEn; rintro e W2 ⟨rfl, K2⟩; have hh := K2.heap (heap_alloc_new W1 _) (fun f => f); obtain ⟨c0, c1, f0, f1⟩ := rule_blk hh; have KA := (K1.trans (Kept.alloc _ _) (fun _ f => f.elim)).trans K2 (fun _ f => f.elim); have KB := hideV (fun a b => rule_kept (a := a) (b := b) KA K1.size); have hp := hideV (fun a b => rule_put (a := a) (b := b) hh); clear hh)) | (go_at_call 34; first | (refine (V2 _).out.mono ?_; clear V2; rintro e W3 ⟨rfl, K3⟩) | (refine (VY _).out.mono ?_; clear VY; rintro e W6 ⟨rfl, K6⟩)) | (go_at_call 35; refine (D2 _).out.mono ?_; clear D2; rintro e W4 ⟨rfl, K4⟩) | (go_at_call 14; refine (EY _).out.mono ?_; clear EY; rintro e W5 ⟨rfl, e5⟩; subst e5))
            go_ret
            exact ⟨rets HG.out, ((((KB.out _ _)).trans K3 (fun _ f => f.elim)).trans K4 (fun _ f => f.elim)).trans K6 (fun _ f => f.elim)⟩
      | false =>
        have hV : bq l2 = s := by rw [HFB.out, e1, e2, hv]; exact hB1
        rw [hv] at V2
        clear HFB hv e1 D2
        generalize bq (cutE l1 [101, 100]) = RE at *
        rw [hV] at EY vz vz' y1 HFC
        clear hV
        cases by1 with
        | false =>
          have HG : Hid (s = Z) := hideV (by rw [HFC.out]; rfl)
          clear HFC y1 VY
          go_enter Try.func15, Try.ntmps15
          go_wp2_with (first | (go_at_call 32; first | (refine (C1n _ _ (by first | rfl | simp)).out.mono ?_; clear C1n; rintro e W1 ⟨rfl, K1⟩) | (refine (CEn _ _ (by first | rfl | simp)).out.mono ?_; clear CEn; rintro e W2 ⟨rfl, K2⟩; have hh := K2.heap (heap_alloc_new W1 _) (fun f => f); obtain ⟨c0, c1, f0, f1⟩ := rule_blk hh; have KA := (K1.trans (Kept.alloc _ _) (fun _ f => f.elim)).trans K2 (fun _ f => f.elim); have KB := hideV (fun a b => rule_kept (a := a) (b := b) KA K1.size); have hp := hideV (fun a b => rule_put (a := a) (b := b) hh); clear hh)) | (go_at_call 34; first | (refine (V2 _).out.mono ?_; clear V2; rintro e W3 ⟨rfl, K3⟩) | (refine (VY _).out.mono ?_; clear VY; rintro e W6 ⟨rfl, K6⟩)) | (go_at_call 14; refine (EY _).out.mono ?_; clear EY; rintro e W5 ⟨rfl, e5⟩; subst e5))
          go_ret
          exact ⟨rets HG.out, ((KB.out _ _)).trans K3 (fun _ f => f.elim)⟩
        | true =>
          have hp1 := ypos rfl
          have q1 : (l2.length : Int) - 1 = (q : Int) := by have := HQ0.out; omega
          have q2 : q ≤ l2.length := by have := HQ0.out; omega
          have q3 : IntKind.i64.wrap (q : Int) = (q : Int) := by have := HQ0.out; rw [IntKind.wrap_i64]; omega
          clear ypos
          cases vy with
          | true =>
            have HG : Hid (RY ++ ⟨#[105]⟩ = Z) := hideV (by rw [HFC.out]; rfl)
            clear HFC
            go_enter Try.func15, Try.ntmps15
            go_wp2_with (first | (go_at_call 32; first | (refine (C1n _ _ (by first | rfl | simp)).out.mono ?_; clear C1n; rintro e W1 ⟨rfl, K1⟩) | (refine (CEn _ _ (by first | rfl | simp)).out.mono ?_; clear CEn; rintro e W2 ⟨rfl, K2⟩; have hh := K2.heap (heap_alloc_new W1 _) (fun f => f); obtain ⟨c0, c1, f0, f1⟩ := rule_blk hh; have KA := (K1.trans (Kept.alloc _ _) (fun _ f => f.elim)).trans K2 (fun _ f => f.elim); have KB := hideV (fun a b => rule_kept (a := a) (b := b) KA K1.size); have hp := hideV (fun a b => rule_put (a := a) (b := b) hh); clear hh)) | (go_at_call 34; first | (refine (V2 _).out.mono ?_; clear V2; rintro e W3 ⟨rfl, K3⟩) | (refine (VY _).out.mono ?_; clear VY; rintro e W6 ⟨rfl, K6⟩)) | (go_at_call 14; refine (EY _).out.mono ?_; clear EY; rintro e W5 ⟨rfl, e5⟩; subst e5))
            go_ret
            exact ⟨rets HG.out, (((KB.out _ _)).trans K3 (fun _ f => f.elim)).trans K6 (fun _ f => f.elim)⟩
          | false =>
            have HG : Hid (s = Z) := hideV (by rw [HFC.out]; rfl)
            clear HFC
            go_enter Try.func15, Try.ntmps15
            go_wp2_with (first | (go_at_call 32; first | (refine (C1n _ _ (by first | rfl | simp)).out.mono ?_; clear C1n; rintro e W1 ⟨rfl, K1⟩) | (refine (CEn _ _ (by first | rfl | simp)).out.mono ?_; clear CEn; rintro e W2 ⟨rfl, K2⟩; have hh := K2.heap (heap_alloc_new W1 _) (fun f => f); obtain ⟨c0, c1, f0, f1⟩ := rule_blk hh; have KA := (K1.trans (Kept.alloc _ _) (fun _ f => f.elim)).trans K2 (fun _ f => f.elim); have KB := hideV (fun a b => rule_kept (a := a) (b := b) KA K1.size); have hp := hideV (fun a b => rule_put (a := a) (b := b) hh); clear hh)) | (go_at_call 34; first | (refine (V2 _).out.mono ?_; clear V2; rintro e W3 ⟨rfl, K3⟩) | (refine (VY _).out.mono ?_; clear VY; rintro e W6 ⟨rfl, K6⟩)) | (go_at_call 14; refine (EY _).out.mono ?_; clear EY; rintro e W5 ⟨rfl, e5⟩; subst e5))
            go_ret
            exact ⟨rets HG.out, (((KB.out _ _)).trans K3 (fun _ f => f.elim)).trans K6 (fun _ f => f.elim)⟩
    | false =>
      clear V2 D2
      cases e3 : sfx l1 [105, 110, 103] with
      | true =>
        rw [show lg tbE l1 = some ([105, 110, 103], []) by rw [HGE.out, e1, e2, e3]; rfl] at CE
        have CEn : ∀ (w : World) (b : Nat), b = w.heap.size → Hid (Calls Try.prog 32 #[.string s, .slice (some ⟨b, 0, none⟩) 3 3] (w.alloc (.cells #[.string ⟨#[101, 101, 100]⟩, .string ⟨#[101, 101]⟩, .string ⟨#[101, 100]⟩, .string ⟨#[]⟩, .string ⟨#[105, 110, 103]⟩, .string ⟨#[]⟩] 37)) fun e w' => e = .returned (.tuple #[.string (bq (cutE l1 [105, 110, 103])), .agg #[.string ⟨#[105, 110, 103]⟩, .string ⟨#[]⟩], .bool true]) ∧ Kept (fun _ => False) w w') := CE
        clear CE
        clear HGE 
        cases hv : hasV (cutE l1 [105, 110, 103]) with
        | true =>
          have hV : bq l2 = bq (mend (cutE l1 [105, 110, 103])) := by rw [HFB.out, e1, e2, e3, hv]; rfl
          rw [hv] at V3
          rw [← hV] at D3
          clear HFB hv e1 hV
          generalize bq (cutE l1 [105, 110, 103]) = RE at *
          generalize bq l2 = V at *
          cases by1 with
          | false =>
            have HG : Hid (V = Z) := hideV (by rw [HFC.out]; rfl)
            clear HFC y1 VY
            go_enter Try.func15, Try.ntmps15
            go_wp2_with (first | (go_at_call 32; first | (refine (C1n _ _ (by first | rfl | simp)).out.mono ?_; clear C1n; rintro e W1 ⟨rfl, K1⟩) | (refine (CEn _ _ (by first | rfl | simp)).out.mono ?_; clear CEn; rintro e W2 ⟨rfl, K2⟩; have hh := K2.heap (heap_alloc_new W1 _) (fun f => f); obtain ⟨c0, c1, f0, f1⟩ := rule_blk hh; have KA := (K1.trans (Kept.alloc _ _) (fun _ f => f.elim)).trans K2 (fun _ f => f.elim); have KB := hideV (fun a b => rule_kept (a := a) (b := b) KA K1.size); have hp := hideV (fun a b => rule_put (a := a) (b := b) hh); clear hh)) | (go_at_call 34; first | (refine (V3 _).out.mono ?_; clear V3; rintro e W3 ⟨rfl, K3⟩) | (refine (VY _).out.mono ?_; clear VY; rintro e W6 ⟨rfl, K6⟩)) | (go_at_call 35; refine (D3 _).out.mono ?_; clear D3; rintro e W4 ⟨rfl, K4⟩) | (go_at_call 14; refine (EY _).out.mono ?_; clear EY; rintro e W5 ⟨rfl, e5⟩; subst e5))
            go_ret
            exact ⟨rets HG.out, (((KB.out _ _)).trans K3 (fun _ f => f.elim)).trans K4 (fun _ f => f.elim)⟩
          | true =>
            have hp1 := ypos rfl
            have q1 : (l2.length : Int) - 1 = (q : Int) := by have := HQ0.out; omega
            have q2 : q ≤ l2.length := by have := HQ0.out; omega
            have q3 : IntKind.i64.wrap (q : Int) = (q : Int) := by have := HQ0.out; rw [IntKind.wrap_i64]; omega
            clear ypos
            cases vy with
            | true =>
              have HG : Hid (RY ++ ⟨#[105]⟩ = Z) := hideV (by rw [HFC.out]; rfl)
              clear HFC
              go_enter Try.func15, Try.ntmps15
              go_wp2_with (first | (go_at_call 32; first | (refine (C1n _ _ (by first | rfl | simp)).out.mono ?_; clear C1n; rintro e W1 ⟨rfl, K1⟩) | (refine (CEn _ _ (by first | rfl | simp)).out.mono ?_; clear CEn; rintro e W2 ⟨rfl, K2⟩; have hh := K2.heap (heap_alloc_new W1 _) (fun f => f); obtain ⟨c0, c1, f0, f1⟩ := rule_blk hh; have KA := (K1.trans (Kept.alloc _ _) (fun _ f => f.elim)).trans K2 (fun _ f => f.elim); have KB := hideV (fun a b => rule_kept (a := a) (b := b) KA K1.size); have hp := hideV (fun a b => rule_put (a := a) (b := b) hh); clear hh)) | (go_at_call 34; first | (refine (V3 _).out.mono ?_; clear V3; rintro e W3 ⟨rfl, K3⟩) | (refine (VY _).out.mono ?_; clear VY; rintro e W6 ⟨rfl, K6⟩)) | (go_at_call 35; refine (D3 _).out.mono ?_; clear D3; rintro e W4 ⟨rfl, K4⟩) | (go_at_call 14; refine (EY _).out.mono ?_; clear EY; rintro e W5 ⟨rfl, e5⟩; subst e5))
              go_ret
              exact ⟨rets HG.out, ((((KB.out _ _)).trans K3 (fun _ f => f.elim)).trans K4 (fun _ f => f.elim)).trans K6 (fun _ f => f.elim)⟩
            | false =>
              have HG : Hid (V = Z) := hideV (by rw [HFC.out]; rfl)
              clear HFC
              go_enter Try.func15, Try.ntmps15
              go_wp2_with (first | (go_at_call 32; first | (refine (C1n _ _ (by first | rfl | simp)).out.mono ?_; clear C1n; rintro e W1 ⟨rfl, K1⟩) | (refine (CEn _ _ (by first | rfl | simp)).out.mono ?_; clear CEn; rintro e W2 ⟨rfl, K2⟩; have hh := K2.heap (heap_alloc_new W1 _) (fun f => f); obtain ⟨c0, c1, f0, f1⟩ := rule_blk hh; have KA := (K1.trans (Kept.alloc _ _) (fun _ f => f.elim)).trans K2 (fun _ f => f.elim); have KB := hideV (fun a b => rule_kept (a := a) (b := b) KA K1.size); have hp := hideV (fun a b => rule_put (a := a) (b := b) hh); clear hh)) | (go_at_call 34; first | (refine (V3 _).out.mono ?_; clear V3; rintro e W3 ⟨rfl, K3⟩) | (refine (VY _).out.mono ?_; clear VY; rintro e W6 ⟨rfl, K6⟩)) | (go_at_call 35; refine (D3 _).out.mono ?_; clear D3; rintro e W4 ⟨rfl, K4⟩) | (go_at_call 14; refine (EY _).out.mono ?_; clear EY; rintro e W5 ⟨rfl, e5⟩; subst e5))
              go_ret
              exact ⟨rets HG.out, ((((KB.out _ _)).trans K3 (fun _ f => f.elim)).trans K4 (fun _ f => f.elim)).trans K6 (fun _ f => f.elim)⟩
        | false =>
          have hV : bq l2 = s := by rw [HFB.out, e1, e2, e3, hv]; exact hB1
          rw [hv] at V3
          clear HFB hv e1 D3
          generalize bq (cutE l1 [105, 110, 103]) = RE at *
          rw [hV] at EY vz vz' y1 HFC
          clear hV
          cases by1 with
          | false =>
            have HG : Hid (s = Z) := hideV (by rw [HFC.out]; rfl)
            clear HFC y1 VY
            go_enter Try.func15, Try.ntmps15
            go_wp2_with (first | (go_at_call 32; first | (refine (C1n _ _ (by first | rfl | simp)).out.mono ?_; clear C1n; rintro e W1 ⟨rfl, K1⟩) | (refine (CEn _ _ (by first | rfl | simp)).out.mono ?_; clear CEn; rintro e W2 ⟨rfl, K2⟩; have hh := K2.heap (heap_alloc_new W1 _) (fun f => f); obtain ⟨c0, c1, f0, f1⟩ := rule_blk hh; have KA := (K1.trans (Kept.alloc _ _) (fun _ f => f.elim)).trans K2 (fun _ f => f.elim); have KB := hideV (fun a b => rule_kept (a := a) (b := b) KA K1.size); have hp := hideV (fun a b => rule_put (a := a) (b := b) hh); clear hh)) | (go_at_call 34; first | (refine (V3 _).out.mono ?_; clear V3; rintro e W3 ⟨rfl, K3⟩) | (refine (VY _).out.mono ?_; clear VY; rintro e W6 ⟨rfl, K6⟩)) | (go_at_call 14; refine (EY _).out.mono ?_; clear EY; rintro e W5 ⟨rfl, e5⟩; subst e5))
            go_ret
            exact ⟨rets HG.out, ((KB.out _ _)).trans K3 (fun _ f => f.elim)⟩
          | true =>
            have hp1 := ypos rfl
            have q1 : (l2.length : Int) - 1 = (q : Int) := by have := HQ0.out; omega
            have q2 : q ≤ l2.length := by have := HQ0.out; omega
            have q3 : IntKind.i64.wrap (q : Int) = (q : Int) := by have := HQ0.out; rw [IntKind.wrap_i64]; omega
            clear ypos
            cases vy with
            | true =>
              have HG : Hid (RY ++ ⟨#[105]⟩ = Z) := hideV (by rw [HFC.out]; rfl)
              clear HFC
              go_enter Try.func15, Try.ntmps15
              go_wp2_with (first | (go_at_call 32; first | (refine (C1n _ _ (by first | rfl | simp)).out.mono ?_; clear C1n; rintro e W1 ⟨rfl, K1⟩) | (refine (CEn _ _ (by first | rfl | simp)).out.mono ?_; clear CEn; rintro e W2 ⟨rfl, K2⟩; have hh := K2.heap (heap_alloc_new W1 _) (fun f => f); obtain ⟨c0, c1, f0, f1⟩ := rule_blk hh; have KA := (K1.trans (Kept.alloc _ _) (fun _ f => f.elim)).trans K2 (fun _ f => f.elim); have KB := hideV (fun a b => rule_kept (a := a) (b := b) KA K1.size); have hp := hideV (fun a b => rule_put (a := a) (b := b) hh); clear hh)) | (go_at_call 34; first | (refine (V3 _).out.mono ?_; clear V3; rintro e W3 ⟨rfl, K3⟩) | (refine (VY _).out.mono ?_; clear VY; rintro e W6 ⟨rfl, K6⟩)) | (go_at_call 14; refine (EY _).out.mono ?_; clear EY; rintro e W5 ⟨rfl, e5⟩; subst e5))
              go_ret
              exact ⟨rets HG.out, (((KB.out _ _)).trans K3 (fun _ f => f.elim)).trans K6 (fun _ f => f.elim)⟩
            | false =>
              have HG : Hid (s = Z) := hideV (by rw [HFC.out]; rfl)
              clear HFC
              go_enter Try.func15, Try.ntmps15
              go_wp2_with (first | (go_at_call 32; first | (refine (C1n _ _ (by first | rfl | simp)).out.mono ?_; clear C1n; rintro e W1 ⟨rfl, K1⟩) | (refine (CEn _ _ (by first | rfl | simp)).out.mono ?_; clear CEn; rintro e W2 ⟨rfl, K2⟩; have hh := K2.heap (heap_alloc_new W1 _) (fun f => f); obtain ⟨c0, c1, f0, f1⟩ := rule_blk hh; have KA := (K1.trans (Kept.alloc _ _) (fun _ f => f.elim)).trans K2 (fun _ f => f.elim); have KB := hideV (fun a b => rule_kept (a := a) (b := b) KA K1.size); have hp := hideV (fun a b => rule_put (a := a) (b := b) hh); clear hh)) | (go_at_call 34; first | (refine (V3 _).out.mono ?_; clear V3; rintro e W3 ⟨rfl, K3⟩) | (refine (VY _).out.mono ?_; clear VY; rintro e W6 ⟨rfl, K6⟩)) | (go_at_call 14; refine (EY _).out.mono ?_; clear EY; rintro e W5 ⟨rfl, e5⟩; subst e5))
              go_ret
              exact ⟨rets HG.out, (((KB.out _ _)).trans K3 (fun _ f => f.elim)).trans K6 (fun _ f => f.elim)⟩
      | false =>
        rw [show lg tbE l1 = none by rw [HGE.out, e1, e2, e3]; rfl] at CE
        have CEn : ∀ (w : World) (b : Nat), b = w.heap.size → Hid (Calls Try.prog 32 #[.string s, .slice (some ⟨b, 0, none⟩) 3 3] (w.alloc (.cells #[.string ⟨#[101, 101, 100]⟩, .string ⟨#[101, 101]⟩, .string ⟨#[101, 100]⟩, .string ⟨#[]⟩, .string ⟨#[105, 110, 103]⟩, .string ⟨#[]⟩] 37)) fun e w' => e = .returned (.tuple #[.string (bq (cutE l1 [])), .agg #[.string ⟨#[]⟩, .string ⟨#[]⟩], .bool false]) ∧ Kept (fun _ => False) w w') := CE
        clear CE
        have hV : bq l2 = s := by rw [HFB.out, e1, e2, e3]; exact hB1
        clear HFB HGE V3 D3
        generalize bq (cutE l1 []) = RE at *
        rw [hV] at EY vz vz' y1 HFC
        clear hV
        cases by1 with
        | false =>
          have HG : Hid (s = Z) := hideV (by rw [HFC.out]; rfl)
          clear HFC y1 VY
          go_enter Try.func15, Try.ntmps15
          go_wp2_with (first | (go_at_call 32; first | (refine (C1n _ _ (by first | rfl | simp)).out.mono ?_; clear C1n; rintro e W1 ⟨rfl, K1⟩) | (refine (CEn _ _ (by first | rfl | simp)).out.mono ?_; clear CEn; rintro e W2 ⟨rfl, K2⟩; have hh := K2.heap (heap_alloc_new W1 _) (fun f => f); obtain ⟨c0, c1, f0, f1⟩ := rule_blk hh; have KA := (K1.trans (Kept.alloc _ _) (fun _ f => f.elim)).trans K2 (fun _ f => f.elim); have KB := hideV (fun a b => rule_kept (a := a) (b := b) KA K1.size); have hp := hideV (fun a b => rule_put (a := a) (b := b) hh); clear hh)) | (go_at_call 14; refine (EY _).out.mono ?_; clear EY; rintro e W5 ⟨rfl, e5⟩; subst e5) | (go_at_call 34; refine (VY _).out.mono ?_; clear VY; rintro e W6 ⟨rfl, K6⟩))
          go_ret
          exact ⟨rets HG.out, (KB.out _ _)⟩
        | true =>
          have hp1 := ypos rfl
          have q1 : (l2.length : Int) - 1 = (q : Int) := by have := HQ0.out; omega
          have q2 : q ≤ l2.length := by have := HQ0.out; omega
          have q3 : IntKind.i64.wrap (q : Int) = (q : Int) := by have := HQ0.out; rw [IntKind.wrap_i64]; omega
          clear ypos
          cases vy with
          | true =>
            have HG : Hid (RY ++ ⟨#[105]⟩ = Z) := hideV (by rw [HFC.out]; rfl)
            clear HFC
            go_enter Try.func15, Try.ntmps15
            go_wp2_with (first | (go_at_call 32; first | (refine (C1n _ _ (by first | rfl | simp)).out.mono ?_; clear C1n; rintro e W1 ⟨rfl, K1⟩) | (refine (CEn _ _ (by first | rfl | simp)).out.mono ?_; clear CEn; rintro e W2 ⟨rfl, K2⟩; have hh := K2.heap (heap_alloc_new W1 _) (fun f => f); obtain ⟨c0, c1, f0, f1⟩ := rule_blk hh; have KA := (K1.trans (Kept.alloc _ _) (fun _ f => f.elim)).trans K2 (fun _ f => f.elim); have KB := hideV (fun a b => rule_kept (a := a) (b := b) KA K1.size); have hp := hideV (fun a b => rule_put (a := a) (b := b) hh); clear hh)) | (go_at_call 14; refine (EY _).out.mono ?_; clear EY; rintro e W5 ⟨rfl, e5⟩; subst e5) | (go_at_call 34; refine (VY _).out.mono ?_; clear VY; rintro e W6 ⟨rfl, K6⟩))
            go_ret
            exact ⟨rets HG.out, ((KB.out _ _)).trans K6 (fun _ f => f.elim)⟩
          | false =>
            have HG : Hid (s = Z) := hideV (by rw [HFC.out]; rfl)
            clear HFC
            go_enter Try.func15, Try.ntmps15
            go_wp2_with (first | (go_at_call 32; first | (refine (C1n _ _ (by first | rfl | simp)).out.mono ?_; clear C1n; rintro e W1 ⟨rfl, K1⟩) | (refine (CEn _ _ (by first | rfl | simp)).out.mono ?_; clear CEn; rintro e W2 ⟨rfl, K2⟩; have hh := K2.heap (heap_alloc_new W1 _) (fun f => f); obtain ⟨c0, c1, f0, f1⟩ := rule_blk hh; have KA := (K1.trans (Kept.alloc _ _) (fun _ f => f.elim)).trans K2 (fun _ f => f.elim); have KB := hideV (fun a b => rule_kept (a := a) (b := b) KA K1.size); have hp := hideV (fun a b => rule_put (a := a) (b := b) hh); clear hh)) | (go_at_call 14; refine (EY _).out.mono ?_; clear EY; rintro e W5 ⟨rfl, e5⟩; subst e5) | (go_at_call 34; refine (VY _).out.mono ?_; clear VY; rintro e W6 ⟨rfl, K6⟩))
            go_ret
            exact ⟨rets HG.out, ((KB.out _ _)).trans K6 (fun _ f => f.elim)⟩
end Go.Proofs.Ytmfdoohnladohaa
