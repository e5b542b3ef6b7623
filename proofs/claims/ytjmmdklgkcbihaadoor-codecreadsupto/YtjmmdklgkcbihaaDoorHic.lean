import Derived.Test.YtjmmdklgkcbihaaDoorHib
namespace Go.Proofs.YtjmmdklgkcbihaaDoor
open Go.ChangeShapes Go.WideShapes Go.ChangeAt Go.RowKit

theorem Tryd.infoSlHI : (Tryd.prog.info? 35).map (fun i => (i.zero, i.size, i.bytes)) = some (some (.slice none 0 0), 1, 24) := by kernel_rfl
theorem GwI.start {bm : Nat → Nat → Int} {W : World} {o : Nat → Nat} {V : List Value} {ns : Nat → Nat} (h : BkvI W o V (fun t => bmsI bm t (ns t))) : GwI bm W (W.alloc (.cells #[] 35)) o V ns [] (.slice (some ⟨W.heap.size, 0, none⟩) 0 0) 0 (.slice none 0 0) 0 (fun q => if W.heap.size ≤ q then V.length else o q) := by
  have ka := Kept.alloc W (.cells #[] 35)
  refine ⟨fun k hk => if_neg (by omega), ⟨fun t ht => (h.lib t ht).later ka, fun t ht k hk => ?_⟩, ⟨fun t ht => by simp at ht, fun t ht => by simp at ht⟩, rfl, ⟨rfl, .inr ⟨W.heap.size, 0, #[], rfl, Nat.le_refl _, heap_alloc_new W _, Nat.le_refl _, Nat.zero_le _, rfl, rfl⟩⟩, fun k hk => ?_, .inl ⟨rfl, by simp [bmsI]⟩, fun k hk => (by cases hk), ka.mono (fun _ f => f.elim)⟩
  · show (if W.heap.size ≤ k then V.length else o k) = t
    have := (h.lib t ht).lt hk
    rw [if_neg (by omega)]
    exact h.own t ht k hk
  · have e : W.heap.size = k := Option.some.inj hk
    show V.length ≤ (if W.heap.size ≤ k then V.length else o k)
    rw [if_pos (by omega)]
    exact Nat.le_refl _
theorem one_cellI (W : World) (x : Int) : ∀ j u, (isH [x])[j]? = some u → (W.alloc (.cells #[.int .i64 x] 3)).cell? ((⟨W.heap.size, 0, none⟩ : Addr).add j) = some u := one_new W (.int .i64 x) 3
set_option maxRecDepth 20000 in
set_option maxHeartbeats 16000000 in
/-- No two lists of a book share memory. -/
theorem unsharedB_anyI (bm : Nat → Nat → Int) (hbm : BmII bm) (kb : Nat) (ga : Option Addr) (N gc : Nat) (V : List Value) (L : Nat → List Int) (o : Nat → Nat) (w : World) (hK : w.cell? ⟨kb, 1, none⟩ = some (.slice ga N gc)) (hV : VAt w ga V) (hN : N = V.length) (hB : BkvI w o V L) (hok : N ≤ o kb) (hog : ∀ p : Addr, ga = some p → N ≤ o p.block) (hNb : N ≤ 1099511627776) (hL : ∀ t, t < N → (L t).length ≤ 4398046511104) :
    Calls Tryd.prog 42 #[.pointer (some ⟨kb, 0, none⟩)] w fun e w' => e = .returned (.bool true) ∧ Kept (fun k => o k < N) w w' := by
  have BM := hideH hbm
  have HV := hideH hV
  have HN := hideH hN
  have HK : Hid (∀ W, Kept (fun k => o k < N) w W → W.cell? ⟨kb, 1, none⟩ = some (.slice ga N gc)) := hideH (fun W k => k.cell hK (fun f => by simp only at f; omega))
  have HVA : Hid (∀ W, Kept (fun k => o k < N) w W → VAt W ga V) := hideH (fun W k => hV.kept k (fun p e f => by have := hog p e; omega))
  have HL := hideH hL
  have HB := hideH hB
  have hK0 := hK
  clear hbm hV hN hB hok hog hL hK
  go_enter Tryd.func42, Tryd.ntmps42
  go_wp2
  go_loopw [24] (fun s24 wr => ∃ i : Nat, i ≤ N ∧ s24 = .int .i64 i ∧ Hid (BkvI wr o V (fun t => if t < i then bmsI bm t (L t).length else L t)) ∧ Hid (Kept (fun k => o k < N) w wr)) (fun s24 _ => N - (intOf s24).toNat)
  case atStart => exact ⟨0, by omega, rfl, hideH (HB.out.congr (fun t _ => by simp)), hideH (Kept.refl _ _)⟩
  case round =>
  obtain ⟨i, hi, rfl, HBr, HKr⟩ := hrel
  obtain ⟨Wa, hWa⟩ : ∃ Wa, Wa = wr := ⟨_, rfl⟩
  rw [← hWa] at HBr HKr ⊢
  clear hWa hK0 HB
  by_cases hlt : i < N
  · have hiV : i < V.length := by rw [← HN.out]; exact hlt
    obtain ⟨b, off, rfl, hc⟩ := HVA.out Wa HKr.out (by intro e; rw [e] at hiV; simp at hiV)
    have x0 := hc i hiV
    obtain ⟨a, ci, eV, -, -⟩ := (HBr.out.lib i hiV).shape
    simp only [Nat.lt_irrefl, if_false] at eV
    rw [eV] at x0
    obtain ⟨ni, hni⟩ : ∃ ni, ni = (L i).length := ⟨_, rfl⟩
    rw [← hni] at x0 eV
    have hnb : ni ≤ 4398046511104 := by rw [hni]; exact HL.out i hlt
    have HNI := hideH hni
    have HEV := hideH eV
    have i1 : (i : Int) < (N : Int) := by omega
    clear hc hni eV
    go_wp2
    go_loopw [31] (fun s31 wx => ∃ j : Nat, j ≤ ni ∧ s31 = .int .i64 j ∧ Hid (BkvI wx o V (fun t => if t < i then bmsI bm t (L t).length else if t = i then bmdI bm i j (L i) else L t)) ∧ Hid (Kept (fun k => o k < N) w wx)) (fun s31 _ => ni - (intOf s31).toNat)
    case atStart =>
      refine ⟨0, by omega, rfl, hideH (HBr.out.congr (fun t _ => ?_)), HKr⟩
      by_cases q : t < i
      · simp only [if_pos q]
      · simp only [if_neg q]
        by_cases q2 : t = i
        · rw [if_pos q2, bmd_zeroI, q2]
        · rw [if_neg q2]
    case round =>
    obtain ⟨j, hj, rfl, HBx, HKx⟩ := hrel
    obtain ⟨Wb, hWb⟩ : ∃ Wb, Wb = wr := ⟨_, rfl⟩
    rw [← hWb] at HBx HKx ⊢
    clear hWb
    by_cases hjl : j < ni
    · have hjX : j < (bmdI bm i j (L i)).length := by rw [bmd_lengthI _ _ _ _ (by rw [← HNI.out]; omega), ← HNI.out]; exact hjl
      have hlib := HBx.out.lib i hiV
      simp only [Nat.lt_irrefl, if_false, if_true] at hlib
      obtain ⟨b2, c2, e2, y1, y2⟩ := hlib.cells hjX
      have hob2 : V[i].ownBlock = some b2 := by rw [e2]; rfl
      rw [HEV.out] at e2
      simp only [Value.slice.injEq] at e2
      obtain ⟨rfl, -, -⟩ := e2
      have hput := HBx.out.put (i := i) (j := j) (b := b2) (x := bm i j) (X' := fun t => if t < i then bmsI bm t (L t).length else if t = i then bmdI bm i (j + 1) (L i) else L t) hiV hob2 (by simpa using hjX) (by simp only [Nat.lt_irrefl, if_false, if_true]; rw [bmd_setI _ _ _ _ (by rw [← HNI.out]; exact hjl)]) (fun t ht => by simp only [if_neg ht])
      have HP := hideH hput
      have HK2 := hideH (HKx.out.trans (Kept.setCell Wb ⟨b2, j, none⟩ (.int .i64 (bm i j))) (fun k e => .inl (by
        have h3 := HBx.out.own i hiV b2 hob2
        have h4 : k = b2 := e
        show o k < N
        rw [h4, h3]
        exact hlt)))
      have CB := hideH (BM.out i j (by omega) (by omega))
      generalize bm i j = x at HP HK2 CB
      generalize (bmdI bm i j (L i))[j]?.getD 0 = y at y1
      have j1 : (j : Int) < (ni : Int) := by omega
      clear hput hob2 hlib hjX HBx HKx
      go_wp2_with (go_at_call 77; refine (CB.out _).mono ?_; rintro e W4 ⟨rfl, e4⟩; obtain rfl := e4.symm)
      go_roundw
      case rel => exact ⟨j + 1, by omega, by go_num, HP, HK2⟩
      case measure => simp [intOf]; omega
    · obtain rfl : j = ni := by omega
      have j1 : ¬ (j : Int) < (j : Int) := by omega
      have HB2 : Hid (BkvI Wb o V (fun t => if t < i + 1 then bmsI bm t (L t).length else L t)) := hideH (HBx.out.congr (fun t _ => by
        by_cases q : t < i
        · simp only [if_pos q, if_pos (show t < i + 1 by omega)]
        · simp only [if_neg q]
          by_cases q2 : t = i
          · rw [if_pos q2, if_pos (by omega), HNI.out, bmd_allI, q2]
          · rw [if_neg q2, if_neg (by omega)]))
      clear HBx
      go_wp2
      go_roundw
      case rel => exact ⟨i + 1, by omega, by go_num, HB2, HKx⟩
      case measure => simp [intOf]; omega
  obtain rfl : i = N := by omega
  have i1 : ¬ (i : Int) < (i : Int) := by omega
  have xk := HK.out Wa HKr.out
  obtain ⟨ns, hns⟩ : ∃ ns : Nat → Nat, ns = fun t => (L t).length := ⟨_, rfl⟩
  have HG0 := hideH (GwI.start (HBr.out.congr (X' := fun t => bmsI bm t (ns t)) (fun t ht => by rw [if_pos (by rw [HN.out]; exact ht), hns])))
  have HNS : Hid (∀ t, t < i → ns t ≤ 4398046511104) := hideH (fun t ht => by rw [hns]; exact HL.out t ht)
  obtain ⟨N, hNi⟩ : ∃ N, N = i := ⟨_, rfl⟩
  have HI1 := hideH hNi
  rw [← hNi] at HN HK HVA HNS HKr xk i1 hNb ⊢
  have HKw := HKr
  have ka := Kept.alloc Wa (.cells #[] 35)
  have HKa := hideH ka
  have xk2 : (Wa.alloc (.cells #[] 35)).cell? ⟨kb, 1, none⟩ = some (.slice ga N gc) := ka.cell xk (fun f => f)
  clear HBr HKr hlt hi hns hNi HL ka
  go_wp2
  go_loopw [6, 48] (fun s6 s48 wr => ∃ (i : Nat) (vg : Value) (G : List Value) (o' : Nat → Nat), i ≤ N ∧ vg = s6 ∧ s48 = .int .i64 i ∧ Hid (GwI bm Wa wr o V ns G vg i (.slice none 0 0) 0 o')) (fun _ s48 _ => N - (intOf s48).toNat)
  case atStart => exact ⟨0, _, [], _, by omega, rfl, rfl, HG0⟩
  case round =>
  obtain ⟨i, vg, G, o', hi, rfl, rfl, HG⟩ := hrel
  obtain ⟨Wb, hWb⟩ : ∃ Wb, Wb = wr := ⟨_, rfl⟩
  rw [← hWb] at HG ⊢
  clear hWb xk xk2 HG0
  have HKb : Hid (Kept (fun k => o k < N) w Wb) := hideH (HKw.out.trans HG.out.kept (fun k e => .inl (by rw [HN.out]; exact e)))
  by_cases hlt : i < N
  · have hiV : i < V.length := by rw [← HN.out]; exact hlt
    obtain ⟨b, off, rfl, hc⟩ := HVA.out Wb HKb.out (by intro e; rw [e] at hiV; simp at hiV)
    have x0 := hc i hiV
    have HGt := hideH (HG.out.take hiV)
    obtain ⟨a, ci, eV, -, -⟩ := (HG.out.vs.lib i hiV).shape
    simp only [bms_lengthI] at eV
    rw [eV] at x0 HGt
    obtain ⟨ni, hni⟩ : ∃ ni, ni = ns i := ⟨_, rfl⟩
    rw [← hni] at x0 HGt
    have hnb : ni ≤ 4398046511104 := by rw [hni]; exact HNS.out i hlt
    have HNI := hideH hni
    have i2 : (i : Int) < (N : Int) := by omega
    clear hc hni eV HG
    go_wp2
    go_loopw [8, 10] (fun s8 s10 wx => ∃ (j : Nat) (v : Value) (o' : Nat → Nat), j ≤ 16 ∧ v = s8 ∧ s10 = .int .i64 j ∧ Hid (GwI bm Wa wx o V ns G vg i v (ni + j) o')) (fun _ s10 _ => 16 - (intOf s10).toNat)
    case atStart => exact ⟨0, _, _, by omega, rfl, rfl, HGt⟩
    case round =>
    obtain ⟨j, v, o2, hj, rfl, rfl, HGx⟩ := hrel
    obtain ⟨Wc, hWc⟩ : ∃ Wc, Wc = wr := ⟨_, rfl⟩
    rw [← hWc] at HGx ⊢
    clear hWc HGt
    by_cases hjl : j < 16
    · have CB := hideH (BM.out i (ni + j) (by omega) (by omega))
      rw [show ((ni + j : Nat) : Int) = (ni : Int) + (j : Int) by omega] at CB
      have j1 : (j : Int) < 16 := by omega
      have j2 : IntKind.i64.wrap ((ni : Int) + (j : Int)) = (ni : Int) + (j : Int) := by rw [IntKind.wrap_i64]; omega
      have ka := Kept.alloc Wc (.cells #[.int .i64 (bm i (ni + j))] 3)
      have hg1 := HGx.out.later ka
      have HG1 := hideH hg1
      have HL1 := hideH hg1.cur
      have HC1 := hideH (one_cellI Wc (bm i (ni + j)))
      have HE : Hid (bmsI bm i (ni + j) ++ [bm i (ni + j)] = bmsI bm i (ni + j + 1)) := hideH (bms_succI bm i (ni + j)).symm
      generalize bm i (ni + j) = x at *
      clear ka hg1 HGx
      go_wp2_with (first | (go_at_call 77; refine (CB.out _).mono ?_; rintro e W4 ⟨rfl, e4⟩; obtain rfl := e4.symm) | (at_builtin; refine StpH.go ?_))
      refine ⟨?_⟩
      refine wpList_libI rfl _ _ rfl _ (bmsI bm i (ni + j)) [x] rfl HL1 Wc.heap.size 1 1 rfl (hideH rfl) HC1 (ni + j) (hideH (bms_lengthI bm i (ni + j)).symm) (by decide) (by omega) ?_
      intro a' c' W' HL' HS'
      rw [HE.out] at HL'
      obtain ⟨o3, hg3⟩ := HG1.out.step hiV (by rw [HNI.out]; exact Nat.le_add_right _ _) HS'.out HL'.out
      have HG3 := hideH hg3
      clear hg3 HG1 HL1 HC1 HL' HS'
      go_wp2_with fail
      go_roundw
      case rel => exact ⟨j + 1, _, o3, by omega, rfl, by go_num, HG3⟩
      case measure => simp [intOf]; omega
    · obtain rfl : j = 16 := by omega
      have j1 : ¬ ((16 : Nat) : Int) < 16 := by omega
      have ka := Kept.alloc Wc (.cells #[] 3)
      have HLm : Hid (LibI (Wc.alloc (.cells #[] 3)) (.slice (some ⟨Wc.heap.size, 0, none⟩) 0 0) (bmfI bm i (ni + 16) 0)) := hideH (.inr ⟨Wc.heap.size, 0, #[], rfl, heap_alloc_new Wc _, Nat.le_refl _, Nat.le_refl _, rfl⟩)
      have HKa2 := hideH ka
      clear ka
      go_wp2
      go_loopw [11, 12] (fun s11 s12 wy => ∃ (q : Nat) (vm : Value), q ≤ 80 ∧ vm = s11 ∧ s12 = .int .i64 q ∧ Hid (LibI wy vm (bmfI bm i (ni + 16) q)) ∧ Hid (∀ k, vm.ownBlock = some k → Wc.heap.size ≤ k) ∧ Hid (Kept (fun _ => False) Wc wy)) (fun _ s12 _ => 80 - (intOf s12).toNat)
      case atStart => exact ⟨0, _, by omega, rfl, rfl, HLm, hideH (fun k hk => by have e : Wc.heap.size = k := Option.some.inj hk; omega), HKa2⟩
      case round =>
      obtain ⟨q, vm, hq, rfl, rfl, HLy, HOy, HKy⟩ := hrel
      obtain ⟨Wd, hWd⟩ : ∃ Wd, Wd = wr := ⟨_, rfl⟩
      rw [← hWd] at HLy HKy ⊢
      clear hWd HLm HKa2
      by_cases hql : q < 80
      · have CB := hideH (BM.out i (ni + 16 + q) (by omega) (by omega))
        rw [show ((ni + 16 + q : Nat) : Int) = (ni : Int) + 16 + (q : Int) by omega] at CB
        have q1 : (q : Int) < 80 := by omega
        have q2 : IntKind.i64.wrap ((ni : Int) + 16) = (ni : Int) + 16 := by rw [IntKind.wrap_i64]; omega
        have q3 : IntKind.i64.wrap ((ni : Int) + 16 + (q : Int)) = (ni : Int) + 16 + (q : Int) := by rw [IntKind.wrap_i64]; omega
        have ka := Kept.alloc Wd (.cells #[.int .i64 (bm i (ni + 16 + q))] 3)
        have HL1 := hideH (HLy.out.later ka)
        have HC1 := hideH (one_cellI Wd (bm i (ni + 16 + q)))
        have HKd := hideH (HKy.out.trans ka (fun _ f => f.elim))
        have HE : Hid (bmfI bm i (ni + 16) q ++ [bm i (ni + 16 + q)] = bmfI bm i (ni + 16) (q + 1)) := hideH (bmf_succI bm i (ni + 16) q).symm
        have hsz : Wc.heap.size ≤ Wd.heap.size := HKy.out.size
        generalize bm i (ni + 16 + q) = x at *
        clear ka HLy HKy
        go_wp2_with (first | (go_at_call 77; refine (CB.out _).mono ?_; rintro e W4 ⟨rfl, e4⟩; obtain rfl := e4.symm) | (at_builtin; refine StpH.go ?_))
        refine ⟨?_⟩
        refine wpList_libI rfl _ _ rfl _ (bmfI bm i (ni + 16) q) [x] rfl HL1 Wd.heap.size 1 1 rfl (hideH rfl) HC1 q (hideH (bmf_lengthI bm i (ni + 16) q).symm) (by decide) (by omega) ?_
        intro a' c' W' HL' HS'
        rw [HE.out] at HL'
        have HK' := hideH (HKd.out.trans HS'.out.kept (fun k hk => .inr (HOy.out k hk)))
        have HO' : Hid (∀ k, (Value.slice a' (q + 1) c').ownBlock = some k → Wc.heap.size ≤ k) := hideH (fun k hk => by
          rcases HS'.out.new k hk with e | e
          · exact HOy.out k e
          · have := HKd.out.size
            omega)
        clear HL1 HC1 HS' HKd HOy
        go_wp2_with fail
        go_roundw
        case rel => exact ⟨q + 1, _, by omega, rfl, by go_num, HL', HO', HK'⟩
        case measure => simp [intOf]; omega
      · obtain rfl : q = 80 := by omega
        have q1 : ¬ ((80 : Nat) : Int) < 80 := by omega
        obtain ⟨mb, mc, em, -, -⟩ := HLy.out.cells (show 0 < (bmfI bm i (ni + 16) 80).length by rw [bmf_lengthI]; decide)
        rw [bmf_lengthI] at em
        have HCm : Hid (∀ j u, (isH (bmfI bm i (ni + 16) 80))[j]? = some u → Wd.cell? ((⟨mb, 0, none⟩ : Addr).add j) = some u) := hideH (fun j u hu => by
          have hj : j < (bmfI bm i (ni + 16) 80).length := by rw [← isH_length]; exact (List.getElem?_eq_some_iff.1 hu).1
          obtain ⟨mb', mc', em', h1, -⟩ := HLy.out.cells hj
          rw [em] at em'
          simp only [Value.slice.injEq, Option.some.injEq, Addr.mk.injEq, and_true] at em'
          obtain ⟨e1, -, -⟩ := em'
          rw [Go.WideShapes.add_plain, Nat.zero_add, e1, h1]
          unfold isH at hu
          rw [List.getElem?_map, List.getElem?_eq_getElem hj] at hu
          simp only [Option.map_some, Option.some.injEq] at hu
          rw [List.getElem?_eq_getElem hj, ← hu]
          rfl)
        subst em
        have hg1 := HGx.out.later HKy.out
        have HG1 := hideH hg1
        have HL1 := hideH hg1.cur
        have HE : Hid (bmsI bm i (ni + 16) ++ bmfI bm i (ni + 16) 80 = bmsI bm i (ni + 96)) := hideH (bms_bmfI bm i (ni + 16) 80)
        clear hg1 HGx HLy HOy HKy
        go_wp2_with (at_builtin; refine StpH.go ?_)
        refine ⟨?_⟩
        refine wpList_libI rfl _ _ rfl _ (bmsI bm i (ni + 16)) (bmfI bm i (ni + 16) 80) rfl HL1 mb 80 mc rfl (hideH (bmf_lengthI bm i (ni + 16) 80).symm) HCm (ni + 16) (hideH (bms_lengthI bm i (ni + 16)).symm) (by decide) (by omega) ?_
        intro a' c' W' HL' HS'
        rw [HE.out] at HL'
        obtain ⟨o3, hg3⟩ := HG1.out.step hiV (by rw [HNI.out]; exact Nat.le_add_right _ _) HS'.out HL'.out
        obtain ⟨j0, hj0, hy0, hy1, hy2⟩ := info_parts Tryd.infoSlHI
        have ka := Kept.alloc W' (.cells #[.slice a' (ni + 16 + 80) c'] 35)
        have hg4 := hg3.later ka
        have HG4 := hideH hg4
        have HO4 := hideH hg4.out
        have HC4 : Hid (∀ j u, [.slice a' (ni + 16 + 80) c'][j]? = some u → (W'.alloc (.cells #[.slice a' (ni + 16 + 80) c'] 35)).cell? ((⟨W'.heap.size, 0, none⟩ : Addr).add j) = some u) := hideH (one_new W' (.slice a' (ni + 16 + 80) c') 35)
        have hsz : Wa.heap.size ≤ (W'.alloc (.cells #[.slice a' (ni + 16 + 80) c'] 35)).heap.size := hg4.kept.size
        clear ka hg4 hg3 HG1 HL1 HCm HL' HS'
        go_wp2_with (at_builtin; refine StpH.go ?_)
        refine ⟨?_⟩
        refine wpList_append_own_at _ rfl _ _ 29 rfl Wa.heap.size 35 j0 (.slice none 0 0) 1 24 Tryd.underlying29 hj0 hy0 hy1 hy2 rfl (by decide) vg i G rfl HO4.out ⟨W'.heap.size, 0, none⟩ 1 1 [.slice a' (ni + 16 + 80) c'] rfl rfl HC4.out (by intro u hu; simp only [List.mem_singleton] at hu; rw [hu]; rfl) (by unfold maxLen; omega) (by omega) hsz ?_
        intro v' w1 ho1 hg1 _ hat
        obtain ⟨o4, hg5⟩ := GwI.push HG4.out (by rw [HNI.out]) hiV (Kept.grown hg1) ho1 (fun k hk => by
          rcases hat with e | e
          · exact .inl (by rw [← e]; exact hk)
          · rw [e] at hk
            have : _ = k := Option.some.inj hk
            exact .inr (by omega))
        have HG5 := hideH hg5
        clear hg5 ho1 hg1 hat HG4 HO4 HC4
        go_wp2_with fail
        go_roundw
        case rel => exact ⟨i + 1, _, _, o4, by omega, rfl, by go_num, HG5⟩
        case measure => simp [intOf]; omega
  obtain rfl : i = N := by omega
  have i2 : ¬ (i : Int) < (i : Int) := by omega
  have xk := HK.out Wb HKb.out
  have HGn := HG
  have hGl : G.length = i := HG.out.glen
  obtain ⟨N, hNi⟩ : ∃ N, N = i := ⟨_, rfl⟩
  have HI2 := hideH hNi
  rw [← hNi] at HGn HG HN HK HVA HNS HKb xk i2 hGl hNb ⊢
  obtain ⟨ag, cg, eg⟩ := row_shapeH HG.out.out
  subst eg
  clear HKw hlt hi hNi
  go_wp2
  go_loopw [91] (fun s91 wr => ∃ i : Nat, i ≤ N ∧ s91 = .int .i64 i ∧ Hid (Kept (fun _ => False) Wb wr)) (fun s91 _ => N - (intOf s91).toNat)
  case atStart => exact ⟨0, by omega, rfl, hideH (Kept.refl _ _)⟩
  case round =>
  obtain ⟨i, hi, rfl, HKr⟩ := hrel
  obtain ⟨Wc, hWc⟩ : ∃ Wc, Wc = wr := ⟨_, rfl⟩
  rw [← hWc] at HKr ⊢
  clear hWc xk
  by_cases hlt : i < N
  · have hiG : i < G.length := by rw [hGl]; exact hlt
    have hgc := HG.out.later HKr.out
    have hro := hgc.out
    obtain ⟨gb, hgb⟩ : ∃ gb, ag = some ⟨gb, 0, none⟩ := by
      rcases hro.2 with ⟨e1, e2⟩ | ⟨g', cap, cur, e1, _⟩
      · omega
      · simp only [Value.slice.injEq] at e1
        exact ⟨g', e1.1⟩
    subst hgb
    have x0 := hro.cells (g := gb) rfl i G[i] (List.getElem?_eq_getElem hiG)
    rw [Go.WideShapes.add_plain, Nat.zero_add] at x0
    have hlib := hgc.gs.lib i hiG
    have HLi := hideH hlib
    obtain ⟨a, ci, eV, -, -⟩ := hlib.shape
    rw [bms_lengthI] at eV
    rw [eV] at x0
    obtain ⟨mi, hmi⟩ : ∃ mi, mi = ns i + 96 := ⟨_, rfl⟩
    have hnb : mi ≤ 4398046511200 := by have := HNS.out i hlt; omega
    rw [← hmi] at x0 eV HLi
    have HEV := hideH eV
    have i3 : (i : Int) < (N : Int) := by omega
    clear hgc hro hlib eV hmi
    go_wp2
    go_loopw [98] (fun s98 wx => ∃ j : Nat, j ≤ mi ∧ s98 = .int .i64 j ∧ Hid (Kept (fun _ => False) Wc wx)) (fun s98 _ => mi - (intOf s98).toNat)
    case atStart => exact ⟨0, by omega, rfl, hideH (Kept.refl _ _)⟩
    case round =>
    obtain ⟨j, hj, rfl, HKx⟩ := hrel
    by_cases hjl : j < mi
    · have hlx := HLi.out.later HKx.out
      obtain ⟨b2, c2, e2, y1, -⟩ := hlx.cells (j := j) (by rw [bms_lengthI]; exact hjl)
      rw [HEV.out] at e2
      simp only [Value.slice.injEq] at e2
      obtain ⟨rfl, -, -⟩ := e2
      rw [bms_getI _ _ _ _ hjl] at y1
      have CB := hideH (BM.out i j (by omega) (by omega))
      generalize bm i j = x at y1 CB
      have j1 : (j : Int) < (mi : Int) := by omega
      clear hlx
      go_wp2
      go_region_with (go_at_call 77; refine (CB.out _).mono ?_; rintro e W5 ⟨rfl, e5⟩; subst e5)
      all_goals
        go_wp2
        go_roundw
        case rel => exact ⟨j + 1, by omega, by go_num, hideH (HKx.out.trans (Kept.drew _) (fun _ f => f.elim))⟩
        case measure => simp [intOf]; omega
    · obtain rfl : j = mi := by omega
      have j1 : ¬ (j : Int) < (j : Int) := by omega
      have HK2 := hideH (HKr.out.trans HKx.out (fun _ f => f.elim))
      go_wp2
      go_roundw
      case rel => exact ⟨i + 1, by omega, by go_num, HK2⟩
      case measure => simp [intOf]; omega
  obtain rfl : i = N := by omega
  have i4 : ¬ (i : Int) < (i : Int) := by omega
  have HKc := hideH (HKb.out.trans HKr.out (fun _ f => f.elim))
  have xk := HK.out Wc HKc.out
  have HGv := hideH (HG.out.vs.later HKr.out)
  obtain ⟨N, hNi⟩ : ∃ N, N = i := ⟨_, rfl⟩
  have HI3 := hideH hNi
  rw [← hNi] at HN HK HVA HNS HKc xk i4 hNb ⊢
  clear hlt hi hNi HG HGn HKr HKb
  go_wp2
  go_loopw [116] (fun s116 wr => ∃ i : Nat, i ≤ N ∧ s116 = .int .i64 i ∧ Hid (Kept (fun _ => False) Wc wr)) (fun s116 _ => N - (intOf s116).toNat)
  case atStart => exact ⟨0, by omega, rfl, hideH (Kept.refl _ _)⟩
  case round =>
  obtain ⟨i, hi, rfl, HKr⟩ := hrel
  obtain ⟨Wd, hWd⟩ : ∃ Wd, Wd = wr := ⟨_, rfl⟩
  rw [← hWd] at HKr ⊢
  clear hWd xk
  by_cases hlt : i < N
  · have hiV : i < V.length := by rw [← HN.out]; exact hlt
    obtain ⟨b, off, rfl, hc⟩ := HVA.out Wd (HKc.out.trans HKr.out (fun _ f => f.elim)) (by intro e; rw [e] at hiV; simp at hiV)
    have x0 := hc i hiV
    have hlib := (HGv.out.later HKr.out).lib i hiV
    have HLi := hideH hlib
    obtain ⟨a, ci, eV, -, -⟩ := hlib.shape
    rw [bms_lengthI] at eV
    rw [eV] at x0
    obtain ⟨mi, hmi⟩ : ∃ mi, mi = ns i := ⟨_, rfl⟩
    have hnb : mi ≤ 4398046511104 := by rw [hmi]; exact HNS.out i hlt
    rw [← hmi] at x0 eV HLi
    have HEV := hideH eV
    have i3 : (i : Int) < (N : Int) := by omega
    clear hc hlib eV hmi
    go_wp2
    go_loopw [123] (fun s123 wx => ∃ j : Nat, j ≤ mi ∧ s123 = .int .i64 j ∧ Hid (Kept (fun _ => False) Wd wx)) (fun s123 _ => mi - (intOf s123).toNat)
    case atStart => exact ⟨0, by omega, rfl, hideH (Kept.refl _ _)⟩
    case round =>
    obtain ⟨j, hj, rfl, HKx⟩ := hrel
    by_cases hjl : j < mi
    · have hlx := HLi.out.later HKx.out
      obtain ⟨b2, c2, e2, y1, -⟩ := hlx.cells (j := j) (by rw [bms_lengthI]; exact hjl)
      rw [HEV.out] at e2
      simp only [Value.slice.injEq] at e2
      obtain ⟨rfl, -, -⟩ := e2
      rw [bms_getI _ _ _ _ hjl] at y1
      have CB := hideH (BM.out i j (by omega) (by omega))
      generalize bm i j = x at y1 CB
      have j1 : (j : Int) < (mi : Int) := by omega
      clear hlx
      go_wp2
      go_region_with (go_at_call 77; refine (CB.out _).mono ?_; rintro e W5 ⟨rfl, e5⟩; subst e5)
      all_goals
        go_wp2
        go_roundw
        case rel => exact ⟨j + 1, by omega, by go_num, hideH (HKx.out.trans (Kept.drew _) (fun _ f => f.elim))⟩
        case measure => simp [intOf]; omega
    · obtain rfl : j = mi := by omega
      have j1 : ¬ (j : Int) < (j : Int) := by omega
      have HK2 := hideH (HKr.out.trans HKx.out (fun _ f => f.elim))
      go_wp2
      go_roundw
      case rel => exact ⟨i + 1, by omega, by go_num, HK2⟩
      case measure => simp [intOf]; omega
  obtain rfl : i = N := by omega
  have i5 : ¬ (i : Int) < (i : Int) := by omega
  go_wp2
  go_ret
  have hfin := HKc.out.trans HKr.out (fun _ f => f.elim)
  rw [HI3.out, HI2.out, HI1.out] at hfin
  exact ⟨rfl, hfin⟩
end Go.Proofs.YtjmmdklgkcbihaaDoor
