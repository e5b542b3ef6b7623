import Derived.Test.YtpopfgablgnalaaHng
import Derived.Laws.Concat
namespace Go.Proofs.Ytpopfgablgnalaa
open Go.ChangeShapes Go.WideShapes Go.ChangeAt Go.RowKit

theorem Try.infoPtH : (Try.prog.info? 26).map (fun i => (i.zero, i.size, i.bytes)) = some (some (.pointer none), 1, 8) := by kernel_rfl
theorem conv_atB {W : World} {a : Option Addr} {B : List Int} {c : Nat} (h : BytesAt W a B) : (convert 23 9 (.slice a B.length c)).run Try.prog W = .ok (.string (strOfNums B)) W := by
  by_cases hne : B = []
  · subst hne
    cases a with
    | none => exact run_convert_bytes_nil W 23 5 Try.underlying23 Try.underlying5 0 c 9 Try.underlying9
    | some ad =>
      have hl : (loadCells ad 0).run Try.prog W = .ok (([] : List Int).map (Value.int .u8)).toArray W := by
        have := run_loadCells_list (P := Try.prog) W ad [] (fun j v hj => by simp at hj)
        simpa using this
      show (convert 23 9 (.slice (some ad) 0 c)).run Try.prog W = _
      rw [run_convert_bytes_string W 23 9 5 _ 0 c Try.underlying23 Try.underlying5 Try.underlying9, run_bytesToString W _ 0 c [] hl]
      rfl
  · obtain ⟨b, off, rfl, hc⟩ := h hne
    refine run_convert_bytes_arg W 23 5 Try.underlying23 Try.underlying5 b off B.length c B rfl (fun i hi => ?_) 9 Try.underlying9
    simpa [List.getD] using hc i hi
theorem BytesAt.laterH {w w' : World} {a : Option Addr} {l : List Int} (h : BytesAt w a l) (k : Kept (fun _ => False) w w') : BytesAt w' a l := by
  intro hne
  obtain ⟨b, off, e, hc⟩ := h hne
  exact ⟨b, off, e, fun j hj => k.cell (hc j hj) (fun f => f)⟩
/-- The law's fixed fact: three parts. -/
theorem fixed3 (w : World) : ∃ W3, W3 = ((w.alloc (.cells #[.int .u8 1] 5)).alloc (.cells #[.int .u8 2, .int .u8 3] 5)).alloc (.cells #[.slice (some ⟨w.heap.size, 0, none⟩) 1 1, .slice none 0 0, .slice (some ⟨w.heap.size + 1, 0, none⟩) 2 2] 23) ∧ Kept (fun _ => False) w W3 ∧ Calls Try.prog 4 #[.slice (some ⟨w.heap.size + 1 + 1, 0, none⟩) 3 3] W3 fun e w' => ∃ g, e = .returned (.slice (some ⟨g, 0, none⟩) 3 3) ∧ (convert 23 9 (.slice (some ⟨g, 0, none⟩) 3 3)).run Try.prog w' = .ok (.string ⟨#[1, 2, 3]⟩) w' ∧ Kept (fun _ => False) W3 w' := by
  refine ⟨_, rfl, ?_, ?_⟩
  · exact ((Kept.alloc _ _).trans (Kept.alloc _ _) (fun _ f => f.elim)).trans (Kept.alloc _ _) (fun _ f => f.elim)
  · obtain ⟨W1, hW1⟩ : ∃ W1, W1 = w.alloc (.cells #[.int .u8 1] 5) := ⟨_, rfl⟩
    obtain ⟨W2, hW2⟩ : ∃ W2, W2 = W1.alloc (.cells #[.int .u8 2, .int .u8 3] 5) := ⟨_, rfl⟩
    obtain ⟨W3, hW3⟩ : ∃ W3, W3 = W2.alloc (.cells #[.slice (some ⟨w.heap.size, 0, none⟩) 1 1, .slice none 0 0, .slice (some ⟨w.heap.size + 1, 0, none⟩) 2 2] 23) := ⟨_, rfl⟩
    rw [← hW1, ← hW2, ← hW3]
    have s1 : W1.heap.size = w.heap.size + 1 := by rw [hW1]; simp
    have s2 : W2.heap.size = w.heap.size + 1 + 1 := by rw [hW2, ← s1]; simp
    have k2 : Kept (fun _ => False) W1 W2 := by rw [hW2]; exact Kept.alloc _ _
    have k3 : Kept (fun _ => False) W2 W3 := by rw [hW3]; exact Kept.alloc _ _
    have b1 : W3.heap[w.heap.size]? = some (.cells #[.int .u8 1] 5 (0, 0)) := k3.heap (k2.heap (by rw [hW1]; exact heap_alloc_new w _) (fun f => f)) (fun f => f)
    have b2 : W3.heap[w.heap.size + 1]? = some (.cells #[.int .u8 2, .int .u8 3] 5 (0, 0)) := k3.heap (by rw [← s1, hW2]; exact heap_alloc_new W1 _) (fun f => f)
    have b3 : W3.heap[w.heap.size + 1 + 1]? = some (.cells #[.slice (some ⟨w.heap.size, 0, none⟩) 1 1, .slice none 0 0, .slice (some ⟨w.heap.size + 1, 0, none⟩) 2 2] 23 (0, 0)) := by rw [← s2, hW3]; exact heap_alloc_new W2 _
    have cc := concat_anyH [(some ⟨w.heap.size, 0, none⟩, 1, [1]), (none, 0, []), (some ⟨w.heap.size + 1, 0, none⟩, 2, [2, 3])] (some ⟨w.heap.size + 1 + 1, 0, none⟩) 3 W3 (fun _ => ⟨_, 0, rfl, fun k hk => by
      rw [Nat.zero_add, cell_of_row _ _ _ _ _ _ b3]
      match k, hk with
      | 0, _ => rfl
      | 1, _ => rfl
      | 2, _ => rfl⟩) (fun p hp => by
      simp only [List.mem_cons, List.not_mem_nil, or_false] at hp
      rcases hp with rfl | rfl | rfl
      · intro _
        refine ⟨_, 0, rfl, fun k hk => ?_⟩
        rw [Nat.zero_add, cell_of_row _ _ _ _ _ _ b1]
        match k, hk with
        | 0, _ => rfl
      · intro h
        exact absurd rfl h
      · intro _
        refine ⟨_, 0, rfl, fun k hk => ?_⟩
        rw [Nat.zero_add, cell_of_row _ _ _ _ _ _ b2]
        match k, hk with
        | 0, _ => rfl
        | 1, _ => rfl) (by simp) (by simp [flatH])
    refine cc.mono ?_
    rintro e w' ⟨rfl, hr, k⟩
    refine ⟨_, rfl, ?_, k⟩
    have := conv_atH (Lib.of_own hr)
    exact this
set_option maxRecDepth 20000 in
set_option maxHeartbeats 16000000 in
/-- The law CodecConcat. -/
theorem concat_walk (bm : Nat → Nat → Int) (hbm : BmI bm) (P : List PartH) (pa : Option Addr) (pc : Nat) (w : World) (hP : PartsAtH w pa P) (hB : ∀ p ∈ P, BytesAt w p.1 p.2.2) (hz : ∀ p ∈ P, p.1 = none → p.2.1 = 0) (hl : P.length ≤ 1048576) (hn : (flatH P).length ≤ 1048576) :
    Calls Try.prog 3 #[.slice pa P.length pc] w fun e w' => e = .returned (.bool true) ∧ Kept (fun _ => False) w w' := by
  have BM := hideH hbm
  have HP := hideH hP
  have HB := hideH hB
  have HZ := hideH hz
  have HFn := hideH hn
  obtain ⟨N, hN⟩ : ∃ N, N = P.length := ⟨_, rfl⟩
  rw [← hN] at hl ⊢
  have HN := hideH hN
  obtain ⟨W3, hW3, k3, c3⟩ := fixed3 w
  have C0 := hideH c3
  have HK3 := hideH k3
  have HW3 := hideH hW3
  clear hbm hP hB hz hn hN c3 k3 hW3
  go_enter Try.func3, Try.ntmps3
  go_wp2_with (go_at_call 4; refine StpH.go ?_)
  refine ⟨?_⟩
  rw [← HW3.out]
  refine C0.out.mono ?_
  clear C0 HW3
  rintro e W4 ⟨g, rfl, cv, k4⟩
  have HK4 := hideH (HK3.out.trans k4 (fun _ f => f.elim))
  have C1 := hideH (concat_anyH [] none 0 W4 (fun h => absurd rfl h) (fun p hp => by cases hp) (by decide) (by decide))
  clear HK3 k4
  go_wp2_with (go_at_call 4; refine StpH.go ?_)
  refine ⟨?_⟩
  refine C1.out.mono ?_
  clear C1
  rintro e W5 ⟨rfl, -, k5⟩
  have z0 : (flatH []).length = 0 := rfl
  rw [z0]
  have HK5 := hideH (HK4.out.trans k5 (fun _ f => f.elim))
  clear HK4 k5 cv z0
  have HL0 := hideH (Lw.start w.heap.size N W5 HK5.out.size)
  have HK6 : Hid (Kept (fun _ => False) w ((W5.alloc (.cells #[] 26)).alloc (.cells #[] 23))) := hideH ((HK5.out.trans (Kept.alloc _ _) (fun _ f => f.elim)).trans (Kept.alloc _ _) (fun _ f => f.elim))
  obtain ⟨j0, hj0, hy0, hy1, hy2⟩ := info_parts Try.infoSlH
  obtain ⟨p0, hp0, hq0, hq1, hq2⟩ := info_parts Try.infoPtH
  clear HK5
  go_wp2_with fail
  go_loopw [3, 4, 5, 33] (fun s3 s4 s5 s33 wr => ∃ (i : Nat) (H : List HR) (vh vg : Value) (S : ByteArray) (o : Nat → Nat), i ≤ N ∧ vh = s3 ∧ vg = s4 ∧ s5 = .string S ∧ s33 = .int .i64 i ∧ i = H.length ∧ Hid (Lw w.heap.size N wr o H vh vg) ∧ Hid (flatH (gps H) = flatH (P.take i)) ∧ Hid (S = strOfNums (flatH (P.take i))) ∧ Hid (Kept (fun _ => False) w wr) ∧ Hid (∀ r ∈ H, r.n ≤ 1048576) ∧ Hid (∀ k, k < w.heap.size → N ≤ o k)) (fun _ _ _ s33 _ => N - (intOf s33).toNat)
  case atStart => exact ⟨0, [], _, _, _, _, by omega, rfl, rfl, rfl, rfl, rfl, HL0, hideH rfl, hideH rfl, HK6, hideH (fun r hr => by cases hr), hideH (fun k hk => by show N ≤ (if k = W5.heap.size then N else N + 1); split <;> omega)⟩
  case round =>
  obtain ⟨i, H, vh, vg, S, o, hi, rfl, rfl, rfl, rfl, hiH, HL, HF, HS, HK, HM, HOL⟩ := hrel
  obtain ⟨Wa, hWa⟩ : ∃ Wa, Wa = wr := ⟨_, rfl⟩
  rw [← hWa] at HL HK ⊢
  clear hWa HL0 HK6
  have HIH := hideH hiH
  clear hiH
  by_cases hlt : i < N
  · have hiP : i < P.length := by rw [← HN.out]; exact hlt
    obtain ⟨pb, po, rfl, hpc⟩ := HP.out (by intro e; rw [e] at hiP; simp at hiP)
    have x0 := HK.out.cell (hpc i hiP) (fun f => f)
    have hbp := HB.out _ (List.getElem_mem hiP)
    have hzp := HZ.out _ (List.getElem_mem hiP)
    have hfl := flat_next_leH hiP
    have hft := flat_takeH hiP
    obtain ⟨pp, hpp⟩ : ∃ pp, pp = P[i] := ⟨_, rfl⟩
    rw [← hpp] at x0 hbp hzp hfl hft
    obtain ⟨a, c, l⟩ := pp
    dsimp only at hbp hzp hfl hft
    have x1 : Wa.cell? ⟨pb, po + i, none⟩ = some (.slice a l.length c) := x0
    obtain ⟨n, hnl⟩ : ∃ n, n = l.length := ⟨_, rfl⟩
    rw [← hnl] at x1 hfl
    have hFb := HFn.out
    have hnb : n ≤ 1048576 := by omega
    have hSl : S.size = (flatH (P.take i)).length := by rw [HS.out, strOfNums_len]
    have hSb : S.size + n ≤ 1048576 := by omega
    have HNL := hideH hnl
    have HBp := hideH hbp
    have HFT := hideH hft
    have CH := hideH (handB_any l a n c Wa hnl (hbp.laterH HK.out) hzp (by omega))
    have i1 : (i : Int) < (N : Int) := by omega
    clear x0 hpc hbp hzp hfl hft hpp hnl hFb hSl
    go_wp2_with (go_at_call 5; refine StpH.go ?_)
    refine ⟨?_⟩
    refine CH.out.mono ?_
    clear CH
    rintro e W1 ⟨hb, f, cf, q, cq, rfl, hd, n1, n2, n3, k1⟩
    have HD := hideH hd
    have HNW := hideH (And.intro n1 (And.intro n2 n3))
    have HK1 := hideH k1
    have ka := Kept.alloc W1 (.cells #[.pointer (some ⟨hb, 0, none⟩)] 26)
    have hk1a := k1.trans ka (fun _ f => f.elim)
    have hrh := hk1a.row HL.out.rh (fun _ _ f => f)
    rw [← HIH.out] at hrh
    have HRh := hideH hrh
    have HC1 : Hid (∀ j u, [Value.pointer (some ⟨hb, 0, none⟩)][j]? = some u → (W1.alloc (.cells #[.pointer (some ⟨hb, 0, none⟩)] 26)).cell? ((⟨W1.heap.size, 0, none⟩ : Addr).add j) = some u) := hideH (one_new W1 (.pointer (some ⟨hb, 0, none⟩)) 26)
    have hs1 : w.heap.size ≤ (W1.alloc (.cells #[.pointer (some ⟨hb, 0, none⟩)] 26)).heap.size := Nat.le_trans HK.out.size hk1a.size
    have HKA := hideH ka
    clear hd n1 n2 n3 k1 hk1a hrh ka
    go_wp2_with (at_builtin; refine StpH.go ?_)
    refine ⟨?_⟩
    refine wpList_append_own_at _ rfl _ _ 25 rfl w.heap.size 26 p0 (.pointer none) 1 8 Try.underlying25 hp0 hq0 hq1 hq2 rfl (by decide) vh i (H.map HR.ptr) rfl HRh.out ⟨W1.heap.size, 0, none⟩ 1 1 [.pointer (some ⟨hb, 0, none⟩)] rfl rfl HC1.out (by intro u hu; simp only [List.mem_singleton] at hu; rw [hu]; rfl) (by unfold maxLen; omega) (by omega) hs1 ?_
    intro v' W2 ho2 hg2 _ hat2
    have hk2 : Kept (fun k => vh.ownBlock = some k) W1 W2 := (HKA.out.mono (fun _ f => f.elim)).trans (Kept.grown hg2) (fun i hi => .inl hi)
    have hnew2 : ∀ k, v'.ownBlock = some k → vh.ownBlock = some k ∨ W1.heap.size ≤ k := fun k hk => by
      rcases hat2 with e | e
      · exact .inl (by rw [← e]; exact hk)
      · rw [e] at hk
        have e2 := Option.some.inj hk
        have e3 : (W1.alloc (.cells #[.pointer (some ⟨hb, 0, none⟩)] 26)).heap.size = W1.heap.size + 1 := by simp
        exact .inr (by omega)
    have vhl : ∀ k, vh.ownBlock = some k → k < Wa.heap.size ∧ w.heap.size ≤ k := fun k e => ⟨(HL.out.rh.lt k e).2, (HL.out.rh.lt k e).1⟩
    have hd2 : Hd W2 hb f cf q cq n (l ++ hrm 80) := HD.out.kept hk2 (fun e => by have := vhl _ e; have := HNW.out; omega) (fun e => by have := vhl _ e; have := HNW.out; omega) (fun e => by have := vhl _ e; have := HNW.out; omega)
    have CG := hideH (give_any hb f cf q cq n (l ++ hrm 80) W2 hd2)
    obtain ⟨a2, c2, rfl⟩ := row_shapeH ho2
    have HO2 := hideH ho2
    have HK2 := hideH hk2
    have HN2 := hideH hnew2
    have HVL := hideH vhl
    clear hd2 ho2 hg2 hat2 hk2 hnew2 vhl HRh HC1 HKA
    go_wp2_with (go_at_call 6; refine StpH.go ?_)
    refine ⟨?_⟩
    refine CG.out.mono ?_
    clear CG
    rintro e W2b ⟨rfl, k2b⟩
    have kb := Kept.alloc W2b (.cells #[.slice (some ⟨f, 0, none⟩) n cf] 23)
    have hk2c := k2b.trans kb (fun _ f => f.elim)
    have hrg := (HK2.out.row (HK1.out.row HL.out.rg (fun _ _ f => f)) (fun k e1 e2 => by have := HL.out.og k e1; have := HL.out.oh k e2; omega))
    have hrg2 := hk2c.row hrg (fun _ _ f => f)
    rw [← HIH.out] at hrg2
    have HRg := hideH hrg2
    have HC2 : Hid (∀ j u, [Value.slice (some ⟨f, 0, none⟩) n cf][j]? = some u → (W2b.alloc (.cells #[.slice (some ⟨f, 0, none⟩) n cf] 23)).cell? ((⟨W2b.heap.size, 0, none⟩ : Addr).add j) = some u) := hideH (one_new W2b (.slice (some ⟨f, 0, none⟩) n cf) 23)
    have hs2 : w.heap.size ≤ (W2b.alloc (.cells #[.slice (some ⟨f, 0, none⟩) n cf] 23)).heap.size := Nat.le_trans HK.out.size (Nat.le_trans HK1.out.size (Nat.le_trans HK2.out.size hk2c.size))
    have HK2c := hideH hk2c
    have HK2b := hideH k2b
    clear kb hk2c hrg hrg2 k2b
    go_wp2_with (at_builtin; refine StpH.go ?_)
    refine ⟨?_⟩
    refine wpList_append_own_at _ rfl _ _ 22 rfl w.heap.size 23 j0 (.slice none 0 0) 1 24 Try.underlying22 hj0 hy0 hy1 hy2 rfl (by decide) vg i (H.map HR.gv) rfl HRg.out ⟨W2b.heap.size, 0, none⟩ 1 1 [.slice (some ⟨f, 0, none⟩) n cf] rfl rfl HC2.out (by intro u hu; simp only [List.mem_singleton] at hu; rw [hu]; rfl) (by unfold maxLen; omega) (by omega) hs2 ?_
    intro v'' W3 ho3 hg3 _ hat3
    have hk3 : Kept (fun k => vg.ownBlock = some k) W2 W3 := (HK2c.out.mono (fun _ f => f.elim)).trans (Kept.grown hg3) (fun i hi => .inl hi)
    have hnew3 : ∀ k, v''.ownBlock = some k → vg.ownBlock = some k ∨ W2.heap.size ≤ k := fun k hk => by
      rcases hat3 with e | e
      · exact .inl (by rw [← e]; exact hk)
      · rw [e] at hk
        have e2 := Option.some.inj hk
        have := HK2c.out.size
        exact .inr (by omega)
    obtain ⟨a3, c3, rfl⟩ := row_shapeH ho3
    have hvgb : ∀ k, vg.ownBlock = some k → w.heap.size ≤ k := fun k e => (HL.out.rg.lt k e).1
    obtain ⟨o3, hl3, ho3k⟩ := Lw.push (r := ⟨hb, f, cf, q, cq, n, l ++ hrm 80⟩) HL.out (by rw [← HIH.out]; exact hlt) HK1.out HD.out HNW.out HK2.out (by rw [← HIH.out]; exact HO2.out) HN2.out hk3 (by rw [← HIH.out]; exact ho3) hnew3
    have hkw : Kept (fun _ => False) w W3 := ((HK.out.trans HK1.out (fun _ f => f.elim)).trans HK2.out (fun k e => .inr (HVL.out k e).2)).trans hk3 (fun k e => .inr (hvgb k e))
    obtain ⟨s, hs⟩ : ∃ s, s = strOfNums l := ⟨_, rfl⟩
    have hss : s.size = n := by rw [hs, strOfNums_len, HNL.out]
    have cvp : (convert 23 9 (.slice a n c)).run Try.prog W3 = .ok (.string s) W3 := by rw [hs, HNL.out]; exact conv_atB (HBp.out.laterH hkw)
    obtain ⟨T, hT⟩ : ∃ T, T = strOfNums (flatH (P.take (i + 1))) := ⟨_, rfl⟩
    have hadd : (Op.stringOp .add S s).run Try.prog W3 = .ok (.string T) W3 := by
      rw [run_string_add_sum (P := Try.prog) W3 S s (by omega), hT, HFT.out, ← strOfNums_app, ← HS.out, hs]
    have HL3 := hideH hl3
    have HKw := hideH hkw
    have HT := hideH hT
    have HF3 : Hid (flatH (gps (H ++ [⟨hb, f, cf, q, cq, n, l ++ hrm 80⟩])) = flatH (P.take (i + 1))) := hideH (by
      have e : gps (H ++ [⟨hb, f, cf, q, cq, n, l ++ hrm 80⟩]) = gps H ++ [(some ⟨f, 0, none⟩, cf, (l ++ hrm 80).take n)] := by unfold gps; rw [List.map_append]; rfl
      rw [e, flatH_snoc, HF.out, HFT.out]
      show _ ++ (l ++ hrm 80).take n = _
      rw [List.take_left' HNL.out.symm])
    have HM3 : Hid (∀ r ∈ H ++ [⟨hb, f, cf, q, cq, n, l ++ hrm 80⟩], r.n ≤ 1048576) := hideH (fun r hr => by
      rcases List.mem_append.1 hr with h | h
      · exact HM.out r h
      · simp only [List.mem_singleton] at h
        rw [h]
        exact hnb)
    have HOL3 : Hid (∀ k, k < w.heap.size → N ≤ o3 k) := hideH (fun k hk => by have := HK.out.size; rw [ho3k k (by omega)]; exact HOL.out k hk)
    have HLn3 : Hid (i + 1 = (H ++ [(⟨hb, f, cf, q, cq, n, l ++ hrm 80⟩ : HR)]).length) := hideH (by rw [List.length_append, List.length_singleton, ← HIH.out])
    clear hl3 hkw hs hT hss ho3 hg3 hat3 hk3 hnew3 hvgb HRg HC2 HK2c HK2b HO2 HK2 HN2 HVL HD HNW HK1 HL HK HF HS HM HBp HFT hSb ho3k HOL
    go_wp2_with fail
    go_roundw
    case rel => exact ⟨i + 1, _, _, _, T, o3, by omega, rfl, rfl, rfl, by go_num, HLn3.out, HL3, HF3, HT, HKw, HM3, HOL3⟩
    case measure => simp [intOf]; omega
  obtain rfl : i = N := by omega
  have i1 : ¬ (i : Int) < (i : Int) := by omega
  have hPt : P.take i = P := List.take_of_length_le (by rw [← HN.out]; exact Nat.le_refl _)
  rw [hPt] at HF HS
  obtain ⟨A, hA⟩ : ∃ A, A = flatH P := ⟨_, rfl⟩
  rw [← hA] at HF HS
  obtain ⟨LA, hLA⟩ : ∃ LA, LA = A.length := ⟨_, rfl⟩
  have hLAb : LA ≤ 1048576 := by rw [hLA, hA]; exact HFn.out
  have HLA := hideH hLA
  obtain ⟨ag, cg, eg⟩ := row_shapeH HL.out.rg
  rw [← HIH.out] at eg
  subst eg
  obtain ⟨ah, ch, eh⟩ := row_shapeH HL.out.rh
  rw [← HIH.out] at eh
  subst eh
  have HGl : Hid ((gps H).length = i) := hideH (by unfold gps; rw [List.length_map]; exact HIH.out.symm)
  have CA : Hid (∀ W, Kept (fun _ => False) Wa W → Calls Try.prog 4 #[.slice ag i cg] W fun e w' => e = .returned (.slice (some ⟨W.heap.size, 0, none⟩) LA LA) ∧ w'.ownsRow W.heap.size 5 1 (.slice (some ⟨W.heap.size, 0, none⟩) LA LA) LA (bs A) ∧ Kept (fun _ => False) W w') := hideH (fun W k => by
    have hp := (HL.out.later k).parts
    have := concat_anyH (gps H) ag cg W hp.1 hp.2 (by rw [HGl.out]; omega) (by rw [HF.out, ← HLA.out]; omega)
    rw [HGl.out, HF.out, ← HLA.out] at this
    exact this)
  clear hPt hA hLA HP HB HZ hlt hi
  go_wp2_with (go_at_call 4; refine StpH.go ?_)
  refine ⟨?_⟩
  refine (CA.out Wa (Kept.refl _ _)).mono ?_
  rintro e W6 ⟨rfl, ha, k6⟩
  have HRa := hideH ha
  have HK6 := hideH k6
  clear ha k6
  go_wp2_with (go_at_call 4; refine StpH.go ?_)
  refine ⟨?_⟩
  refine (CA.out W6 HK6.out).mono ?_
  clear CA
  rintro e W7 ⟨rfl, hb7, k7⟩
  have hka := HK6.out.trans k7 (fun _ f => f.elim)
  have HRa7 := hideH (Lib.of_own (k7.row HRa.out (fun _ _ f => f)))
  have HRb7 := hideH (Lib.of_own hb7)
  have hga : Wa.heap.size < W6.heap.size := by have := (HRa.out.lt _ rfl).2; exact this
  have hgb : W6.heap.size < W7.heap.size := by have := (hb7.lt _ rfl).2; exact this
  have cva : (convert 23 9 (.slice (some ⟨Wa.heap.size, 0, none⟩) LA LA)).run Try.prog W7 = .ok (.string S) W7 := by rw [HS.out]; exact conv_atH HRa7.out
  have cvb : (convert 23 9 (.slice (some ⟨W6.heap.size, 0, none⟩) LA LA)).run Try.prog W7 = .ok (.string S) W7 := by rw [HS.out]; exact conv_atH HRb7.out
  have HL7 := hideH (HL.out.later hka)
  have HKw7 := hideH (HK.out.trans hka (fun _ f => f.elim))
  have HLen : Hid (∀ r ∈ H, r.l.length = r.n + 80) := hideH (fun r hr => by
    obtain ⟨t, ht, rfl⟩ := List.mem_iff_getElem.1 hr
    exact (HL.out.hd t ht).len)
  have HLt : Hid (∀ t (ht : t < H.length), H[t].f < Wa.heap.size ∧ H[t].q < Wa.heap.size) := hideH (fun t ht => (HL.out.lt t ht).2)
  obtain ⟨HSp, hHS⟩ : ∃ HSp, HSp = H.map HR.sp := ⟨_, rfl⟩
  have HHS := hideH hHS
  have hCl : (flatH (gps HSp)).length = LA := by rw [hHS, flat_spH H HLen.out, HF.out, HLA.out]
  have HCL := hideH hCl
  have hwa : w.heap.size ≤ Wa.heap.size := HK.out.size
  clear hHS hCl hka k7 hb7 HRa HK6 HL HK
  go_wp2_with fail
  go_loopw [5, 69] (fun s5 s69 wr => ∃ (j : Nat) (S : ByteArray), j ≤ i ∧ s5 = .string S ∧ s69 = .int .i64 j ∧ Hid (Lw w.heap.size i wr o (spH j H) (.slice ah i ch) (.slice ag i cg)) ∧ Hid (S = strOfNums (flatH ((gps HSp).take j))) ∧ Hid (Kept (fun k => k < Wa.heap.size ∧ o k < i) W7 wr)) (fun _ s69 _ => i - (intOf s69).toNat)
  case atStart => exact ⟨0, _, by omega, rfl, rfl, hideH (by rw [spH_zero]; exact HL7.out), hideH rfl, hideH (Kept.refl _ _)⟩
  case round =>
  obtain ⟨j, S2, hj, rfl, rfl, HL2, HS2, HK2⟩ := hrel
  obtain ⟨Wb, hWb⟩ : ∃ Wb, Wb = wr := ⟨_, rfl⟩
  rw [← hWb] at HL2 HK2 ⊢
  clear hWb cva cvb HL7 HS
  by_cases hlt : j < i
  · have hjH : j < H.length := by rw [← HIH.out]; exact hlt
    have hjS : j < (spH j H).length := by rw [spH_len]; exact hjH
    have hd0 := HL2.out.hd j hjS
    have hrow := HL2.out.rh
    rw [spH_len, ← HIH.out] at hrow
    obtain ⟨gh, rfl, x0⟩ := row_cell hrow (j := j) (u := (spH j H)[j].ptr) (by rw [List.getElem?_map, List.getElem?_eq_getElem hjS]; rfl)
    rw [spH_at hjH] at hd0 x0
    have hset := fun W' (k8 : Kept (fun _ => False) Wb W') W9 (h9 : H[j].sp.At W9) (k9 : Kept (fun k => k = H[j].f ∨ k = H[j].q) W' W9) => (by
      have h1 := (HL2.out.later k8).spoil (i := j) hjS (by rw [spH_at hjH]; exact h9) (by rw [spH_at hjH]; exact k9)
      rw [spH_at hjH, spH_set hjH] at h1
      exact h1 : Lw w.heap.size i W9 o (spH (j + 1) H) (.slice (some ⟨gh, 0, none⟩) i ch) (.slice ag i cg))
    have hlf := HLt.out j hjH
    have hnb := HM.out _ (List.getElem_mem hjH)
    have hown := HL2.out.own j hjS
    rw [spH_at hjH] at hown
    have hgs := gps_sp H j hjH
    rw [← HHS.out] at hgs
    have hft := flat_takeH hgs.1
    rw [(List.getElem?_eq_some_iff.1 hgs.2).2] at hft
    have hle := flat_take_leH (P := gps HSp) (k := j)
    rw [HCL.out] at hle
    obtain ⟨r, hr⟩ : ∃ r, r = H[j] := ⟨_, rfl⟩
    rw [← hr] at hd0 x0 hset hlf hnb hft hown
    have x1 : Wb.cell? ⟨gh, j, none⟩ = some (.pointer (some ⟨r.hb, 0, none⟩)) := x0
    have hSs : S2.size ≤ 1048576 := by rw [HS2.out, strOfNums_len]; omega
    have HSE := hideH hset
    have HFT := hideH hft
    have HD := hideH hd0
    have HLF := hideH hlf
    have HOW := hideH hown
    have C8 := hideH (sameH_any r.hb r.f r.cf r.q r.cq r.n r.l Wb hd0)
    have C9 : Hid (∀ W, Kept (fun _ => False) Wb W → Calls Try.prog 8 #[.pointer (some ⟨r.hb, 0, none⟩)] W fun e w' => e = .returned (.tuple #[]) ∧ Hd w' r.hb r.f r.cf r.q r.cq r.n (spl r.n r.l) ∧ Kept (fun k => k = r.f ∨ k = r.q) W w') := hideH (fun W k => spoil_any r.hb r.f r.cf r.q r.cq r.n r.l W (HD.out.later k) (by omega))
    have j1 : (j : Int) < (i : Int) := by omega
    clear x0 hrow hd0 hset hft hgs hle hr hlf hown
    go_wp2_with (first
      | (go_at_call 7; refine C8.out.mono ?_; clear C8; rintro e W8 ⟨rfl, k8⟩; have C9a := hideH (C9.out W8 k8); have HK8 := hideH k8; clear k8 C9)
      | (go_at_call 8; refine StpH.go ?_))
    refine ⟨?_⟩
    refine C9a.out.mono ?_
    clear C9a
    rintro e W9 ⟨rfl, hd9, k9⟩
    have HD9 := hideH hd9
    have HK9 := hideH k9
    have CG := hideH (give_any r.hb r.f r.cf r.q r.cq r.n (spl r.n r.l) W9 hd9)
    clear hd9 k9
    go_wp2_with (go_at_call 6; refine StpH.go ?_)
    refine ⟨?_⟩
    refine CG.out.mono ?_
    clear CG
    rintro e W10 ⟨rfl, k10⟩
    have hat : r.sp.At W10 := HD9.out.later k10
    obtain ⟨s, hs⟩ : ∃ s, s = strOfNums (r.sp.l.take r.sp.n) := ⟨_, rfl⟩
    have hss : s.size = r.n := by rw [hs, strOfNums_len]; exact hat.part_len
    have cvp : (convert 23 9 (.slice (some ⟨r.f, 0, none⟩) r.n r.cf)).run Try.prog W10 = .ok (.string s) W10 := by
      have := conv_atB (c := r.cf) hat.bytes
      rw [show r.sp.part.2.2.length = r.n from hat.part_len] at this
      rw [hs]
      exact this
    obtain ⟨T, hT⟩ : ∃ T, T = strOfNums (flatH ((gps HSp).take (j + 1))) := ⟨_, rfl⟩
    have hadd : (Op.stringOp .add S2 s).run Try.prog W10 = .ok (.string T) W10 := by
      rw [run_string_add_sum (P := Try.prog) W10 S2 s (by omega), hT, HFT.out, ← strOfNums_app, ← HS2.out, hs]
      rfl
    have HL3 := hideH ((HSE.out W8 HK8.out W9 HD9.out HK9.out).later k10)
    have HT := hideH hT
    have HK3 : Hid (Kept (fun k => k < Wa.heap.size ∧ o k < i) W7 W10) := hideH (((HK2.out.trans HK8.out (fun _ f => f.elim)).trans HK9.out (fun k e => .inl (by
      have h1 := HLF.out
      have h2 := HOW.out
      rcases e with e | e
      · rw [e]; exact ⟨h1.1, by omega⟩
      · rw [e]; exact ⟨h1.2, by omega⟩))).trans k10 (fun _ f => f.elim))
    clear hat hs hss hT k10 HD9 HK9 HK8 HSE HFT HD HLF HOW HL2 HS2 HK2
    go_wp2_with fail
    go_roundw
    case rel => exact ⟨j + 1, T, by omega, rfl, by go_num, HL3, HT, HK3⟩
    case measure => simp [intOf]; omega
  obtain rfl : j = i := by omega
  have j1 : ¬ (j : Int) < (j : Int) := by omega
  have hsp : spH j H = HSp := by rw [HHS.out, HIH.out]; exact spH_all H
  rw [hsp] at HL2
  have hGl2 : (gps HSp).length = j := by unfold gps; rw [HHS.out, List.length_map, List.length_map]; exact HIH.out.symm
  have hHl : HSp.length = j := by rw [HHS.out, List.length_map]; exact HIH.out.symm
  rw [List.take_of_length_le (Nat.le_of_eq hGl2)] at HS2
  obtain ⟨C, hC⟩ : ∃ C, C = flatH (gps HSp) := ⟨_, rfl⟩
  rw [← hC] at HS2 HCL
  have CC : Hid (Calls Try.prog 4 #[.slice ag j cg] Wb fun e w' => e = .returned (.slice (some ⟨Wb.heap.size, 0, none⟩) LA LA) ∧ w'.ownsRow Wb.heap.size 5 1 (.slice (some ⟨Wb.heap.size, 0, none⟩) LA LA) LA (bs C) ∧ Kept (fun _ => False) Wb w') := hideH (by
    have hp := HL2.out.parts
    have := concat_anyH (gps HSp) ag cg Wb hp.1 hp.2 (by rw [hGl2]; omega) (by rw [← hC, HCL.out]; omega)
    rw [hGl2, ← hC, HCL.out] at this
    exact this)
  have HHl := hideH hHl
  clear hsp hGl2 hHl hC hlt hj
  go_wp2_with (go_at_call 4; refine StpH.go ?_)
  refine ⟨?_⟩
  refine CC.out.mono ?_
  clear CC
  rintro e W11 ⟨rfl, hc11, k11⟩
  have hgcl : Wb.heap.size < W11.heap.size := (hc11.lt _ rfl).2
  have h7b : W7.heap.size ≤ Wb.heap.size := HK2.out.size
  have HRc := hideH (Lib.of_own hc11)
  have cvc : (convert 23 9 (.slice (some ⟨Wb.heap.size, 0, none⟩) LA LA)).run Try.prog W11 = .ok (.string S2) W11 := by rw [HS2.out]; exact conv_atH HRc.out
  have HRa11 := hideH ((HRa7.out.kept HK2.out (fun k e f => by have e2 : Wa.heap.size = k := Option.some.inj e; omega)).later k11)
  have HRb11 := hideH ((HRb7.out.kept HK2.out (fun k e f => by have e2 : W6.heap.size = k := Option.some.inj e; omega)).later k11)
  have HL11 := hideH (HL2.out.later k11)
  have HKw11 : Hid (Kept (fun _ => False) w W11) := hideH ((HKw7.out.trans HK2.out (fun k e => .inr (by
    apply Classical.byContradiction
    intro hlt
    have := HOL.out k (by omega)
    omega))).trans k11 (fun _ f => f.elim))
  obtain ⟨W12, hW12⟩ : ∃ W12, W12 = W11.alloc (.cells #[.slice none 0 0, .slice none 0 0, .slice none 0 0] 34) := ⟨_, rfl⟩
  have k12 : Kept (fun _ => False) W11 W12 := by rw [hW12]; exact Kept.alloc _ _
  have o12 : W12.heap[W11.heap.size]? = some (.cells #[.slice none 0 0, .slice none 0 0, .slice none 0 0] 34 (0, 0)) := by rw [hW12]; exact heap_alloc_new W11 _
  have s12 : W12.heap.size = W11.heap.size + 1 := by rw [hW12]; simp
  have HB12 : Hid (Bok W12.heap.size W12 W11.heap.size (.slice none 0 0) []) := hideH ⟨o12, ⟨rfl, .inl ⟨rfl, rfl⟩⟩, fun e => by cases e⟩
  have HK12 := hideH k12
  have HW12 := hideH hW12
  have HS12 := hideH s12
  clear HS2 HK2 HL2 hc11 k11 HRa7 HRb7 HKw7 k12 o12 hW12 s12
  go_wp2_with (go_at_call 9; refine StpH.go ?_)
  refine ⟨?_⟩
  rw [← HW12.out]
  refine (book_bytes W12.heap.size W11.heap.size 0 (.slice none 0 0) [] (some ⟨Wa.heap.size, 0, none⟩) LA LA W12 HB12.out rfl (by omega) (Nat.le_refl _)).mono ?_
  rintro e W13 ⟨rfl, vB1, hB13, k13, n13⟩
  have HK13 : Hid (Kept (fun _ => False) W11 W13) := hideH (HK12.out.trans k13 (fun k e => .inr (by rcases e with e | e; omega; cases e)))
  have HB13 := hideH hB13
  have h13 : W12.heap.size ≤ W13.heap.size := k13.size
  clear hB13 k13 n13 HB12 HW12 HK12 cvc
  rw [List.nil_append] at HB13
  go_wp2_with (go_at_call 9; refine StpH.go ?_)
  refine ⟨?_⟩
  refine (book_bytes W12.heap.size W11.heap.size 1 vB1 _ (some ⟨W6.heap.size, 0, none⟩) LA LA W13 HB13.out rfl (by omega) h13).mono ?_
  rintro e W14 ⟨rfl, vB2, hB14, k14, n14⟩
  have HK14 : Hid (Kept (fun _ => False) W11 W14) := hideH (HK13.out.trans k14 (fun k e => .inr (by
    have hs := HS12.out
    rcases e with e | e
    · omega
    · have := (HB13.out.row.lt k e).1; omega)))
  have HB14 := hideH hB14
  have h14 : W12.heap.size ≤ W14.heap.size := Nat.le_trans h13 k14.size
  clear hB14 k14 n14 HB13 HK13 h13
  go_wp2_with (go_at_call 9; refine StpH.go ?_)
  refine ⟨?_⟩
  refine (book_bytes W12.heap.size W11.heap.size 2 vB2 _ (some ⟨Wb.heap.size, 0, none⟩) LA LA W14 HB14.out rfl (by omega) h14).mono ?_
  rintro e W15 ⟨rfl, vB3, hB15, k15, n15⟩
  have HK15 : Hid (Kept (fun _ => False) W11 W15) := hideH (HK14.out.trans k15 (fun k e => .inr (by
    have hs := HS12.out
    rcases e with e | e
    · omega
    · have := (HB14.out.row.lt k e).1; omega)))
  obtain ⟨V3, hV3⟩ : ∃ V3 : List Value, V3 = [.slice (some ⟨Wa.heap.size, 0, none⟩) LA LA, .slice (some ⟨W6.heap.size, 0, none⟩) LA LA, .slice (some ⟨Wb.heap.size, 0, none⟩) LA LA] := ⟨_, rfl⟩
  have HB15 : Hid (Bok W12.heap.size W15 W11.heap.size vB3 V3) := hideH (by rw [hV3]; exact hB15)
  have HV3 := hideH hV3
  have hV3l : V3.length = 3 := by rw [hV3]; rfl
  have HV3l := hideH hV3l
  have h15 : W12.heap.size ≤ W15.heap.size := Nat.le_trans h14 k15.size
  clear hB15 k15 n15 HB14 HK14 h14 hV3 hV3l
  go_wp2_with fail
  go_loopw [104] (fun s104 wr => ∃ (t : Nat) (vB : Value), t ≤ j ∧ s104 = .int .i64 t ∧ Hid (Bok W12.heap.size wr W11.heap.size vB (V3 ++ (HSp.take t).map HR.cut)) ∧ Hid (Kept (fun _ => False) W11 wr) ∧ W12.heap.size ≤ wr.heap.size) (fun s104 _ => j - (intOf s104).toNat)
  case atStart => exact ⟨0, vB3, by omega, rfl, hideH (by simpa using HB15.out), HK15, h15⟩
  case round =>
  obtain ⟨t, vB, ht, rfl, HBt, HKt, hszt⟩ := hrel
  obtain ⟨Wc, hWc⟩ : ∃ Wc, Wc = wr := ⟨_, rfl⟩
  rw [← hWc] at HBt HKt hszt ⊢
  clear hWc HB15 HK15 h15
  by_cases hlt : t < j
  · have htS : t < HSp.length := by rw [HHl.out]; exact hlt
    have hlw := HL11.out.later HKt.out
    have hrow := hlw.rg
    rw [HHl.out] at hrow
    obtain ⟨gg, rfl, x0⟩ := row_cell hrow (j := t) (u := HSp[t].gv) (by rw [List.getElem?_map, List.getElem?_eq_getElem htS]; rfl)
    have hcap := Hd.cap (hlw.hd t htS)
    have htk : (HSp.take (t + 1)).map HR.cut = (HSp.take t).map HR.cut ++ [HSp[t].cut] := by rw [List.take_succ_eq_append_getElem htS, List.map_append]; rfl
    have hlen : (V3 ++ (HSp.take t).map HR.cut).length = t + 3 := by rw [List.length_append, HV3l.out, List.length_map, List.length_take, HHl.out]; omega
    obtain ⟨r, hr⟩ : ∃ r, r = HSp[t] := ⟨_, rfl⟩
    rw [← hr] at x0 hcap htk
    have x1 : Wc.cell? ⟨gg, t, none⟩ = some (.slice (some ⟨r.f, 0, none⟩) r.n r.cf) := x0
    have HTK := hideH htk
    have HLen2 := hideH hlen
    have t1 : (t : Int) < (j : Int) := by omega
    have t2 : (r.n : Int) ≤ (r.cf : Int) := by omega
    have t3 : r.n ≤ r.cf := by omega
    clear x0 hlw hrow hcap htk hlen hr
    go_wp2_with (go_at_call 9; refine StpH.go ?_)
    refine ⟨?_⟩
    refine (book_bytes W12.heap.size W11.heap.size (t + 3) vB _ (some ⟨r.f, 0, none⟩) r.n r.n Wc HBt.out HLen2.out.symm (by omega) hszt).mono ?_
    rintro e Wd ⟨rfl, vB', hBd, kd, nd⟩
    have HBd : Hid (Bok W12.heap.size Wd W11.heap.size vB' (V3 ++ (HSp.take (t + 1)).map HR.cut)) := hideH (by rw [HTK.out, ← List.append_assoc]; exact hBd)
    have HKd : Hid (Kept (fun _ => False) W11 Wd) := hideH (HKt.out.trans kd (fun k e => .inr (by
      have hs := HS12.out
      rcases e with e | e
      · omega
      · have := (HBt.out.row.lt k e).1; omega)))
    have hszd : W12.heap.size ≤ Wd.heap.size := Nat.le_trans hszt kd.size
    clear hBd kd nd HBt HKt
    go_wp2_with fail
    go_roundw
    case rel => exact ⟨t + 1, vB', by omega, by go_num, HBd, HKd, hszd⟩
    case measure => simp [intOf]; omega
  obtain rfl : t = j := by omega
  have t1 : ¬ (t : Int) < (t : Int) := by omega
  rw [List.take_of_length_le (Nat.le_of_eq HHl.out)] at HBt
  obtain ⟨bB, cB, eB⟩ := row_shapeH HBt.out.row
  have hVl : (V3 ++ HSp.map HR.cut).length = t + 3 := by rw [List.length_append, HV3l.out, List.length_map, HHl.out]; omega
  rw [hVl] at eB
  subst eB
  have hlw := HL11.out.later HKt.out
  have hbk := bkv_all (M := t + 3) (s0 := Wa.heap.size) hlw (HRa11.out.later HKt.out) (HRb11.out.later HKt.out) (HRc.out.later HKt.out) (fun q hq => by
    have hqH : q < H.length := by rw [← HIH.out, ← HHl.out]; exact hq
    have := (HLt.out q hqH).1
    have e : HSp[q].f = H[q].f := by
      have e1 : HSp[q]? = some H[q].sp := by rw [HHS.out, List.getElem?_map, List.getElem?_eq_getElem hqH]; rfl
      rw [(List.getElem?_eq_some_iff.1 e1).2]
      rfl
    omega) ⟨Nat.le_refl _, by omega, by omega⟩ ⟨by omega, by omega, by omega⟩
  have hVe : V3 ++ HSp.map HR.cut = .slice (some ⟨Wa.heap.size, 0, none⟩) LA LA :: .slice (some ⟨W6.heap.size, 0, none⟩) LA LA :: .slice (some ⟨Wb.heap.size, 0, none⟩) LA LA :: HSp.map HR.cut := by rw [HV3.out]; rfl
  rw [← hVe] at hbk
  have c0 : Wc.cell? ⟨W11.heap.size, 0, none⟩ = some (.slice bB (t + 3) cB) := by rw [cell_of_row _ _ _ _ _ _ HBt.out.obj]; rfl
  have c1 : Wc.cell? ⟨W11.heap.size, 1, none⟩ = some (.slice none 0 0) := by rw [cell_of_row _ _ _ _ _ _ HBt.out.obj]; rfl
  have c2 : Wc.cell? ⟨W11.heap.size, 2, none⟩ = some (.slice none 0 0) := by rw [cell_of_row _ _ _ _ _ _ HBt.out.obj]; rfl
  have hown : ∀ k, W11.heap.size ≤ k → (if k = Wa.heap.size then 0 else if k = W6.heap.size then 1 else if k = Wb.heap.size then 2 else if k < Wa.heap.size then o k + 3 else t + 3) = t + 3 := fun k hk => by
    rw [if_neg (by omega), if_neg (by omega), if_neg (by omega), if_neg (by omega)]
  have CU := hideH (unshared_bytes bm BM.out W11.heap.size bB (t + 3) cB _ _ _ Wc c0 c1 c2 (vat_row HBt.out.row) hVl.symm hbk (Nat.le_of_eq (hown _ (Nat.le_refl _)).symm) (fun p e => by
    have hge : W12.heap.size ≤ p.block := (HBt.out.row.lt p.block (by rw [e]; rfl)).1
    have hs := HS12.out
    exact Nat.le_of_eq (hown _ (by omega)).symm) (by omega) (fun q hq => ?hL))
  case hL =>
    show (if q = 0 then A else if q = 1 then A else if q = 2 then C else ((HSp[q - 3]?).map (fun r => r.l.take r.n)).getD []).length ≤ 35184372088832
    have hAl := HLA.out
    have hCl := HCL.out
    split
    · omega
    · split
      · omega
      · split
        · omega
        · cases hq : HSp[q - 3]? with
          | none => exact Nat.zero_le _
          | some r =>
            show (r.l.take r.n).length ≤ _
            have hm : r ∈ HSp := List.mem_of_getElem? hq
            rw [HHS.out] at hm
            obtain ⟨x, hx, rfl⟩ := List.mem_map.1 hm
            have := HM.out x hx
            rw [List.length_take]
            have e : x.sp.n = x.n := rfl
            omega
  have HKf : Hid (∀ W, Kept (fun k => (if k = Wa.heap.size then 0 else if k = W6.heap.size then 1 else if k = Wb.heap.size then 2 else if k < Wa.heap.size then o k + 3 else t + 3) < t + 3) Wc W → Kept (fun _ => False) w W) := hideH (fun W k => (HKw11.out.trans HKt.out (fun _ f => f.elim)).trans k (fun q hq => .inr (by
    apply Classical.byContradiction
    intro hlt
    have h1 := HOL.out q (by omega)
    have h2 : (if q = Wa.heap.size then 0 else if q = W6.heap.size then 1 else if q = Wb.heap.size then 2 else if q < Wa.heap.size then o q + 3 else t + 3) < t + 3 := hq
    rw [if_neg (by omega), if_neg (by omega), if_neg (by omega), if_pos (by omega)] at h2
    omega)))
  clear c1 c2 hown hbk hlw hVe hVl c0 HBt HKt
  go_wp2_with (go_at_call 10; refine CU.out.mono ?_; clear CU; rintro e Wz ⟨rfl, kz⟩; have HKz := hideH (HKf.out Wz kz); clear kz)
  go_ret
  exact ⟨rfl, HKz.out⟩
end Go.Proofs.Ytpopfgablgnalaa
