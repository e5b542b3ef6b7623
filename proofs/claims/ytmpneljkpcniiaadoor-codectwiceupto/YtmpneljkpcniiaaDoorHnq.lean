import Derived.Test.YtmpneljkpcniiaaDoorHnr
import Derived.Test.YtmpneljkpcniiaaDoorLive
namespace Go.Proofs.YtmpneljkpcniiaaDoor
open Go.ChangeShapes Go.WideShapes Go.ChangeAt Go.RowKit

theorem take_nextQ {L : List Int} {k : Nat} (h : k < L.length) : L.take (k + 1) = L.take k ++ [L[k]?.getD 0] := by
  rw [List.take_add_one, List.getElem?_eq_getElem h, Option.toList_some, Option.getD_some]
theorem BytesAt.laterQ {w w' : World} {a : Option Addr} {l : List Int} (h : BytesAt w a l) (k : Kept (fun _ => False) w w') : BytesAt w' a l := by
  intro hne
  obtain ⟨b, off, e, hc⟩ := h hne
  exact ⟨b, off, e, fun j hj => k.cell (hc j hj) (fun f => f)⟩
/-- The Writer and the sorted list, while the law writes: the list lies below z, the Writer above it. -/
structure Tz (w : World) (z : Nat) (W : World) (bw : Nat) (v : Value) (D : List Int) (vs : Value) (s : List Int) : Prop where
  wr : Wr W bw v D
  wz : ∀ k, WF bw v k → z ≤ k
  so : LibI W vs s
  sz : ∀ k, vs.ownBlock = some k → w.heap.size ≤ k ∧ k < z
  kp : Kept (fun _ => False) w W
  zl : w.heap.size ≤ z
  zW : z ≤ W.heap.size
theorem Tz.later {w : World} {z : Nat} {W W' : World} {bw : Nat} {v : Value} {D : List Int} {vs : Value} {s : List Int} (h : Tz w z W bw v D vs s) (k : Kept (fun _ => False) W W') : Tz w z W' bw v D vs s :=
  ⟨h.wr.kept k (fun _ _ f => f), h.wz, h.so.later k, h.sz, h.kp.trans k (fun _ f => f.elim), h.zl, Nat.le_trans h.zW k.size⟩
theorem Tz.write {w : World} {z : Nat} {W W' : World} {bw : Nat} {v v' : Value} {D D' : List Int} {vs : Value} {s : List Int} (h : Tz w z W bw v D vs s) (st : WStep W W' bw v v') (h' : Wr W' bw v' D') : Tz w z W' bw v' D' vs s :=
  ⟨h', fun k hk => by
    rcases hk with e | e
    · exact h.wz k (.inl e)
    · rcases st.new k e with q | q
      · exact h.wz k (.inr q)
      · exact Nat.le_trans h.zW q, h.so.kept st.kept (fun i hi f => by have h1 := (h.sz i hi).2; have h2 := h.wz i f; omega), h.sz, h.kp.trans st.kept (fun i f => .inr (Nat.le_trans h.zl (h.wz i f))), h.zl, Nat.le_trans h.zW st.kept.size⟩
theorem Tz.put {w : World} {z : Nat} {W W' : World} {bw : Nat} {v : Value} {D : List Int} {vs v' : Value} {s : List Int} (h : Tz w z W bw v D vs s) (st : LStepI W W' vs v' s.length) : Tz w z W' bw v D vs s ∧ ∀ k, v'.ownBlock = some k → ¬ WF bw v k :=
  ⟨⟨h.wr.kept st.kept (fun i hi f => by have h1 := (h.sz i f).2; have h2 := h.wz i hi; omega), h.wz, st.pre _ _ (fun _ => Nat.le_refl _) h.so, h.sz, h.kp.trans st.kept (fun i f => .inr (h.sz i f).1), h.zl, Nat.le_trans h.zW st.kept.size⟩, fun k e f => by
    rcases st.new k e with q | q
    · have h1 := (h.sz k q).2; have h2 := h.wz k f; omega
    · have h1 := h.wr.wf_lt f; omega⟩
set_option maxRecDepth 20000 in
set_option maxHeartbeats 16000000 in
/-- The law CodecTwice. -/
theorem twice_walk (bm im : Nat → Nat → Int) (hbm : BmI bm) (him : BmII im) (L : List Int) (la : Option Addr) (lc : Nat) (R : List Int) (ra : Option Addr) (rc : Nat) (a0 a1 a2 a3 a7 : Addr) (w : World) (hL : IntsAt w la L) (hI : IsInts L) (hLl : L.length ≤ 1048576) (hR : BytesAt w ra R) (hRB : IsBytes R) (hRl : R.length ≤ 1048576) (hrz : ra = none → rc = 0)
    (g0 : w.cell? ⟨3, 0, none⟩ = some (errV a0)) (g1 : w.cell? ⟨4, 0, none⟩ = some (errV a1)) (g2 : w.cell? ⟨2, 0, none⟩ = some (errV a2)) (g3 : w.cell? ⟨1, 0, none⟩ = some (errV a3)) (g7 : w.cell? ⟨0, 0, none⟩ = some (errV a7)) :
    Calls Tryd.prog 3 #[.slice la L.length lc, .slice ra R.length rc] w fun e w' => e = .returned (.bool true) ∧ Kept (fun _ => False) w w' := by
  have hE : ∀ W, Kept (fun _ => False) w W → W.cell? ⟨3, 0, none⟩ = some (errV a0) ∧ W.cell? ⟨4, 0, none⟩ = some (errV a1) ∧ W.cell? ⟨2, 0, none⟩ = some (errV a2) ∧ W.cell? ⟨1, 0, none⟩ = some (errV a3) ∧ W.cell? ⟨0, 0, none⟩ = some (errV a7) := fun W k => ⟨k.cell g0 (fun f => f), k.cell g1 (fun f => f), k.cell g2 (fun f => f), k.cell g3 (fun f => f), k.cell g7 (fun f => f)⟩
  have LV := hideH (lives_any a0 a1 w g0 g1)
  have BM := hideH hbm
  have IM := hideH him
  have HL := hideH hL
  have HI := hideH hI
  have HRa := hideH hR
  have HRB := hideH hRB
  have HRZ := hideH hrz
  have HE := hideH hE
  obtain ⟨N, hN⟩ : ∃ N, N = L.length := ⟨_, rfl⟩
  obtain ⟨M, hM⟩ : ∃ M, M = R.length := ⟨_, rfl⟩
  rw [← hN] at hLl ⊢
  rw [← hM] at hRl ⊢
  have HN := hideH hN
  have HM := hideH hM
  clear hbm him hL hI hR hRB hrz hE g0 g1 g2 g3 g7 hN hM
  go_enter Tryd.func3, Tryd.ntmps3
  go_wp2_with (go_at_call 4; refine StpH.go ?_)
  refine ⟨?_⟩
  refine LV.out.mono ?_
  clear LV
  rintro e W1 ⟨rfl, k1⟩
  have HK1 : Hid (Kept (fun _ => False) w (W1.alloc (.cells #[] 3))) := hideH (k1.trans (Kept.alloc _ _) (fun _ f => f.elim))
  have HL1 : Hid (LibI (W1.alloc (.cells #[] 3)) (.slice (some ⟨W1.heap.size, 0, none⟩) 0 0) []) := hideH (LibI.of_own (base := 0) (n := 0) ⟨rfl, .inr ⟨W1.heap.size, 0, #[], rfl, Nat.zero_le _, heap_alloc_new W1 _, Nat.le_refl _, Nat.zero_le _, rfl, rfl⟩⟩)
  have HS1 := hideH k1.size
  clear k1
  go_wp2_with fail
  go_loopw [6, 7, 31] (fun s6 s7 s31 wr => ∃ (i : Nat) (v : Value) (m : Int), i ≤ N ∧ v = s6 ∧ s7 = .int .i64 m ∧ s31 = .int .i64 i ∧ Hid (m = (srt (L.take i)).2) ∧ Hid (LibI wr v (srt (L.take i)).1) ∧ Hid (∀ k, v.ownBlock = some k → w.heap.size ≤ k) ∧ Hid (Kept (fun _ => False) w wr)) (fun _ _ s31 _ => N - (intOf s31).toNat)
  case atStart => exact ⟨0, _, -1, Nat.zero_le _, rfl, rfl, rfl, hideH rfl, HL1, hideH (fun k e => by have q : W1.heap.size = k := Option.some.inj e; have := HS1.out; omega), HK1⟩
  case round =>
  obtain ⟨i, v, m, hi, rfl, rfl, rfl, HMx, HLb, HOw, HK⟩ := hrel
  clear HK1 HL1 HS1
  by_cases hlt : i < N
  · have hiL : i < L.length := by rw [← HN.out]; exact hlt
    obtain ⟨b1, o1, rfl, hc1⟩ := HL.out (by intro e; rw [e] at hiL; simp at hiL)
    have x1 := HK.out.cell (hc1 i hiL) (fun f => f)
    have hxI := HI.out (L[i]?.getD 0) (by rw [List.getElem?_eq_getElem hiL, Option.getD_some]; exact List.getElem_mem hiL)
    have hst := srt_snoc (L.take i) (L[i]?.getD 0)
    rw [← take_nextQ hiL, ← HMx.out] at hst
    have hln := (srt_ok (L.take i) (fun y hy => HI.out y (List.mem_of_mem_take hy))).ln
    rw [List.length_take] at hln
    generalize L[i]?.getD 0 = x at x1 hst hxI
    obtain ⟨n, hn⟩ : ∃ n, n = (srt (L.take i)).1.length := ⟨_, rfl⟩
    rw [← hn] at hln
    have hnb : n ≤ 1048576 := by omega
    have HNn := hideH hn
    have i1 : (i : Int) < (N : Int) := by omega
    clear hc1 hln hn
    by_cases hgt : m < x
    · rw [if_pos hgt] at hst
      have HST := hideH hst
      clear hst
      obtain ⟨av, cv, ev, -, -⟩ := HLb.out.shape
      rw [← HNn.out] at ev
      have HLc := hideH (HLb.out.later (Kept.alloc wr (.cells #[.int .i64 x] 3)))
      have HC1 : Hid (∀ j u, (isH [x])[j]? = some u → (wr.alloc (.cells #[.int .i64 x] 3)).cell? ((⟨wr.heap.size, 0, none⟩ : Addr).add j) = some u) := hideH (one_new wr (.int .i64 x) 3)
      have HKA := hideH (Kept.alloc wr (.cells #[.int .i64 x] 3))
      go_wp2_with (at_builtin; refine StpH.go ?_)
      refine ⟨?_⟩
      refine wpList_libI rfl _ _ rfl v (srt (L.take i)).1 [x] rfl HLc wr.heap.size 1 1 rfl (hideH rfl) HC1 n HNn (by decide) (by omega) ?_
      intro a' c' W' HLd HSt
      have HK' : Hid (Kept (fun _ => False) w W') := hideH (((HK.out.trans HKA.out (fun _ f => f.elim)).trans HSt.out.kept (fun k e => .inr (HOw.out k e))))
      have HOw' : Hid (∀ k, (Value.slice a' (n + 1) c').ownBlock = some k → w.heap.size ≤ k) := hideH (fun k e => by
        rcases HSt.out.new k e with q | q
        · exact HOw.out k q
        · have := HK.out.size
          have := HKA.out.size
          omega)
      clear HLb HLc HC1 HKA HSt HOw HK
      go_wp2_with fail
      go_roundw
      case rel =>
        refine ⟨i + 1, _, x, by omega, rfl, rfl, by go_num, hideH (by rw [HST.out]), ?_, HOw', HK'⟩
        rw [HST.out]
        exact HLd
      case measure => simp [intOf]; omega
    · rw [if_neg hgt] at hst
      have HST := hideH hst
      clear hst
      go_wp2_with fail
      go_roundw
      case rel =>
        refine ⟨i + 1, v, m, by omega, rfl, rfl, by go_num, hideH (by rw [HST.out]; exact HMx.out), ?_, HOw, HK⟩
        rw [HST.out]
        exact HLb
      case measure => simp [intOf]; omega
  · obtain rfl : i = N := by omega
    have hS := srt_ok L HI.out
    have eL : L.take i = L := by rw [HN.out]; exact List.take_length
    rw [eL] at HMx HLb
    obtain ⟨s, hs⟩ : ∃ s, s = (srt L).1 := ⟨_, rfl⟩
    have hsr := hS.rs
    have hsn := hS.ln
    rw [← hs] at HLb hsr hsn
    rw [← HN.out] at hsn
    have HSR := hideH hsr
    obtain ⟨n, hn⟩ : ∃ n, n = s.length := ⟨_, rfl⟩
    rw [← hn] at hsn
    have HNs := hideH hn
    obtain ⟨av, cv, ev, -, -⟩ := HLb.out.shape
    rw [← hn] at ev
    subst ev
    have i1 : ¬ (i : Int) < (i : Int) := by omega
    clear hS eL HMx hs hsr hn HN
    go_wp2_with (go_at_call 5; refine StpH.go ?_)
    refine ⟨?_⟩
    have NW : Calls Tryd.prog 5 #[] wr fun e W' => ∃ bw, e = .returned (.pointer (some ⟨bw, 0, none⟩)) ∧ Tz w wr.heap.size W' bw (.slice none 0 0) [] (.slice av n cv) s := by
      refine (new_any wr).mono ?_
      rintro e W' ⟨rfl, h1, h2⟩
      exact ⟨_, rfl, h1, fun k hk => hk.elim (fun e => by omega) (fun e => by cases e), HLb.out.later h2, fun k e => ⟨HOw.out k e, HLb.out.lt e⟩, HK.out.trans h2 (fun _ f => f.elim), HK.out.size, h2.size⟩
    refine NW.mono ?_
    rintro e W2 ⟨bw, rfl, tz⟩
    obtain ⟨z, hz⟩ : ∃ z, z = wr.heap.size := ⟨_, rfl⟩
    rw [← hz] at tz
    clear NW hz HLb HOw HK
    have hsi := HSR.out.ii
    have hs0 := HSR.out.nn
    have e5 : (s ++ [5]).length = n + 1 := by rw [List.length_append, List.length_singleton, HNs.out]
    have far1 := tz.so.far (bw := bw) (u := .slice none 0 0) (fun k e f => by have h1 := (tz.sz k e).2; have h2 := tz.wz k f; omega)
    obtain ⟨af, cf, ef, hfar⟩ := far1
    rw [← HNs.out] at ef
    simp only [Value.slice.injEq] at ef
    obtain ⟨rfl, -, rfl⟩ := ef
    have C1 := hideH (rising_any bw (.slice none 0 0) [] s av cv W2 tz.wr hfar hs0 hsi HSR.out.rb (by rw [← HNs.out]; omega) (by rw [← HNs.out]; simp only [List.length_nil]; omega))
    rw [← HNs.out, List.nil_append] at C1
    have HT := hideH tz
    have HE5 := hideH e5
    have HSI := hideH hsi
    have HS0 := hideH hs0
    clear tz hfar hsi hs0 e5
    go_wp2_with (go_at_call 6; refine StpH.go ?_)
    refine ⟨?_⟩
    refine C1.out.mono ?_
    clear C1
    rintro e W3 ⟨rfl, v1, hw3, st3⟩
    have tz3 := (HT.out.write st3 hw3).later (Kept.alloc W3 (.cells #[.int .i64 5] 3))
    have HT3 := hideH tz3
    have HLi := hideH tz3.so
    have HC1 := hideH (one_cellI W3 5)
    clear tz3 st3 hw3 HT
    go_wp2_with (at_builtin; refine StpH.go ?_)
    refine ⟨?_⟩
    refine wpList_unguard rfl ?_
    refine wpList_libI rfl _ _ rfl (.slice av n cv) s [5] rfl HLi W3.heap.size 1 1 rfl (hideH rfl) HC1 n HNs (by decide) (by omega) ?_
    intro a3 c3 W4 HL4 HS4
    obtain ⟨tz4, hd4⟩ := HT3.out.put (by rw [← HNs.out]; exact HS4.out)
    obtain ⟨ap, cp, ep, hfar⟩ := HL4.out.far (bw := bw) (u := v1) hd4
    rw [HE5.out] at ep
    simp only [Value.slice.injEq] at ep
    obtain ⟨rfl, -, rfl⟩ := ep
    have hup : (rising s).length ≤ 10 * (n + 1) := by have q := rising_le HSR.out; rw [← HNs.out] at q; omega
    have HUP := hideH hup
    have C2 := hideH (packed_any bw v1 (rising s) (s ++ [5]) a3 c3 W4 tz4.wr hfar (fun y hy => (List.mem_append.1 hy).elim (HS0.out y) (fun q => by simp only [List.mem_singleton] at q; omega)) (fun y hy => (List.mem_append.1 hy).elim (HSI.out y) (fun q => by simp only [List.mem_singleton] at q; omega)) (.inl (orl_more s 5 (by decide)).2) (by rw [HE5.out]; omega) (by rw [HE5.out]; omega))
    rw [HE5.out] at C2
    have HT4 := hideH tz4
    clear tz4 hd4 hfar HT3 HLi HC1 HL4 HS4 hup
    go_wp2_with (go_at_call 7; refine StpH.go ?_)
    refine ⟨?_⟩
    refine C2.out.mono ?_
    clear C2
    rintro e W5 ⟨rfl, v2, hw5, st5⟩
    have tz5 := HT4.out.write st5 hw5
    have hml : R.length ≤ 1048576 := by rw [← HM.out]; exact hRl
    have htw := twd_le HSR.out (x := 5) (by decide) (by decide) (R := R) (by rw [← HNs.out]; omega) hml
    have etw : (rising s ++ packed (s ++ [5])) ++ R = twd s 5 R := List.append_assoc _ _ _
    have hln : (rising s ++ packed (s ++ [5])).length + R.length ≤ 33554432 := by rw [← List.length_append, etw]; exact htw
    have C3 := hideH (raw_any bw v2 _ R ra rc W5 tz5.wr (HRa.out.laterQ tz5.kp) HRZ.out (by omega))
    rw [← HM.out, etw] at C3
    have HT5 := hideH tz5
    have HTW := hideH htw
    clear st5 hw5 HT4 tz5 hml htw etw hln
    go_wp2_with (go_at_call 8; refine StpH.go ?_)
    refine ⟨?_⟩
    refine C3.out.mono ?_
    clear C3
    rintro e W6 ⟨rfl, v3, hw6, st6⟩
    have tz6 := HT5.out.write st6 hw6
    have kb6 := Kept.alloc W6 (.cells #[.slice none 0 0, .slice none 0 0, .slice none 0 0] 36)
    have ks6 := Kept.alloc (W6.alloc (.cells #[.slice none 0 0, .slice none 0 0, .slice none 0 0] 36)) (.cells #[] 9)
    have tz8 := (tz6.later kb6).later ks6
    have b8 := (Bk2.start W6).kept ks6 (fun f => f) (fun _ _ f => f) (fun _ _ f => f)
    have s7 : (W6.alloc (.cells #[.slice none 0 0, .slice none 0 0, .slice none 0 0] 36)).heap.size = W6.heap.size + 1 := by simp
    have z6 := tz6.zW
    have T0 : ∃ o : Nat → Nat, Tw w.heap.size bw v3 (twd s 5 R) W6.heap.size (.slice av n cv) s (strOfNums (twd s 5 R)) (W6.heap.size + 1) ((W6.alloc (.cells #[.slice none 0 0, .slice none 0 0, .slice none 0 0] 36)).alloc (.cells #[] 9)) o 0 (.slice (some ⟨W6.heap.size + 1, 0, none⟩) 0 0) (.slice none 0 0) (.slice none 0 0) [] [] (fun _ => []) (fun _ => []) := by
      refine ⟨fun q => if q < w.heap.size then 7 else if q < z then 1 else if q < W6.heap.size then 0 else if q = W6.heap.size then 3 else 2, ?_⟩
      exact { wr := tz8.wr
              ow := fun k hk => by
                have h1 := tz6.wz k hk
                have h2 := tz6.wr.wf_lt hk
                have h3 := tz6.zl
                show (if k < w.heap.size then 7 else if k < z then 1 else if k < W6.heap.size then 0 else if k = W6.heap.size then 3 else 2) = 0
                rw [if_neg (by omega), if_neg (by omega), if_pos h2]
              so := tz8.so
              os := fun k hk => by
                have h1 := tz6.sz k hk
                show (if k < w.heap.size then 7 else if k < z then 1 else if k < W6.heap.size then 0 else if k = W6.heap.size then 3 else 2) = 1
                rw [if_neg (by omega), if_pos h1.2]
              wh := by
                have q := heap_alloc_new (W6.alloc (.cells #[.slice none 0 0, .slice none 0 0, .slice none 0 0] 36)) (.cells #[] 9)
                rw [s7] at q
                exact ⟨rfl, .inr ⟨W6.heap.size + 1, 0, #[], rfl, Nat.le_refl _, q, Nat.le_refl _, Nat.zero_le _, rfl, rfl⟩⟩
              oh := fun k hk => by
                have q : W6.heap.size + 1 = k := Option.some.inj hk
                have h3 := tz6.zl
                show (if k < w.heap.size then 7 else if k < z then 1 else if k < W6.heap.size then 0 else if k = W6.heap.size then 3 else 2) = 2
                rw [if_neg (by omega), if_neg (by omega), if_neg (by omega), if_neg (by omega)]
              bk := b8
              ok := by
                have h3 := tz6.zl
                show (if W6.heap.size < w.heap.size then 7 else if W6.heap.size < z then 1 else if W6.heap.size < W6.heap.size then 0 else if W6.heap.size = W6.heap.size then 3 else 2) = 3
                rw [if_neg (by omega), if_neg (by omega), if_neg (by omega), if_pos rfl]
              oB := fun k hk => by cases hk
              oI := fun k hk => by cases hk
              bl := fun t ht => absurd ht (Nat.not_lt_zero _)
              bo := fun t ht => absurd ht (Nat.not_lt_zero _)
              il := fun t ht => absurd ht (Nat.not_lt_zero _)
              io := fun t ht => absurd ht (Nat.not_lt_zero _)
              lo := fun k hk => if_pos hk
              sz := tz8.kp.size }
    have HT0 := hideH T0
    have HK8 := hideH tz8.kp
    clear T0 tz6 tz8 kb6 ks6 b8 s7 z6 hw6 st6 HT5
    go_wp2_with fail
    obtain ⟨o0, T0⟩ := HT0.out
    have HTn : Hid (Tn w bw v3 (twd s 5 R) W6.heap.size (.slice av n cv) s (strOfNums (twd s 5 R)) (W6.heap.size + 1) ((W6.alloc (.cells #[.slice none 0 0, .slice none 0 0, .slice none 0 0] 36)).alloc (.cells #[] 9)) o0 0 (.slice (some ⟨W6.heap.size + 1, 0, none⟩) 0 0) 0 0) := hideH ⟨⟨_, _, _, _, _, _, T0, rfl, rfl, fun t ht => absurd ht (Nat.not_lt_zero _), fun t ht => absurd ht (Nat.not_lt_zero _)⟩, HK8.out, by simp⟩
    have HDB := hideH (twd_bytes HSR.out (x := 5) (by decide) (by decide) HRB.out)
    clear T0 HT0 HK8
    generalize W6.heap.size = kb at HTn ⊢
    go_loopw [12, 13] (fun s12 s13 wr => ∃ (t : Nat) (o : Nat → Nat) (vW : Value), t ≤ 3 ∧ s12 = vW ∧ s13 = .int .i64 t ∧ Hid (Tn w bw v3 (twd s 5 R) kb (.slice av n cv) s (strOfNums (twd s 5 R)) (kb + 1) wr o t vW (3 * t) (4 * t))) (fun _ s13 _ => 3 - (intOf s13).toNat)
    case atStart => exact ⟨0, o0, _, by omega, rfl, rfl, HTn⟩
    case round =>
    obtain ⟨t, o, vW, ht, rfl, rfl, HT⟩ := hrel
    obtain ⟨Wa, hWa⟩ : ∃ Wa, Wa = wr := ⟨_, rfl⟩
    rw [← hWa] at HT ⊢
    clear hWa HTn
    obtain ⟨aW, cW, eW⟩ := row_shapeH HT.out.wr.2.2.2.2.1
    subst eW
    by_cases hlt : t < 3
    case neg =>
      obtain rfl : t = 3 := by omega
      have i1 : ¬ ((3 : Nat) : Int) < 3 := by omega
      have U := hideH (tn_unshared bm im BM.out IM.out HT.out (by omega) (by omega))
      go_wp2_with (go_at_call 17; refine StpH.go ?_)
      refine ⟨?_⟩
      refine U.out.mono ?_
      clear U
      rintro e Wz ⟨rfl, hwr, hso, hrow, kz⟩
      obtain ⟨gw, rfl⟩ : ∃ gw, aW = some ⟨gw, 0, none⟩ := by
        rcases hrow.2 with ⟨_, e2⟩ | ⟨g, cap, cur, e1, _⟩
        · omega
        · simp only [Value.slice.injEq] at e1
          exact ⟨g, e1.1⟩
      have c0 : Wz.cell? ⟨gw, 0, none⟩ = some (.string (strOfNums (twd s 5 R))) := hrow.cells (g := gw) rfl 0 _ rfl
      have c1 : Wz.cell? ⟨gw, 1, none⟩ = some (.string (strOfNums (twd s 5 R))) := hrow.cells (g := gw) rfl 1 _ rfl
      have c2 : Wz.cell? ⟨gw, 2, none⟩ = some (.string (strOfNums (twd s 5 R))) := hrow.cells (g := gw) rfl 2 _ rfl
      have CB : Hid (∀ W, Kept (fun _ => False) Wz W → Calls Tryd.prog 9 #[.pointer (some ⟨bw, 0, none⟩)] W fun e w' => e = .returned (.slice (some ⟨W.heap.size, 0, none⟩) (twd s 5 R).length (twd s 5 R).length) ∧ w'.ownsRow W.heap.size 5 1 (.slice (some ⟨W.heap.size, 0, none⟩) (twd s 5 R).length (twd s 5 R).length) (twd s 5 R).length (bs (twd s 5 R)) ∧ Kept (fun _ => False) W w') := hideH (fun W k => bytes_any bw v3 (twd s 5 R) W (hwr.kept k (fun _ _ f => f)) (by have := HTW.out; omega))
      have CS : Hid (∀ W, Kept (fun _ => False) Wz W → Calls Tryd.prog 18 #[.slice av n cv, .slice ra M rc] W fun e w' => e = .returned (.bool true) ∧ Kept (fun _ => False) W w') := hideH (fun W k => same_place s R av ra n M cv rc W HNs.out HM.out ((hso.ints).1.laterQ k) hso.ints.2.2.1 ((HRa.out.laterQ kz).laterQ k) HRZ.out HSR.out (by omega) (by omega))
      have HKz := hideH kz
      have hS : Kept (fun _ => False) Wz Wz.drew := Kept.drew Wz
      clear hwr hso hrow kz HT
      go_wp2_with fail
      refine wp_region_held (S := fun W' => Kept (fun _ => False) Wz W') (by kernel_rfl) ?_
      change wpAnyH _ _ _ _ _ _ _ _ (World.drew _)
      refine takeYH (i := 0) (d := 179) (v := .bool true) rfl rfl (by kernel_rfl) (by kernel_rfl) (by kernel_rfl) (fun _ _ _ h => h) (Or.inl ⟨by rfl, fun W hW => ?_⟩) hS ?_
      · (go_simp)
      simp only [Act.put, List.setIfInBounds_toArray, List.set_cons_zero, List.set_cons_succ]
      refine takeYH (i := 1) (d := 180) (v := .bool true) rfl rfl (by kernel_rfl) (by kernel_rfl) (by kernel_rfl) (fun _ _ _ h => h) (Or.inl ⟨by rfl, fun W hW => ?_⟩) hS ?_
      · (go_simp)
      simp only [Act.put, List.setIfInBounds_toArray, List.set_cons_zero, List.set_cons_succ]
      refine takeYH (i := 2) (d := 181) (v := .slice (some ⟨gw, 0, none⟩) 3 cW) rfl rfl (by kernel_rfl) (by kernel_rfl) (by kernel_rfl) (fun _ _ _ h => h) (Or.inl ⟨by rfl, fun W hW => ?_⟩) hS ?_
      · (go_simp)
      simp only [Act.put, List.setIfInBounds_toArray, List.set_cons_zero, List.set_cons_succ]
      refine takeYH (i := 3) (d := 182) (v := .pointer (some ⟨gw, 0, none⟩)) rfl rfl (by kernel_rfl) (by kernel_rfl) (by kernel_rfl) (fun _ _ _ h => h) (Or.inl ⟨by rfl, fun W hW => ?_⟩) hS ?_
      · (go_simp)
      simp only [Act.put, List.setIfInBounds_toArray, List.set_cons_zero, List.set_cons_succ]
      refine takeYH (i := 4) (d := 183) (v := .string (strOfNums (twd s 5 R))) rfl rfl (by kernel_rfl) (by kernel_rfl) (by kernel_rfl) (fun _ _ _ h => h) (Or.inl ⟨by rfl, fun W hW => ?_⟩) hS ?_
      · have x0 := Kept.cell (F := fun _ => False) (w := Wz) (w' := W) hW c0 (fun f => f)
        (go_simp)
      simp only [Act.put, List.setIfInBounds_toArray, List.set_cons_zero, List.set_cons_succ]
      refine takeYH (i := 5) (d := 184) (v := .slice (some ⟨gw, 0, none⟩) 3 cW) rfl rfl (by kernel_rfl) (by kernel_rfl) (by kernel_rfl) (fun _ _ _ h => h) (Or.inl ⟨by rfl, fun W hW => ?_⟩) hS ?_
      · (go_simp)
      simp only [Act.put, List.setIfInBounds_toArray, List.set_cons_zero, List.set_cons_succ]
      refine takeYH (i := 6) (d := 185) (v := .pointer (some ⟨gw, 1, none⟩)) rfl rfl (by kernel_rfl) (by kernel_rfl) (by kernel_rfl) (fun _ _ _ h => h) (Or.inl ⟨by rfl, fun W hW => ?_⟩) hS ?_
      · (go_simp)
      simp only [Act.put, List.setIfInBounds_toArray, List.set_cons_zero, List.set_cons_succ]
      refine takeYH (i := 7) (d := 186) (v := .string (strOfNums (twd s 5 R))) rfl rfl (by kernel_rfl) (by kernel_rfl) (by kernel_rfl) (fun _ _ _ h => h) (Or.inl ⟨by rfl, fun W hW => ?_⟩) hS ?_
      · have x0 := Kept.cell (F := fun _ => False) (w := Wz) (w' := W) hW c1 (fun f => f)
        (go_simp)
      simp only [Act.put, List.setIfInBounds_toArray, List.set_cons_zero, List.set_cons_succ]
      refine takeYH (i := 8) (d := 187) (v := .bool true) rfl rfl (by kernel_rfl) (by kernel_rfl) (by kernel_rfl) (fun _ _ _ h => h) (Or.inl ⟨by rfl, fun W hW => ?_⟩) hS ?_
      · (go_simp)
      simp only [Act.put, List.setIfInBounds_toArray, List.set_cons_zero, List.set_cons_succ]
      refine takeYH (i := 9) (d := 188) (v := .bool true) rfl rfl (by kernel_rfl) (by kernel_rfl) (by kernel_rfl) (fun _ _ _ h => h) (Or.inl ⟨by rfl, fun W hW => ?_⟩) hS ?_
      · (go_simp)
      simp only [Act.put, List.setIfInBounds_toArray, List.set_cons_zero, List.set_cons_succ]
      refine takeYH (i := 10) (d := 189) (v := .bool true) rfl rfl (by kernel_rfl) (by kernel_rfl) (by kernel_rfl) (fun _ _ _ h => h) (Or.inl ⟨by rfl, fun W hW => ?_⟩) hS ?_
      · (go_simp)
      simp only [Act.put, List.setIfInBounds_toArray, List.set_cons_zero, List.set_cons_succ]
      refine takeYH (i := 11) (d := 190) (v := .slice (some ⟨gw, 0, none⟩) 3 cW) rfl rfl (by kernel_rfl) (by kernel_rfl) (by kernel_rfl) (fun _ _ _ h => h) (Or.inl ⟨by rfl, fun W hW => ?_⟩) hS ?_
      · (go_simp)
      simp only [Act.put, List.setIfInBounds_toArray, List.set_cons_zero, List.set_cons_succ]
      refine takeYH (i := 12) (d := 191) (v := .pointer (some ⟨gw, 1, none⟩)) rfl rfl (by kernel_rfl) (by kernel_rfl) (by kernel_rfl) (fun _ _ _ h => h) (Or.inl ⟨by rfl, fun W hW => ?_⟩) hS ?_
      · (go_simp)
      simp only [Act.put, List.setIfInBounds_toArray, List.set_cons_zero, List.set_cons_succ]
      refine takeYH (i := 13) (d := 192) (v := .string (strOfNums (twd s 5 R))) rfl rfl (by kernel_rfl) (by kernel_rfl) (by kernel_rfl) (fun _ _ _ h => h) (Or.inl ⟨by rfl, fun W hW => ?_⟩) hS ?_
      · have x0 := Kept.cell (F := fun _ => False) (w := Wz) (w' := W) hW c1 (fun f => f)
        (go_simp)
      simp only [Act.put, List.setIfInBounds_toArray, List.set_cons_zero, List.set_cons_succ]
      refine takeYH (i := 14) (d := 193) (v := .slice (some ⟨gw, 0, none⟩) 3 cW) rfl rfl (by kernel_rfl) (by kernel_rfl) (by kernel_rfl) (fun _ _ _ h => h) (Or.inl ⟨by rfl, fun W hW => ?_⟩) hS ?_
      · (go_simp)
      simp only [Act.put, List.setIfInBounds_toArray, List.set_cons_zero, List.set_cons_succ]
      refine takeYH (i := 15) (d := 194) (v := .pointer (some ⟨gw, 2, none⟩)) rfl rfl (by kernel_rfl) (by kernel_rfl) (by kernel_rfl) (fun _ _ _ h => h) (Or.inl ⟨by rfl, fun W hW => ?_⟩) hS ?_
      · (go_simp)
      simp only [Act.put, List.setIfInBounds_toArray, List.set_cons_zero, List.set_cons_succ]
      refine takeYH (i := 16) (d := 195) (v := .string (strOfNums (twd s 5 R))) rfl rfl (by kernel_rfl) (by kernel_rfl) (by kernel_rfl) (fun _ _ _ h => h) (Or.inl ⟨by rfl, fun W hW => ?_⟩) hS ?_
      · have x0 := Kept.cell (F := fun _ => False) (w := Wz) (w' := W) hW c2 (fun f => f)
        (go_simp)
      simp only [Act.put, List.setIfInBounds_toArray, List.set_cons_zero, List.set_cons_succ]
      refine takeYH (i := 17) (d := 196) (v := .bool true) rfl rfl (by kernel_rfl) (by kernel_rfl) (by kernel_rfl) (fun _ _ _ h => h) (Or.inl ⟨by rfl, fun W hW => ?_⟩) hS ?_
      · (go_simp)
      simp only [Act.put, List.setIfInBounds_toArray, List.set_cons_zero, List.set_cons_succ]
      refine takeYH (i := 18) (d := 197) (v := .bool true) rfl rfl (by kernel_rfl) (by kernel_rfl) (by kernel_rfl) (fun _ _ _ h => h) (Or.inl ⟨by rfl, fun W hW => ?_⟩) hS ?_
      · (go_simp)
      simp only [Act.put, List.setIfInBounds_toArray, List.set_cons_zero, List.set_cons_succ]
      refine takeYH (i := 19) (d := 198) (v := .bool true) rfl rfl (by kernel_rfl) (by kernel_rfl) (by kernel_rfl) (fun _ _ _ h => h) (Or.inl ⟨by rfl, fun W hW => ?_⟩) hS ?_
      · (go_simp)
      simp only [Act.put, List.setIfInBounds_toArray, List.set_cons_zero, List.set_cons_succ]
      refine takeYH (i := 20) (d := 199) (v := .pointer (some ⟨bw, 0, none⟩)) rfl rfl (by kernel_rfl) (by kernel_rfl) (by kernel_rfl) (fun _ _ _ h => h) (Or.inl ⟨by rfl, fun W hW => ?_⟩) hS ?_
      · (go_simp)
      simp only [Act.put, List.setIfInBounds_toArray, List.set_cons_zero, List.set_cons_succ]
      refine takeYH (i := 23) (d := 202) (v := .slice (some ⟨gw, 0, none⟩) 3 cW) rfl rfl (by kernel_rfl) (by kernel_rfl) (by kernel_rfl) (fun _ _ _ h => h) (Or.inl ⟨by rfl, fun W hW => ?_⟩) hS ?_
      · (go_simp)
      simp only [Act.put, List.setIfInBounds_toArray, List.set_cons_zero, List.set_cons_succ]
      refine takeYH (i := 24) (d := 203) (v := .pointer (some ⟨gw, 0, none⟩)) rfl rfl (by kernel_rfl) (by kernel_rfl) (by kernel_rfl) (fun _ _ _ h => h) (Or.inl ⟨by rfl, fun W hW => ?_⟩) hS ?_
      · (go_simp)
      simp only [Act.put, List.setIfInBounds_toArray, List.set_cons_zero, List.set_cons_succ]
      refine takeYH (i := 25) (d := 204) (v := .string (strOfNums (twd s 5 R))) rfl rfl (by kernel_rfl) (by kernel_rfl) (by kernel_rfl) (fun _ _ _ h => h) (Or.inl ⟨by rfl, fun W hW => ?_⟩) hS ?_
      · have x0 := Kept.cell (F := fun _ => False) (w := Wz) (w' := W) hW c0 (fun f => f)
        (go_simp)
      simp only [Act.put, List.setIfInBounds_toArray, List.set_cons_zero, List.set_cons_succ]
      refine wpAnyH_all (rs := [21]) (by kernel_rfl) (by simp) ?_
      intro i' hi'
      obtain rfl : i' = 21 := by simpa using hi'
      unfold wpOp
      go_simp
      first | refine (CB.out Wz.drew hS).mono ?_ | refine Or.inl ((CB.out Wz.drew hS).mono ?_)
      rintro e Wy ⟨rfl, hry, ky0⟩
      have ky : Kept (fun _ => False) Wz Wy := hS.trans ky0 (fun _ f => f.elim)
      have cy : (convert 23 9 (.slice (some ⟨Wz.heap.size, 0, none⟩) (twd s 5 R).length (twd s 5 R).length)).run Tryd.prog Wy = .ok (.string (strOfNums (twd s 5 R))) Wy := conv_atH (Lib.of_own hry)
      refine ⟨ky, ?_⟩
      refine wpAnyH_all (rs := [22]) (by kernel_rfl) (by simp) ?_
      intro i' hi'
      obtain rfl : i' = 22 := by simpa using hi'
      unfold wpOp
      go_simp
      first | refine Or.inl ⟨ky, ?_⟩ | refine ⟨ky, ?_⟩ | (change wpAnyH _ _ _ _ _ _ _ _ _) | refine Or.inl ?_
      clear cy
      refine takeYH (i := 26) (d := 205) (v := .bool true) rfl rfl (by kernel_rfl) (by kernel_rfl) (by kernel_rfl) (fun _ _ _ h => h) (Or.inl ⟨by rfl, fun W hW => ?_⟩) ky ?_
      · (go_simp)
      simp only [Act.put, List.setIfInBounds_toArray, List.set_cons_zero, List.set_cons_succ]
      refine takeYH (i := 27) (d := 206) (v := .bool true) rfl rfl (by kernel_rfl) (by kernel_rfl) (by kernel_rfl) (fun _ _ _ h => h) (Or.inl ⟨by rfl, fun W hW => ?_⟩) ky ?_
      · (go_simp)
      simp only [Act.put, List.setIfInBounds_toArray, List.set_cons_zero, List.set_cons_succ]
      refine takeYH (i := 28) (d := 207) (v := .bool true) rfl rfl (by kernel_rfl) (by kernel_rfl) (by kernel_rfl) (fun _ _ _ h => h) (Or.inl ⟨by rfl, fun W hW => ?_⟩) ky ?_
      · (go_simp)
      simp only [Act.put, List.setIfInBounds_toArray, List.set_cons_zero, List.set_cons_succ]
      refine takeYH (i := 29) (d := 208) (v := .slice av n cv) rfl rfl (by kernel_rfl) (by kernel_rfl) (by kernel_rfl) (fun _ _ _ h => h) (Or.inl ⟨by rfl, fun W hW => ?_⟩) ky ?_
      · (go_simp)
      simp only [Act.put, List.setIfInBounds_toArray, List.set_cons_zero, List.set_cons_succ]
      refine takeYH (i := 30) (d := 209) (v := .slice ra M rc) rfl rfl (by kernel_rfl) (by kernel_rfl) (by kernel_rfl) (fun _ _ _ h => h) (Or.inl ⟨by rfl, fun W hW => ?_⟩) ky ?_
      · (go_simp)
      simp only [Act.put, List.setIfInBounds_toArray, List.set_cons_zero, List.set_cons_succ]
      refine wpAnyH_all (rs := [31]) (by kernel_rfl) (by simp) ?_
      intro i' hi'
      obtain rfl : i' = 31 := by simpa using hi'
      unfold wpOp
      go_simp
      first | refine (CS.out Wy ky).mono ?_ | refine Or.inl ((CS.out Wy ky).mono ?_)
      rintro e Wx ⟨rfl, kx0⟩
      have kx : Kept (fun _ => False) Wz Wx := ky.trans kx0 (fun _ f => f.elim)
      refine ⟨kx, ?_⟩
      refine takeYH (i := 32) (d := 211) (v := .bool true) rfl rfl (by kernel_rfl) (by kernel_rfl) (by kernel_rfl) (fun _ _ _ h => h) (Or.inl ⟨by rfl, fun W hW => ?_⟩) kx ?_
      · (go_simp)
      simp only [Act.put, List.setIfInBounds_toArray, List.set_cons_zero, List.set_cons_succ]
      refine takeYH (i := 33) (d := 4) (v := .bool true) rfl rfl (by kernel_rfl) (by kernel_rfl) (by kernel_rfl) (fun _ _ _ h => h) (Or.inl ⟨by rfl, fun W hW => ?_⟩) kx ?_
      · (go_simp)
      simp only [Act.put, List.setIfInBounds_toArray, List.set_cons_zero, List.set_cons_succ]
      refine wpAnyH_done (by kernel_rfl) ?_ _
      have HKx := hideH (HKz.out.trans kx (fun _ f => f.elim))
      go_wp2_with fail
      go_ret
      exact ⟨rfl, HKx.out⟩
    have i1 : (t : Int) < 3 := by omega
    have C := hideH (bytes_any bw v3 (twd s 5 R) Wa HT.out.wr.1 (by have := HTW.out; omega))
    go_wp2_with (go_at_call 9; refine StpH.go ?_)
    refine ⟨?_⟩
    refine C.out.mono ?_
    clear C
    rintro e Wb ⟨rfl, hrb, kb1⟩
    have tn1 := HT.out.step kb1 (fun _ f => f.elim) (fun q => if Wa.heap.size ≤ q then 10 + 2 * (3 * t) else o q) (fun q hq => if_neg (by omega))
    have hlb : Lib Wb (.slice (some ⟨Wa.heap.size, 0, none⟩) (twd s 5 R).length (twd s 5 R).length) (twd s 5 R) := Lib.of_own hrb
    have hba := (hlb.bytesE).1
    have hgl : Wa.heap.size < Wb.heap.size := hlb.lt rfl
    have hog : (fun q => if Wa.heap.size ≤ q then 10 + 2 * (3 * t) else o q) Wa.heap.size = 10 + 2 * (3 * t) := if_pos (Nat.le_refl _)
    generalize (fun q => if Wa.heap.size ≤ q then 10 + 2 * (3 * t) else o q) = o1 at tn1 hog
    generalize Wa.heap.size = gb at hlb hba hgl hog ⊢
    have N1 := hideH (newr_any (twd s 5 R) (some ⟨gb, 0, none⟩) (twd s 5 R).length Wb hba HDB.out (by have := HTW.out; omega))
    have HT1 := hideH tn1
    have HLB := hideH hlb
    have HBA := hideH hba
    clear hrb kb1 tn1 hlb hba HT
    go_wp2_with (go_at_call 10; refine StpH.go ?_)
    refine ⟨?_⟩
    refine N1.out.mono ?_
    clear N1
    rintro e Wc ⟨b1, u1, rfl, hr1, hb1, hu1, kc⟩
    have tn2 := HT1.out.step kc (fun _ f => f.elim) (fun q => if Wb.heap.size ≤ q then (if q = b1 then 6 else 9) else o1 q) (fun q hq => if_neg (by omega))
    have N2 := hideH (newr_any (twd s 5 R) (some ⟨gb, 0, none⟩) (twd s 5 R).length Wc (HBA.out.laterQ kc) HDB.out (by have := HTW.out; omega))
    have hog2 : (fun q => if Wb.heap.size ≤ q then (if q = b1 then 6 else 9) else o1 q) gb = 10 + 2 * (3 * t) := (if_neg (by omega)).trans hog
    have hob1 : (fun q => if Wb.heap.size ≤ q then (if q = b1 then 6 else 9) else o1 q) b1 = 6 := (if_pos hb1).trans (if_pos rfl)
    have hov1 : ∀ k, u1.ownBlock = some k → (fun q => if Wb.heap.size ≤ q then (if q = b1 then 6 else 9) else o1 q) k = 9 := fun k e => (if_pos (hu1 k e)).trans (if_neg (fun f => hr1.ne (by rw [e, f])))
    have HLB2 := hideH (HLB.out.later kc)
    have hgl2 : gb < Wc.heap.size := Nat.lt_of_lt_of_le hgl kc.size
    generalize (fun q => if Wb.heap.size ≤ q then (if q = b1 then 6 else 9) else o1 q) = o2 at tn2 hog2 hob1 hov1
    have HT2 := hideH tn2
    have HR1 := hideH hr1
    have HOV1 := hideH hov1
    clear tn2 hr1 hu1 hb1 kc HT1 HLB HBA hog hgl hov1
    go_wp2_with (go_at_call 10; refine StpH.go ?_)
    refine ⟨?_⟩
    refine N2.out.mono ?_
    clear N2
    rintro e Wd ⟨b2, u2, rfl, hr2, hb2, hu2, kd⟩
    have tn3 := HT2.out.step kd (fun _ f => f.elim) (fun q => if Wc.heap.size ≤ q then (if q = b2 then 8 else 9) else o2 q) (fun q hq => if_neg (by omega))
    have hl1 := HR1.out.br_lt
    have hog3 : (fun q => if Wc.heap.size ≤ q then (if q = b2 then 8 else 9) else o2 q) gb = 10 + 2 * (3 * t) := (if_neg (by omega)).trans hog2
    have hob3 : (fun q => if Wc.heap.size ≤ q then (if q = b2 then 8 else 9) else o2 q) b1 = 6 := (if_neg (by omega)).trans hob1
    have hov3 : ∀ k, u1.ownBlock = some k → (fun q => if Wc.heap.size ≤ q then (if q = b2 then 8 else 9) else o2 q) k = 9 := fun k e => (if_neg (by have := (HR1.out.own.lt k e).2; omega)).trans (HOV1.out k e)
    have hob4 : (fun q => if Wc.heap.size ≤ q then (if q = b2 then 8 else 9) else o2 q) b2 = 8 := (if_pos hb2).trans (if_pos rfl)
    have hov4 : ∀ k, u2.ownBlock = some k → (fun q => if Wc.heap.size ≤ q then (if q = b2 then 8 else 9) else o2 q) k = 9 := fun k e => (if_pos (hu2 k e)).trans (if_neg (fun f => hr2.ne (by rw [e, f])))
    generalize (fun q => if Wc.heap.size ≤ q then (if q = b2 then 8 else 9) else o2 q) = o3 at tn3 hog3 hob3 hov3 hob4 hov4
    have hr1' := HR1.out.kept kd (fun f => f) (fun _ _ f => f)
    have hlb3 := HLB2.out.later kd
    have cvb := conv_atH hlb3
    have HT3 := hideH tn3
    have HR1 := hideH hr1'
    have HR2 := hideH hr2
    have HOV1 := hideH hov3
    have HOV2 := hideH hov4
    have HLB3 := hideH hlb3
    clear tn3 hr1' hr2 hov3 hov4 hlb3 hu2 hb2 hl1 kd HT2 HLB2 hog2 hob1 hgl2
    have kw0 := Kept.alloc Wd (.cells #[.string (strOfNums (twd s 5 R))] 9)
    have HRW := hideH (kw0.row HT3.out.wr.2.2.2.2.1 (fun _ _ f => f))
    have HCW : Hid (∀ j u, [Value.string (strOfNums (twd s 5 R))][j]? = some u → (Wd.alloc (.cells #[.string (strOfNums (twd s 5 R))] 9)).cell? ((⟨Wd.heap.size, 0, none⟩ : Addr).add j) = some u) := hideH (one_new Wd (.string (strOfNums (twd s 5 R))) 9)
    have HKW := hideH kw0
    obtain ⟨j0, hj0, hy0, hy1, hy2⟩ := info_parts Tryd.infoStQ
    have hbz := HT3.out.bz
    have HJ := hideH (And.intro hj0 (And.intro hy0 (And.intro hy1 hy2)))
    clear kw0 hj0 hy0 hy1 hy2
    go_wp2_with (at_builtin; refine StpH.go ?_)
    refine ⟨?_⟩
    refine wpList_append_own_at _ rfl _ _ 37 rfl (kb + 1) 9 j0 (.string ⟨#[]⟩) 1 16 Tryd.underlying37 HJ.out.1 HJ.out.2.1 HJ.out.2.2.1 HJ.out.2.2.2 rfl (by decide) (.slice aW t cW) t (List.replicate t (.string (strOfNums (twd s 5 R)))) rfl HRW.out ⟨Wd.heap.size, 0, none⟩ 1 1 [.string (strOfNums (twd s 5 R))] rfl rfl HCW.out (by intro u hu; simp only [List.mem_singleton] at hu; rw [hu]; rfl) (by unfold maxLen; omega) (by omega) (by simp; omega) ?_
    intro vX We ho1 hg1 _ hat
    rw [← List.replicate_succ'] at ho1
    have hk1 : Kept (fun k => (Value.slice aW t cW).ownBlock = some k) Wd We := (HKW.out.mono (fun _ f => f.elim)).trans (Kept.grown hg1) (fun i hi => .inl hi)
    have hnew : ∀ k, vX.ownBlock = some k → (Value.slice aW t cW).ownBlock = some k ∨ Wd.heap.size ≤ k := fun k hk => by
      rcases hat with e | e
      · exact .inl (by rw [← e]; exact hk)
      · rw [e] at hk
        have e2 := Option.some.inj hk
        have e3 : (Wd.alloc (.cells #[.string (strOfNums (twd s 5 R))] 9)).heap.size = Wd.heap.size + 1 := by simp
        exact .inr (by omega)
    have tn4 := HT3.out.whole hk1 ho1 hnew
    have hcd := HT3.out.wr.2.2.2.2.2
    have hlb4 := HLB3.out.kept hk1 (fun k e f => by have h1 := hcd k f; have e2 : gb = k := Option.some.inj e; rw [← e2, hog3] at h1; omega)
    have hr1' := HR1.out.kept hk1 (fun f => by have h1 := hcd _ f; rw [hob3] at h1; omega) (fun k e f => by have h1 := hcd _ f; rw [HOV1.out k e] at h1; omega)
    have hr2' := HR2.out.kept hk1 (fun f => by have h1 := hcd _ f; rw [hob4] at h1; omega) (fun k e f => by have h1 := hcd _ f; rw [HOV2.out k e] at h1; omega)
    have key4 : ∀ q, q < Wd.heap.size → (fun q => if Wd.heap.size ≤ q then 2 else o3 q) q = o3 q := fun q hq => if_neg (by omega)
    generalize (fun q => if Wd.heap.size ≤ q then 2 else o3 q) = o4 at tn4 key4
    have hog4 := (key4 gb (HLB3.out.lt rfl)).trans hog3
    have hob5 := (key4 b1 HR1.out.br_lt).trans hob3
    have hob6 := (key4 b2 HR2.out.br_lt).trans hob4
    have hov5 : ∀ k, u1.ownBlock = some k → o4 k = 9 := fun k e => (key4 k (HR1.out.own.lt k e).2).trans (HOV1.out k e)
    have hov6 : ∀ k, u2.ownBlock = some k → o4 k = 9 := fun k e => (key4 k (HR2.out.own.lt k e).2).trans (HOV2.out k e)
    obtain ⟨aX, cX, eX⟩ := row_shapeH ho1
    subst eX
    have B1 := hideH (tn_bytes tn4 hlb4 (fun q e => by have e2 : gb = q := Option.some.inj e; rw [← e2]; exact hog4) HTW.out (by omega))
    have HR1' := hideH hr1'
    have HR2' := hideH hr2'
    have HOV5 := hideH hov5
    have HOV6 := hideH hov6
    clear ho1 hg1 hat hk1 hnew tn4 hcd hlb4 hr1' hr2' key4 hov5 hov6 hog4 hob3 hob4 hog3 HT3 HR1 HR2 HOV1 HOV2 HLB3 HRW HCW HKW HJ cvb
    go_wp2_with (go_at_call 11; refine StpH.go ?_)
    refine ⟨?_⟩
    refine B1.out.mono ?_
    clear B1
    rintro e Wf ⟨rfl, o5, tn5, key5, kf⟩
    have hr1' := HR1'.out.kept kf (fun f => by simp only [hob5] at f; omega) (fun k e f => by simp only [HOV5.out k e] at f; omega)
    have hr2' := HR2'.out.kept kf (fun f => by simp only [hob6] at f; omega) (fun k e f => by simp only [HOV6.out k e] at f; omega)
    have hob7 := (key5 b1 HR1'.out.br_lt).trans hob5
    have hob8 := (key5 b2 HR2'.out.br_lt).trans hob6
    have hov7 : ∀ k, u1.ownBlock = some k → o5 k = 9 := fun k e => (key5 k (HR1'.out.own.lt k e).2).trans (HOV5.out k e)
    have hov8 : ∀ k, u2.ownBlock = some k → o5 k = 9 := fun k e => (key5 k (HR2'.out.own.lt k e).2).trans (HOV6.out k e)
    have kg := Kept.alloc Wf (.cells #[.pointer (some ⟨b1, 0, none⟩), .pointer (some ⟨b2, 0, none⟩)] 39)
    have hg := heap_alloc_new Wf (.cells #[.pointer (some ⟨b1, 0, none⟩), .pointer (some ⟨b2, 0, none⟩)] 39)
    have key6 : ∀ q, q < Wf.heap.size → (fun q => if Wf.heap.size ≤ q then 9 else o5 q) q = o5 q := fun q hq => if_neg (by omega)
    have og6 : (fun q => if Wf.heap.size ≤ q then 9 else o5 q) Wf.heap.size = 9 := if_pos (Nat.le_refl _)
    have tn6 := tn5.step kg (fun _ f => f.elim) (fun q => if Wf.heap.size ≤ q then 9 else o5 q) key6
    have rs6 : Rs (Wf.alloc (.cells #[.pointer (some ⟨b1, 0, none⟩), .pointer (some ⟨b2, 0, none⟩)] 39)) (fun q => if Wf.heap.size ≤ q then 9 else o5 q) Wf.heap.size (fun q => if q = 0 then b1 else b2) (fun q => if q = 0 then u1 else u2) (twd s 5 R) 0 := by
      have two : ∀ q, q < 2 → q = 0 ∨ q = 1 := fun q hq => by omega
      refine ⟨fun q _ h2 => ?_, fun q _ h2 => ?_, fun q _ h2 => ?_, fun q h2 => ?_, og6⟩
      · rcases two q h2 with rfl | rfl
        · exact hr1'.kept kg (fun f => f) (fun _ _ f => f)
        · exact hr2'.kept kg (fun f => f) (fun _ _ f => f)
      · rcases two q h2 with rfl | rfl
        · exact (key6 b1 hr1'.br_lt).trans hob7
        · exact (key6 b2 hr2'.br_lt).trans hob8
      · rcases two q h2 with rfl | rfl
        · exact fun k e => (key6 k (hr1'.own.lt k e).2).trans (hov7 k e)
        · exact fun k e => (key6 k (hr2'.own.lt k e).2).trans (hov8 k e)
      · rcases two q h2 with rfl | rfl
        · rw [cell_of_row _ _ 0 _ _ _ hg]; rfl
        · rw [cell_of_row _ _ 1 _ _ _ hg]; rfl
    generalize (fun q => if q = 0 then b1 else b2) = rb at rs6
    generalize (fun q => if q = 0 then u1 else u2) = rv at rs6
    generalize (fun q => if Wf.heap.size ≤ q then 9 else o5 q) = o6 at rs6 tn6
    have HT6 := hideH tn6
    have HRS := hideH rs6
    clear hr1' hr2' hob5 hob6 hob7 hob8 hov7 hov8 kg hg key6 og6 tn6 rs6 tn5 key5 kf HR1' HR2' HOV5 HOV6
    go_wp2_with fail
    generalize Wf.heap.size = gp at HRS ⊢
    clear hbz
    go_loopw [95] (fun s95 wr => ∃ (j : Nat) (o : Nat → Nat), j ≤ 2 ∧ s95 = .int .i64 j ∧ Hid (Tn w bw v3 (twd s 5 R) kb (.slice av n cv) s (strOfNums (twd s 5 R)) (kb + 1) wr o (t + 1) (.slice aX (t + 1) cX) (3 * t + 1 + j) (4 * t + 2 * j)) ∧ Hid (Rs wr o gp rb rv (twd s 5 R) j)) (fun s95 _ => 2 - (intOf s95).toNat)
    case atStart => exact ⟨0, o6, by omega, rfl, HT6, HRS⟩
    case round =>
    obtain ⟨j, oj, hj, rfl, HTj, HRj⟩ := hrel
    obtain ⟨Wg, hWg⟩ : ∃ Wg, Wg = wr := ⟨_, rfl⟩
    rw [← hWg] at HTj HRj ⊢
    clear hWg HT6 HRS
    by_cases hjl : j < 2
    case neg =>
      obtain rfl : j = 2 := by omega
      have i2 : ¬ ((2 : Nat) : Int) < 2 := by omega
      go_wp2_with fail
      go_roundw
      case rel =>
        have e1 : 3 * t + 1 + 2 = 3 * (t + 1) := by omega
        have e2 : 4 * t + 2 * 2 = 4 * (t + 1) := by omega
        rw [e1, e2] at HTj
        exact ⟨t + 1, oj, _, by omega, rfl, by go_num, HTj⟩
      case measure => simp [intOf]; omega
    have i2 : (j : Int) < 2 := by omega
    obtain ⟨hcr, hcb, hcv, hpc⟩ := HRj.out.cur hjl
    obtain ⟨e0, e1, e2, e3, -⟩ := HE.out Wg HTj.out.kp
    have C := hideH (rd_rising s 5 R (rb j) (rv j) a0 a1 a2 Wg HSR.out hcr (by have := HTW.out; omega) (by rw [← HNs.out]; omega) e0 e1 e2)
    rw [← HNs.out] at C
    have hcl := hcr.br_lt
    have HCV := hideH hcv
    have HCR := hideH hcr
    clear e0 e1 e2 e3 hcr hcv
    go_wp2_with (go_at_call 12; refine StpH.go ?_)
    refine ⟨?_⟩
    refine C.out.mono ?_
    clear C
    rintro e Wh ⟨l1, rfl, hl1, hrd1, kh⟩
    have hF : ∀ q, q = rb j → q < Wg.heap.size → oj q = 6 ∨ oj q = 8 := fun q e _ => by rw [e, hcb]; omega
    have key1 : ∀ q, q < Wg.heap.size → (fun q => if Wg.heap.size ≤ q then 11 + 2 * (4 * t + 2 * j) else oj q) q = oj q := fun q hq => if_neg (by omega)
    have hc1 : ∀ q, Wg.heap.size ≤ q → (fun q => if Wg.heap.size ≤ q then 11 + 2 * (4 * t + 2 * j) else oj q) q = 11 + 2 * (4 * t + 2 * j) := fun q hq => if_pos hq
    have tn1 := HTj.out.step kh hF (fun q => if Wg.heap.size ≤ q then 11 + 2 * (4 * t + 2 * j) else oj q) key1
    have rs1 := HRj.out.step (j' := j + 1) (Nat.le_succ _) kh (fun q e _ => by have e2 : q = rb j := e; rw [e2, hcb]; omega) key1
    have hcb1 := (key1 (rb j) hcl).trans hcb
    generalize (fun q => if Wg.heap.size ≤ q then 11 + 2 * (4 * t + 2 * j) else oj q) = o1 at tn1 rs1 hcb1 key1 hc1
    have li1 : LibI Wh l1 s := LibI.of_own hl1
    obtain ⟨al, cl, el, -, -⟩ := li1.shape
    rw [← HNs.out] at el
    subst el
    have ol1 : ∀ k, (Value.slice al n cl).ownBlock = some k → o1 k = 11 + 2 * (4 * t + 2 * j) := fun k e => hc1 k (hl1.lt k e).1
    obtain ⟨e0, e1, e2, e3, -⟩ := HE.out Wh tn1.kp
    have C := hideH (rd_packed s 5 R (rb j) (rv j) a0 a1 a2 _ Wh HSR.out (by decide) (by decide) hrd1 (by have := HTW.out; omega) (by rw [← HNs.out]; omega) e0 e1 e2 e3)
    rw [← HNs.out] at C
    have hcl1 : rb j < Wh.heap.size := hrd1.br_lt
    have HT1 := hideH tn1
    have HR1 := hideH rs1
    have HL1 := hideH li1
    have HO1 := hideH ol1
    clear e0 e1 e2 e3 hF key1 hc1 tn1 rs1 li1 ol1 hl1 hrd1 kh HTj HRj HCV HCR hcb hcl hpc
    go_wp2_with (go_at_call 13; refine StpH.go ?_)
    refine ⟨?_⟩
    refine C.out.mono ?_
    clear C
    rintro e Wi ⟨l2, rfl, hl2, hrd2, ki⟩
    have hF : ∀ q, q = rb j → q < Wh.heap.size → o1 q = 6 ∨ o1 q = 8 := fun q e _ => by rw [e, hcb1]; omega
    have key2 : ∀ q, q < Wh.heap.size → (fun q => if Wh.heap.size ≤ q then 11 + 2 * (4 * t + 2 * j + 1) else o1 q) q = o1 q := fun q hq => if_neg (by omega)
    have hc2 : ∀ q, Wh.heap.size ≤ q → (fun q => if Wh.heap.size ≤ q then 11 + 2 * (4 * t + 2 * j + 1) else o1 q) q = 11 + 2 * (4 * t + 2 * j + 1) := fun q hq => if_pos hq
    have tn2 := HT1.out.step ki hF (fun q => if Wh.heap.size ≤ q then 11 + 2 * (4 * t + 2 * j + 1) else o1 q) key2
    have rs2 := HR1.out.step (j' := j + 1) (Nat.le_refl _) ki (fun q e _ => by have e2 : q = rb j := e; rw [e2, hcb1]; omega) key2
    have hcb2 := (key2 (rb j) hcl1).trans hcb1
    generalize (fun q => if Wh.heap.size ≤ q then 11 + 2 * (4 * t + 2 * j + 1) else o1 q) = o2 at tn2 rs2 hcb2 key2 hc2
    have li1 : LibI Wi (.slice al n cl) s := HL1.out.kept ki (fun k e f => by have h1 := HO1.out k e; have f2 : k = rb j := f; rw [f2, hcb1] at h1; omega)
    have ol1 : ∀ k, (Value.slice al n cl).ownBlock = some k → o2 k = 11 + 2 * (4 * t + 2 * j) := fun k e => (key2 k (HL1.out.lt e)).trans (HO1.out k e)
    have li2 : LibI Wi l2 (s ++ [5]) := LibI.of_own hl2
    obtain ⟨am, cm, em, -, -⟩ := li2.shape
    rw [HE5.out] at em
    subst em
    have ol2 : ∀ k, (Value.slice am (n + 1) cm).ownBlock = some k → o2 k = 11 + 2 * (4 * t + 2 * j + 1) := fun k e => hc2 k (hl2.lt k e).1
    have C := hideH (rd_raw s 5 R (rb j) (rv j) Wi hrd2)
    rw [← HM.out] at C
    have hcl2 : rb j < Wi.heap.size := hrd2.br_lt
    have HT2 := hideH tn2
    have HR2 := hideH rs2
    have HL1' := hideH li1
    have HO1' := hideH ol1
    have HL2 := hideH li2
    have HO2 := hideH ol2
    clear hF key2 hc2 tn2 rs2 li1 ol1 li2 ol2 hl2 hrd2 ki HT1 HR1 HL1 HO1 hcb1 hcl1
    go_wp2_with (go_at_call 14; refine StpH.go ?_)
    refine ⟨?_⟩
    refine C.out.mono ?_
    clear C
    rintro e Wj ⟨gr, rfl, hgr, hl3, kj⟩
    have hF : ∀ q, q = rb j → q < Wi.heap.size → o2 q = 6 ∨ o2 q = 8 := fun q e _ => by rw [e, hcb2]; omega
    have key3 : ∀ q, q < Wi.heap.size → (fun q => if Wi.heap.size ≤ q then 10 + 2 * (3 * t + 1 + j) else o2 q) q = o2 q := fun q hq => if_neg (by omega)
    have hc3 : ∀ q, Wi.heap.size ≤ q → (fun q => if Wi.heap.size ≤ q then 10 + 2 * (3 * t + 1 + j) else o2 q) q = 10 + 2 * (3 * t + 1 + j) := fun q hq => if_pos hq
    have tn3 := HT2.out.step kj hF (fun q => if Wi.heap.size ≤ q then 10 + 2 * (3 * t + 1 + j) else o2 q) key3
    have rs3 := HR2.out.step (j' := j + 1) (Nat.le_refl _) kj (fun q e _ => by have e2 : q = rb j := e; rw [e2, hcb2]; omega) key3
    generalize (fun q => if Wi.heap.size ≤ q then 10 + 2 * (3 * t + 1 + j) else o2 q) = o3 at tn3 rs3 key3 hc3
    have li1 : LibI Wj (.slice al n cl) s := HL1'.out.kept kj (fun k e f => by have h1 := HO1'.out k e; have f2 : k = rb j := f; rw [f2, hcb2] at h1; omega)
    have ol1 : ∀ k, (Value.slice al n cl).ownBlock = some k → o3 k = 11 + 2 * (4 * t + 2 * j) := fun k e => (key3 k (HL1'.out.lt e)).trans (HO1'.out k e)
    have li2 : LibI Wj (.slice am (n + 1) cm) (s ++ [5]) := HL2.out.kept kj (fun k e f => by have h1 := HO2.out k e; have f2 : k = rb j := f; rw [f2, hcb2] at h1; omega)
    have ol2 : ∀ k, (Value.slice am (n + 1) cm).ownBlock = some k → o3 k = 11 + 2 * (4 * t + 2 * j + 1) := fun k e => (key3 k (HL2.out.lt e)).trans (HO2.out k e)
    have li3 : Lib Wj (.slice (some ⟨gr, 0, none⟩) M M) R := Lib.of_own hl3
    have ol3 : ∀ k, (Value.slice (some ⟨gr, 0, none⟩) M M).ownBlock = some k → o3 k = 10 + 2 * (3 * t + 1 + j) := fun k e => hc3 k (hl3.lt k e).1
    obtain ⟨bm2, rfl, hx5, hin2, hcm⟩ := li2.lastQ HNs.out
    have hins := tn3.wr.2.2.1.ints.1
    have SM := hideH (sameI_true s al av n cl cv Wj HNs.out li1.ints.1 hins (by omega))
    have HT3 := hideH tn3
    have HR3 := hideH rs3
    have HL1 := hideH li1
    have HO1 := hideH ol1
    have HL2' := hideH li2
    have HO2' := hideH ol2
    have HL3 := hideH li3
    have HO3 := hideH ol3
    have HX5 := hideH hx5
    have HIN2 := hideH hin2
    have HINS := hideH hins
    clear hF key3 hc3 tn3 rs3 li1 ol1 li2 ol2 li3 ol3 hl3 kj hgr hx5 hin2 hins HT2 HR2 HL1' HO1' HL2 HO2 hcb2 hcl2
    go_wp2_with (go_at_call 15; refine StpH.go ?_)
    refine ⟨?_⟩
    refine SM.out.mono ?_
    clear SM
    rintro e Wk ⟨rfl, kk⟩
    have SM := hideH (sameI_true s (some ⟨bm2, 0, none⟩) av n cm cv Wk HNs.out (HIN2.out.laterQ kk) (HINS.out.laterQ kk) (by omega))
    have HKK := hideH kk
    clear kk
    go_wp2_with (go_at_call 15; refine StpH.go ?_)
    refine ⟨?_⟩
    refine SM.out.mono ?_
    clear SM
    rintro e Wl ⟨rfl, kl⟩
    have kl2 := HKK.out.trans kl (fun _ f => f.elim)
    have x5 := kl2.cell HX5.out (fun f => f)
    have tn4 := HT3.out.later kl2
    have rs4 := HR3.out.later kl2
    have li1 := HL1.out.later kl2
    have li2 := HL2'.out.later kl2
    have li3 := HL3.out.later kl2
    have cv1 := conv_atH li3
    have cv2 : (convert 23 9 (.slice ra M rc)).run Tryd.prog Wl = .ok (.string (strOfNums R)) Wl := by
      rw [HM.out]
      exact conv_atQ (HRa.out.laterQ tn4.kp)
    have B1 := hideH (tn_ints tn4 li1 HO1.out (by rw [← HNs.out]; omega) (by omega))
    have HR4 := hideH rs4
    have HL2 := hideH li2
    have HL3' := hideH li3
    clear kl kl2 tn4 rs4 li1 li2 li3 HKK HX5 HIN2 HINS HT3 HR3 HL1 HL2' HL3 HO1
    go_wp2_with (go_at_call 16; refine StpH.go ?_)
    refine ⟨?_⟩
    refine B1.out.mono ?_
    clear B1 cv1 cv2 x5
    rintro e Wm ⟨rfl, o4, tn5, key4, km⟩
    have rs5 := HR4.out.step (j' := j + 1) (o' := o4) (Nat.le_refl _) km (fun q e _ => by omega) key4
    have li2 := HL2.out.kept km (fun k e f => by have h1 := HO2'.out k e; omega)
    have li3 := HL3'.out.kept km (fun k e f => by have h1 := HO3.out k e; omega)
    have ol2 : ∀ k, (Value.slice (some ⟨bm2, 0, none⟩) (n + 1) cm).ownBlock = some k → o4 k = 11 + 2 * (4 * t + 2 * j + 1) := fun k e => (key4 k (HL2.out.lt e)).trans (HO2'.out k e)
    have ol3 : ∀ k, (Value.slice (some ⟨gr, 0, none⟩) M M).ownBlock = some k → o4 k = 10 + 2 * (3 * t + 1 + j) := fun k e => (key4 k (HL3'.out.lt e)).trans (HO3.out k e)
    have B2 := hideH (tn_ints tn5 li2 ol2 (by rw [HE5.out]; omega) (by omega))
    have HR5 := hideH rs5
    have HL3 := hideH li3
    have HO3' := hideH ol3
    clear tn5 rs5 key4 km li2 li3 ol2 ol3 HR4 HL2 HL3' HO2' HO3
    go_wp2_with (go_at_call 16; refine StpH.go ?_)
    refine ⟨?_⟩
    refine B2.out.mono ?_
    clear B2
    rintro e Wn ⟨rfl, o5, tn6, key5, kn⟩
    have rs6 := HR5.out.step (j' := j + 1) (o' := o5) (Nat.le_refl _) kn (fun q e _ => by omega) key5
    have li3 := HL3.out.kept kn (fun k e f => by have h1 := HO3'.out k e; omega)
    have ol3 : ∀ k, (Value.slice (some ⟨gr, 0, none⟩) M M).ownBlock = some k → o5 k = 10 + 2 * (3 * t + 1 + j) := fun k e => (key5 k (HL3.out.lt e)).trans (HO3'.out k e)
    have B3 := hideH (tn_bytes tn6 li3 ol3 (by rw [← HM.out]; omega) (by omega))
    have HR6 := hideH rs6
    clear tn6 rs6 key5 kn li3 ol3 HR5 HL3 HO3'
    go_wp2_with (go_at_call 11; refine StpH.go ?_)
    refine ⟨?_⟩
    refine B3.out.mono ?_
    clear B3
    rintro e Wo ⟨rfl, o6', tn7, key6, ko⟩
    have HR7 := hideH (HR6.out.step (j' := j + 1) (o' := o6') (Nat.le_refl _) ko (fun q e _ => by omega) key6)
    have HT7 := hideH tn7
    clear tn7 key6 ko HR6
    go_wp2_with fail
    go_roundw
    case rel =>
      have e1 : 3 * t + 1 + j + 1 = 3 * t + 1 + (j + 1) := by omega
      have e2 : 4 * t + 2 * j + 1 + 1 = 4 * t + 2 * (j + 1) := by omega
      rw [e1, e2] at HT7
      exact ⟨j + 1, o6', by omega, by go_num, HT7, HR7⟩
    case measure => simp [intOf]; omega
end Go.Proofs.YtmpneljkpcniiaaDoor
