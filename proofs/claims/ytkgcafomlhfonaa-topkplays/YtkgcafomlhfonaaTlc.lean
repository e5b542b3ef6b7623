import Derived.Test.YtkgcafomlhfonaaTlb
import Derived.Test.YtkgcafomlhfonaaTkz
import Derived.Test.YtkgcafomlhfonaaTku
namespace Go.Proofs.Ytkgcafomlhfonaa.Tk
open Go.ChangeShapes Go.WideShapes Go.ChangeAt Go.RowKit

/-- The first k of a list of hits. -/
theorem head_hits {W : World} {a : Option Addr} {c n k : Nat} {l : List Ht} (h : HsAt W a l) (hn : n = l.length) (hc : n ≤ c) (hk : k ≤ n) : (∀ V, (Instr.sliceAt 26 (.slice a n c) none (some (.int .i64 (k : Int))) none).run Try.prog V = .ok (.slice a k c) V) ∧ HsAt W a (l.take k) := by
  have hel : Try.prog.underlying 26 = some (.slice (Try.prog.elem 26)) := by rw [elHit]; exact Try.underlying26
  refine ⟨fun V => ?_, fun hne => ?_⟩
  · rw [run_sliceAt_slice _ _ _ _ _ _ hel, run_slice_h _ _ _ _ _ hel _ _ (by omega) (by omega), elHit, szHit]
    simp only [Result.andThen, sliced, Int.toNat_natCast, Nat.zero_mul, Nat.sub_zero]
    have e : (if c = 0 then a else a.map (fun x => x.add 0)) = a := by
      split
      · rfl
      · cases a with
        | none => rfl
        | some p => simp [Addr.add]
    rw [e]
  · obtain ⟨b, off, e, hcc⟩ := h (by intro e; rw [e] at hne; simp at hne)
    refine ⟨b, off, e, fun j hj => ?_⟩
    rw [List.length_take] at hj
    rw [List.getElem_take]
    exact hcc j (by omega)
set_option maxRecDepth 20000 in
set_option maxHeartbeats 8000000 in
theorem roffer_any (K : List Ht) (a : Option Addr) (c : Nat) (h : Ht) (k : Int) (w : World) (ha : HsAt w a K) (hs : Srt K) (hkl : K.length ≤ k.toNat) (hlim : K.length ≤ 8796093021952) : Calls Try.prog 29 #[.slice a K.length c, .agg #[.int .i64 h.1, .int .u64 h.2], .int .i64 k] w fun e w' => ∃ a' c', e = .returned (.tuple #[.slice a' (off k.toNat K h).length c', .bool (offB k K h)]) ∧ HsAt w' a' (off k.toNat K h) ∧ Kept (fun _ => False) w w' ∧ (a' = a ∨ ∀ b o, a' = some ⟨b, o, none⟩ → w.heap.size ≤ b) := by
  have HA := hideT ha
  have HS := hideT hs
  obtain ⟨n, hn⟩ : ∃ n, n = K.length := ⟨_, rfl⟩
  have HN := hideT hn
  rw [← hn] at hlim hkl ⊢
  obtain ⟨bh, hbh⟩ : ∃ b, b = w.heap.size := ⟨_, rfl⟩
  obtain ⟨V, hV⟩ : ∃ V, V = w.alloc (.cells #[.int .i64 h.1, .int .u64 h.2] 29) := ⟨_, rfl⟩
  have kV : Kept (fun _ => False) w V := by rw [hV]; exact Kept.alloc _ _
  have bV : V.heap[bh]? = some (.cells #[.int .i64 h.1, .int .u64 h.2] 29 (0, 0)) := by rw [hV, hbh]; exact heap_alloc_new w _
  have HV := hideT kV
  have HH := hideT (And.intro ((cell_of_row _ _ _ _ _ _ bV : V.cell? ⟨bh, 0, none⟩ = _).trans rfl : V.cell? ⟨bh, 0, none⟩ = some (.int .i64 h.1)) ((cell_of_row _ _ _ _ _ _ bV : V.cell? ⟨bh, 1, none⟩ = _).trans rfl : V.cell? ⟨bh, 1, none⟩ = some (.int .u64 h.2)))
  have BT := hideT (fun y W => rbetter_any h y W)
  obtain ⟨R, hR⟩ : ∃ R, R = off k.toNat K h := ⟨_, rfl⟩
  have HR := hideT hR
  obtain ⟨ob, hob⟩ : ∃ ob, ob = offB k K h := ⟨_, rfl⟩
  have HOB := hideT hob
  rw [← hR, ← hob]
  clear bV kV ha hs hn hR hob
  go_enter Try.func29, Try.ntmps29
  go_upto_region 1 with fail
  rw [← hV, ← hbh]
  clear hV hbh
  by_cases hk1 : k < 1
  · have hK : K = [] := List.eq_nil_of_length_eq_zero (by have := HN.out; omega)
    have hk0 : k.toNat = 0 := by omega
    have HF := hideT (show R = K ∧ ob = false from ⟨by rw [HR.out, hk0, hK, off_zero], by rw [HOB.out]; unfold offB; rw [hK]; simp; omega⟩)
    have HVq := hideT (show ∀ q, Kept (fun _ => False) w (V.drewN q) from fun q => HV.out.trans (gw_kept ((Gw.refl V).drewN q)) (fun _ f => f.elim))
    clear hK hk0
    go_quiet (fail)
    go_wp2
    go_ret2
    rw [HF.out.1, HF.out.2]
    exact ⟨a, c, by rw [← HN.out]; rfl, HA.out.same (HVq.out _), HVq.out _, .inl rfl⟩
  · have hk1' : (1 : Int) ≤ k := by omega
    by_cases hnk : (n : Int) < k
    · have HFB := hideT (show ob = true from by rw [HOB.out]; unfold offB; rw [← HN.out]; simp [hnk])
      have hnk2 : ¬ k ≤ (n : Int) := by omega
      go_quiet (fail)
      rename_i nq
      obtain ⟨W1, hW1⟩ : ∃ W1, W1 = V.drewN nq := ⟨_, rfl⟩
      have KW := hideT (show Kept (fun _ => False) V W1 by rw [hW1]; exact gw_kept ((Gw.refl V).drewN nq))
      rw [← hW1]
      clear hW1 hnk2
      go_wp2
      go_loopw [8, 9, 10] (fun s8 s9 s10 wr => ∃ (j n8 : Nat) (a8 : Option Addr) (c8 : Nat) (pb : Bool), j ≤ n ∧ s10 = .int .i64 j ∧ s9 = .bool pb ∧ s8 = .slice a8 n8 c8 ∧ Hid (pb = (insP h K j).2) ∧ Hid (n8 = (insP h K j).1.length) ∧ Hid (RowH V.heap.size wr (.slice a8 n8 c8) (insP h K j).1) ∧ Hid (Kept (fun _ => False) V wr)) (fun _ _ s10 _ => n - (intOf s10).toNat)
      case atStart => exact ⟨0, 0, none, 0, false, by omega, by go_num, rfl, rfl, hideT rfl, hideT rfl, hideT ⟨rfl, .inl ⟨rfl, rfl⟩⟩, KW⟩
      case round =>
        obtain ⟨j, n8, a8, c8, pb, hj, rfl, rfl, rfl, HPB, HN8, HR8, HKwr⟩ := hrel
        have HLN := hideT (insP_len h K j)
        by_cases hlt : j < n
        · have hjl : j < K.length := by rw [← HN.out]; exact hlt
          have hji : (j : Int) < (n : Int) := by omega
          obtain ⟨gb, go, hae, hc⟩ := (HA.out.same HV.out) (by intro e; rw [e] at hjl; simp at hjl)
          subst hae
          obtain ⟨x0, x1⟩ := hc j hjl
          obtain ⟨y, hy⟩ : ∃ y, y = K[j] := ⟨_, rfl⟩
          rw [← hy] at x0 x1
          have HST := hideT (insP_step (h := h) (show K[j]? = some y by rw [List.getElem?_eq_getElem hjl, hy]))
          rw [← HPB.out] at HST
          obtain ⟨P, hP⟩ : ∃ P, P = (insP h K j).1 := ⟨_, rfl⟩
          rw [← hP] at HST HN8 HR8 HLN
          have HYV := hideT (And.intro x0 x1)
          have HY2 := hideT (And.intro (HKwr.out.cell x0 (fun f => f)) (HKwr.out.cell x1 (fun f => f)))
          have HHW := hideT (And.intro (HKwr.out.cell HH.out.1 (fun f => f)) (HKwr.out.cell HH.out.2 (fun f => f)))
          have HL8 := hideT (show P.length + 2 ≤ 8796093022208 by have := HLN.out.1; omega)
          have BJ := hideT (fun W => BT.out y W)
          clear hc hy hP x0 x1
          cases pb with
          | true =>
            have HST2 := hideT (show insP h K (j + 1) = (P ++ [y], true) from by rw [HST.out]; rfl)
            go_upto_region 8 with fail
            go_quiet (fail)
            generalize hW2 : World.drewN wr _ = W2
            have HKW2 := hideT (show Kept (fun _ => False) V W2 by rw [← hW2]; exact HKwr.out.trans (gw_kept ((Gw.refl wr).drewN _)) (fun _ f => f.elim))
            have HRA := hideT (show RowH V.heap.size W2 (.slice a8 n8 c8) P by rw [← hW2]; exact HR8.out.same (gw_kept ((Gw.refl wr).drewN _)) (fun _ _ f => f))
            clear hW2
            have x0 := HKW2.out.cell HYV.out.1 (fun f => f)
            have x1 := HKW2.out.cell HYV.out.2 (fun f => f)
            have h0 := HKW2.out.cell HH.out.1 (fun f => f)
            have h1 := HKW2.out.cell HH.out.2 (fun f => f)
            obtain ⟨n3, hn3⟩ : ∃ q, q = (P).length + 1 := ⟨_, rfl⟩
            have Hn3 := hideT hn3
            clear hn3
            have HB3 := hideT (show V.heap.size ≤ W2.heap.size from HKW2.out.size)
            go_upto_region 11 with fail
            go_upto_region 7 with (refine wpList_pushT (B := V.heap.size) (W := W2) rfl _ _ rfl (.slice a8 n8 c8) (P) y y.1 y.2 rfl HRA W2.heap.size rfl rfl (hideT ⟨rfl, rfl⟩) HB3 (hideT (by have := HL8.out; (try simp only [List.length_append, List.length_cons, List.length_nil]); omega)) ?_; intro g3 c3 W3 hR3 hK3 hG3; rw [← Hn3.out] at hR3 ⊢)
            have HKW3 := hideT (HKW2.out.trans hK3.out (fun i hi => .inr (World.ownsRow.lt HRA.out i hi).1))
            have HPB2 := hideT (show true = (insP h K (j + 1)).2 by rw [HST2.out])
            have HP2 := hideT (show n3 = (insP h K (j + 1)).1.length by rw [HST2.out, Hn3.out]; simp)
            have HR2 := hideT (show RowH V.heap.size _ (.slice (some ⟨g3, 0, none⟩) n3 c3) (insP h K (j + 1)).1 by rw [HST2.out]; simpa using hR3.out)
            go_wp2
            go_round
            case rel => exact ⟨j + 1, n3, some ⟨g3, 0, none⟩, c3, true, by omega, by go_num, rfl, rfl, HPB2, HP2, HR2, HKW3⟩
            case measure => simp [intOf]; omega
          | false =>
            by_cases hb : Bt h y
            · have HST2 := hideT (show insP h K (j + 1) = (P ++ [h, y], true) from by rw [HST.out, if_neg (by simp), if_pos hb])
              rw [decide_eq_true hb] at BJ
              go_upto_region 8 with fail
              have S0 : Gw wr wr.drew := (Gw.refl wr).drew
              refine wp_region_held (S := fun W' => Gw wr W') (by kernel_rfl) ?_
              change wpAnyH _ _ _ _ _ _ _ _ (World.drew _)
              refine wpAnyH_take (i := 0) (v := .bool false) rfl (by kernel_rfl) (by kernel_rfl) (by kernel_rfl) (fun _ _ _ h => h) (Or.inl ⟨by kernel_rfl, fun W' hW => ?_⟩) S0 ?_
              · go_simp
              refine wpAnyH_take (i := 1) (v := .bool true) rfl (by kernel_rfl) (by kernel_rfl) (by kernel_rfl) (fun _ _ _ h => h) (Or.inl ⟨by kernel_rfl, fun W' hW => ?_⟩) S0 ?_
              · go_simp
              refine wpAnyH_take (i := 2) (v := .bool true) rfl (by kernel_rfl) (by kernel_rfl) (by kernel_rfl) (fun _ _ _ h => h) (Or.inl ⟨by kernel_rfl, fun W' hW => ?_⟩) S0 ?_
              · go_simp
              refine wpAnyH_take (i := 3) (v := .agg #[.int .i64 h.1, .int .u64 h.2]) rfl (by kernel_rfl) (by kernel_rfl) (by kernel_rfl) (fun _ _ _ h => h) (Or.inl ⟨by kernel_rfl, fun W' hW => ?_⟩) S0 ?_
              · exact load_hit (x := .tmp 4) (b := bh) (off := 0) (y := h) rfl (by go_simp) ((gw_kept hW).cell HHW.out.1 (fun f => f)) ((gw_kept hW).cell HHW.out.2 (fun f => f))
              refine wpAnyH_take (i := 4) (v := .slice (some ⟨gb, go, none⟩) n c) rfl (by kernel_rfl) (by kernel_rfl) (by kernel_rfl) (fun _ _ _ h => h) (Or.inl ⟨by kernel_rfl, fun W' hW => ?_⟩) S0 ?_
              · go_simp
              refine wpAnyH_take (i := 5) (v := .int .i64 (j : Nat)) rfl (by kernel_rfl) (by kernel_rfl) (by kernel_rfl) (fun _ _ _ h => h) (Or.inl ⟨by kernel_rfl, fun W' hW => ?_⟩) S0 ?_
              · go_simp
              refine wpAnyH_take (i := 6) (v := .pointer (some ⟨gb, go + j * 2, none⟩)) rfl (by kernel_rfl) (by kernel_rfl) (by kernel_rfl) (fun _ _ _ h => h) (Or.inl ⟨by kernel_rfl, fun W' hW => ?_⟩) S0 ?_
              · go_simp
                all_goals (intro hh; omega)
              refine wpAnyH_take (i := 7) (v := .agg #[.int .i64 y.1, .int .u64 y.2]) rfl (by kernel_rfl) (by kernel_rfl) (by kernel_rfl) (fun _ _ _ h => h) (Or.inl ⟨by kernel_rfl, fun W' hW => ?_⟩) S0 ?_
              · exact load_hit (x := .tmp 43) (b := gb) (off := go + j * 2) (y := y) rfl (by go_simp) ((gw_kept hW).cell HY2.out.1 (fun f => f)) ((gw_kept hW).cell HY2.out.2 (fun f => f))
              refine wpAnyH_all (rs := [8]) (by kernel_rfl) (by simp) ?_
              intro i hi
              obtain rfl : i = 8 := by simpa using hi
              have E8 := hideT (BJ.out wr.drew)
              unfold wpOp
              go_simp
              first | refine E8.out.mono ?_ | refine Or.inl (E8.out.mono ?_)
              rintro e W2 ⟨rfl, h5⟩
              have h5 := S0.trans h5
              first | refine ⟨h5, ?_⟩ | refine Or.inl ⟨h5, ?_⟩
              refine wpAnyH_all (rs := [9]) (by kernel_rfl) (by simp) ?_
              intro i hi
              obtain rfl : i = 9 := by simpa using hi
              unfold wpOp
              go_simp
              first | (change wpAnyH _ _ _ _ _ _ _ _ _) | (refine Or.inl ?_; change wpAnyH _ _ _ _ _ _ _ _ _) | refine Or.inl ⟨h5, ?_⟩ | refine ⟨h5, ?_⟩
              refine wpAnyH_done (by kernel_rfl) ?_ _
              have HKW2 := hideT (HKwr.out.trans (gw_kept h5) (fun _ f => f.elim))
              have HRA := hideT (HR8.out.same (gw_kept h5) (fun _ _ f => f) : RowH V.heap.size W2 (.slice a8 n8 c8) P)
              clear h5 S0
              have x0 := HKW2.out.cell HYV.out.1 (fun f => f)
              have x1 := HKW2.out.cell HYV.out.2 (fun f => f)
              have h0 := HKW2.out.cell HH.out.1 (fun f => f)
              have h1 := HKW2.out.cell HH.out.2 (fun f => f)
              obtain ⟨n3, hn3⟩ : ∃ q, q = (P).length + 1 := ⟨_, rfl⟩
              have Hn3 := hideT hn3
              clear hn3
              have HB3 := hideT (show V.heap.size ≤ W2.heap.size from HKW2.out.size)
              go_upto_region 9 with fail
              go_upto_region 10 with (refine wpList_pushT (B := V.heap.size) (W := W2) rfl _ _ rfl (.slice a8 n8 c8) (P) h h.1 h.2 rfl HRA W2.heap.size rfl rfl (hideT ⟨rfl, rfl⟩) HB3 (hideT (by have := HL8.out; (try simp only [List.length_append, List.length_cons, List.length_nil]); omega)) ?_; intro g3 c3 W3 hR3 hK3 hG3; rw [← Hn3.out] at hR3 ⊢)
              have HKW3 := hideT (HKW2.out.trans hK3.out (fun i hi => .inr (World.ownsRow.lt HRA.out i hi).1))
              clear x0 x1 h0 h1
              have x0 := HKW3.out.cell HYV.out.1 (fun f => f)
              have x1 := HKW3.out.cell HYV.out.2 (fun f => f)
              have h0 := HKW3.out.cell HH.out.1 (fun f => f)
              have h1 := HKW3.out.cell HH.out.2 (fun f => f)
              obtain ⟨n4, hn4⟩ : ∃ q, q = (P ++ [h]).length + 1 := ⟨_, rfl⟩
              have Hn4 := hideT hn4
              clear hn4
              have HB4 := hideT (show V.heap.size ≤ W3.heap.size from HKW3.out.size)
              go_upto_region 11 with fail
              go_upto_region 7 with (refine wpList_pushT (B := V.heap.size) (W := W3) rfl _ _ rfl (.slice (some ⟨g3, 0, none⟩) n3 c3) (P ++ [h]) y y.1 y.2 rfl hR3 W3.heap.size rfl rfl (hideT ⟨rfl, rfl⟩) HB4 (hideT (by have := HL8.out; (try simp only [List.length_append, List.length_cons, List.length_nil]); omega)) ?_; intro g4 c4 W4 hR4 hK4 hG4; rw [← Hn4.out] at hR4 ⊢)
              have HKW4 := hideT (HKW3.out.trans hK4.out (fun i hi => .inr (World.ownsRow.lt hR3.out i hi).1))
              have HPB2 := hideT (show true = (insP h K (j + 1)).2 by rw [HST2.out])
              have HP2 := hideT (show n4 = (insP h K (j + 1)).1.length by rw [HST2.out, Hn4.out]; simp)
              have HR2 := hideT (show RowH V.heap.size _ (.slice (some ⟨g4, 0, none⟩) n4 c4) (insP h K (j + 1)).1 by rw [HST2.out]; simpa using hR4.out)
              go_wp2
              go_round
              case rel => exact ⟨j + 1, n4, some ⟨g4, 0, none⟩, c4, true, by omega, by go_num, rfl, rfl, HPB2, HP2, HR2, HKW4⟩
              case measure => simp [intOf]; omega
            · have HST2 := hideT (show insP h K (j + 1) = (P ++ [y], false) from by rw [HST.out, if_neg (by simp), if_neg hb])
              rw [decide_eq_false hb] at BJ
              go_upto_region 8 with fail
              have S0 : Gw wr wr.drew := (Gw.refl wr).drew
              refine wp_region_held (S := fun W' => Gw wr W') (by kernel_rfl) ?_
              change wpAnyH _ _ _ _ _ _ _ _ (World.drew _)
              refine wpAnyH_take (i := 0) (v := .bool false) rfl (by kernel_rfl) (by kernel_rfl) (by kernel_rfl) (fun _ _ _ h => h) (Or.inl ⟨by kernel_rfl, fun W' hW => ?_⟩) S0 ?_
              · go_simp
              refine wpAnyH_take (i := 1) (v := .bool true) rfl (by kernel_rfl) (by kernel_rfl) (by kernel_rfl) (fun _ _ _ h => h) (Or.inl ⟨by kernel_rfl, fun W' hW => ?_⟩) S0 ?_
              · go_simp
              refine wpAnyH_take (i := 2) (v := .bool true) rfl (by kernel_rfl) (by kernel_rfl) (by kernel_rfl) (fun _ _ _ h => h) (Or.inl ⟨by kernel_rfl, fun W' hW => ?_⟩) S0 ?_
              · go_simp
              refine wpAnyH_take (i := 3) (v := .agg #[.int .i64 h.1, .int .u64 h.2]) rfl (by kernel_rfl) (by kernel_rfl) (by kernel_rfl) (fun _ _ _ h => h) (Or.inl ⟨by kernel_rfl, fun W' hW => ?_⟩) S0 ?_
              · exact load_hit (x := .tmp 4) (b := bh) (off := 0) (y := h) rfl (by go_simp) ((gw_kept hW).cell HHW.out.1 (fun f => f)) ((gw_kept hW).cell HHW.out.2 (fun f => f))
              refine wpAnyH_take (i := 4) (v := .slice (some ⟨gb, go, none⟩) n c) rfl (by kernel_rfl) (by kernel_rfl) (by kernel_rfl) (fun _ _ _ h => h) (Or.inl ⟨by kernel_rfl, fun W' hW => ?_⟩) S0 ?_
              · go_simp
              refine wpAnyH_take (i := 5) (v := .int .i64 (j : Nat)) rfl (by kernel_rfl) (by kernel_rfl) (by kernel_rfl) (fun _ _ _ h => h) (Or.inl ⟨by kernel_rfl, fun W' hW => ?_⟩) S0 ?_
              · go_simp
              refine wpAnyH_take (i := 6) (v := .pointer (some ⟨gb, go + j * 2, none⟩)) rfl (by kernel_rfl) (by kernel_rfl) (by kernel_rfl) (fun _ _ _ h => h) (Or.inl ⟨by kernel_rfl, fun W' hW => ?_⟩) S0 ?_
              · go_simp
                all_goals (intro hh; omega)
              refine wpAnyH_take (i := 7) (v := .agg #[.int .i64 y.1, .int .u64 y.2]) rfl (by kernel_rfl) (by kernel_rfl) (by kernel_rfl) (fun _ _ _ h => h) (Or.inl ⟨by kernel_rfl, fun W' hW => ?_⟩) S0 ?_
              · exact load_hit (x := .tmp 43) (b := gb) (off := go + j * 2) (y := y) rfl (by go_simp) ((gw_kept hW).cell HY2.out.1 (fun f => f)) ((gw_kept hW).cell HY2.out.2 (fun f => f))
              refine wpAnyH_all (rs := [8]) (by kernel_rfl) (by simp) ?_
              intro i hi
              obtain rfl : i = 8 := by simpa using hi
              have E8 := hideT (BJ.out wr.drew)
              unfold wpOp
              go_simp
              first | refine E8.out.mono ?_ | refine Or.inl (E8.out.mono ?_)
              rintro e W2 ⟨rfl, h5⟩
              have h5 := S0.trans h5
              first | refine ⟨h5, ?_⟩ | refine Or.inl ⟨h5, ?_⟩
              refine wpAnyH_all (rs := [9]) (by kernel_rfl) (by simp) ?_
              intro i hi
              obtain rfl : i = 9 := by simpa using hi
              unfold wpOp
              go_simp
              first | (change wpAnyH _ _ _ _ _ _ _ _ _) | (refine Or.inl ?_; change wpAnyH _ _ _ _ _ _ _ _ _) | refine Or.inl ⟨h5, ?_⟩ | refine ⟨h5, ?_⟩
              refine wpAnyH_done (by kernel_rfl) ?_ _
              have HKW2 := hideT (HKwr.out.trans (gw_kept h5) (fun _ f => f.elim))
              have HRA := hideT (HR8.out.same (gw_kept h5) (fun _ _ f => f) : RowH V.heap.size W2 (.slice a8 n8 c8) P)
              clear h5 S0
              have x0 := HKW2.out.cell HYV.out.1 (fun f => f)
              have x1 := HKW2.out.cell HYV.out.2 (fun f => f)
              have h0 := HKW2.out.cell HH.out.1 (fun f => f)
              have h1 := HKW2.out.cell HH.out.2 (fun f => f)
              obtain ⟨n3, hn3⟩ : ∃ q, q = (P).length + 1 := ⟨_, rfl⟩
              have Hn3 := hideT hn3
              clear hn3
              have HB3 := hideT (show V.heap.size ≤ W2.heap.size from HKW2.out.size)
              go_upto_region 11 with fail
              go_upto_region 7 with (refine wpList_pushT (B := V.heap.size) (W := W2) rfl _ _ rfl (.slice a8 n8 c8) (P) y y.1 y.2 rfl HRA W2.heap.size rfl rfl (hideT ⟨rfl, rfl⟩) HB3 (hideT (by have := HL8.out; (try simp only [List.length_append, List.length_cons, List.length_nil]); omega)) ?_; intro g3 c3 W3 hR3 hK3 hG3; rw [← Hn3.out] at hR3 ⊢)
              have HKW3 := hideT (HKW2.out.trans hK3.out (fun i hi => .inr (World.ownsRow.lt HRA.out i hi).1))
              have HPB2 := hideT (show false = (insP h K (j + 1)).2 by rw [HST2.out])
              have HP2 := hideT (show n3 = (insP h K (j + 1)).1.length by rw [HST2.out, Hn3.out]; simp)
              have HR2 := hideT (show RowH V.heap.size _ (.slice (some ⟨g3, 0, none⟩) n3 c3) (insP h K (j + 1)).1 by rw [HST2.out]; simpa using hR3.out)
              go_wp2
              go_round
              case rel => exact ⟨j + 1, n3, some ⟨g3, 0, none⟩, c3, false, by omega, by go_num, rfl, rfl, HPB2, HP2, HR2, HKW3⟩
              case measure => simp [intOf]; omega
        · obtain rfl : j = n := by omega
          have HEND := hideT (insP_end h K)
          rw [← HN.out, ← HPB.out] at HEND
          have HL8 := hideT (show (insP h K j).1.length + 2 ≤ 8796093022208 by have := HLN.out.1; omega)
          have h0 := HKwr.out.cell HH.out.1 (fun f => f)
          have h1 := HKwr.out.cell HH.out.2 (fun f => f)
          cases pb with
          | true =>
            have HE := hideT (show (insP h K j).1 = ins h K by have := HEND.out; simpa using this)
            rw [HE.out] at HR8 HN8
            have HNN := hideT (show n8 = j + 1 by rw [HN8.out, ins_len, ← HN.out])
            clear h0 h1
            have hcap := HR8.out.cap
            have hil := ins_len h K
            rw [← HN.out] at hil
            have hnn := HNN.out
            by_cases hgt : k < (n8 : Int)
            · have hd := head_hits (k := k.toNat) HR8.out.hs (show n8 = (ins h K).length by rw [hil]; exact hnn) hcap (by omega)
              have hs6 := hd.1
              rw [show ((k.toNat : Nat) : Int) = k by omega] at hs6
              have HD2 := hideT hd.2
              have hRl : k.toNat = R.length := by rw [HR.out]; unfold off; rw [List.length_take, hil]; omega
              have HRL := hideT hRl
              have HOWN := hideT (show ∀ b o, (a8 : Option Addr) = some ⟨b, o, none⟩ → w.heap.size ≤ b from fun b o e => by have h1 := HR8.out; rw [e] at h1; rcases h1.2 with ⟨e1, _⟩ | ⟨g, cap, cur, e1, hg, _⟩; cases e1; simp only [Value.slice.injEq, Option.some.injEq, Addr.mk.injEq] at e1; have := HV.out.size; omega)
              clear hd hcap hil hRl hnn
              go_wp2
              go_ret2
              rw [HFB.out, ← HRL.out]
              first | exact ⟨a8, ⟨c8, rfl⟩, by rw [HR.out]; exact HD2.out, HV.out.trans HKwr.out (fun _ f => f.elim), .inr HOWN.out⟩ | exact ⟨a8, c8, rfl, by rw [HR.out]; exact HD2.out, HV.out.trans HKwr.out (fun _ f => f.elim), .inr HOWN.out⟩
            · have hRe : R = ins h K := by rw [HR.out]; unfold off; rw [List.take_of_length_le (by rw [hil]; omega)]
              have HRE := hideT hRe
              have HOWN := hideT (show ∀ b o, (a8 : Option Addr) = some ⟨b, o, none⟩ → w.heap.size ≤ b from fun b o e => by have h1 := HR8.out; rw [e] at h1; rcases h1.2 with ⟨e1, _⟩ | ⟨g, cap, cur, e1, hg, _⟩; cases e1; simp only [Value.slice.injEq, Option.some.injEq, Addr.mk.injEq] at e1; have := HV.out.size; omega)
              have HRL := hideT (show n8 = R.length by rw [hRe, hil]; exact hnn)
              clear hcap hil hRe hnn
              go_wp2
              go_ret2
              rw [HFB.out, ← HRL.out]
              first | exact ⟨a8, ⟨c8, rfl⟩, by rw [HRE.out]; exact HR8.out.hs, HV.out.trans HKwr.out (fun _ f => f.elim), .inr HOWN.out⟩ | exact ⟨a8, c8, rfl, by rw [HRE.out]; exact HR8.out.hs, HV.out.trans HKwr.out (fun _ f => f.elim), .inr HOWN.out⟩
          | false =>
            have HE := hideT (show (insP h K j).1 ++ [h] = ins h K by have := HEND.out; simpa using this)
            obtain ⟨n3, hn3⟩ : ∃ q, q = ((insP h K j).1).length + 1 := ⟨_, rfl⟩
            have Hn3 := hideT hn3
            clear hn3
            have HB3 := hideT (show V.heap.size ≤ wr.heap.size from HKwr.out.size)
            go_upto_region 13 with fail
            go_upto_region 14 with (refine wpList_pushT (B := V.heap.size) (W := wr) rfl _ _ rfl (.slice a8 n8 c8) ((insP h K j).1) h h.1 h.2 rfl HR8 wr.heap.size rfl rfl (hideT ⟨rfl, rfl⟩) HB3 (hideT (by have := HL8.out; (try simp only [List.length_append, List.length_cons, List.length_nil]); omega)) ?_; intro g3 c3 W3 hR3 hK3 hG3; rw [← Hn3.out] at hR3 ⊢)
            have HKW3 := hideT (HKwr.out.trans hK3.out (fun i hi => .inr (World.ownsRow.lt HR8.out i hi).1))
            rw [HE.out] at hR3
            have HNN := hideT (show n3 = j + 1 by rw [Hn3.out, ← HN8.out]; have h1 := ins_len h K; rw [← HE.out, List.length_append, ← HN8.out, ← HN.out] at h1; simp at h1; omega)
            clear h0 h1
            have hcap := hR3.out.cap
            have hil := ins_len h K
            rw [← HN.out] at hil
            have hnn := HNN.out
            by_cases hgt : k < (n3 : Int)
            · have hd := head_hits (k := k.toNat) hR3.out.hs (show n3 = (ins h K).length by rw [hil]; exact hnn) hcap (by omega)
              have hs6 := hd.1
              rw [show ((k.toNat : Nat) : Int) = k by omega] at hs6
              have HD2 := hideT hd.2
              have hRl : k.toNat = R.length := by rw [HR.out]; unfold off; rw [List.length_take, hil]; omega
              have HRL := hideT hRl
              have HOWN := hideT (show ∀ b o, ((some ⟨g3, 0, none⟩) : Option Addr) = some ⟨b, o, none⟩ → w.heap.size ≤ b from fun b o e => by simp only [Option.some.injEq, Addr.mk.injEq] at e; have := (World.ownsRow.lt hR3.out g3 rfl).1; have := HV.out.size; omega)
              clear hd hcap hil hRl hnn
              go_wp2
              go_ret2
              rw [HFB.out, ← HRL.out]
              first | exact ⟨(some ⟨g3, 0, none⟩), ⟨c3, rfl⟩, by rw [HR.out]; exact HD2.out, HV.out.trans HKW3.out (fun _ f => f.elim), .inr HOWN.out⟩ | exact ⟨(some ⟨g3, 0, none⟩), c3, rfl, by rw [HR.out]; exact HD2.out, HV.out.trans HKW3.out (fun _ f => f.elim), .inr HOWN.out⟩
            · have hRe : R = ins h K := by rw [HR.out]; unfold off; rw [List.take_of_length_le (by rw [hil]; omega)]
              have HRE := hideT hRe
              have HOWN := hideT (show ∀ b o, ((some ⟨g3, 0, none⟩) : Option Addr) = some ⟨b, o, none⟩ → w.heap.size ≤ b from fun b o e => by simp only [Option.some.injEq, Addr.mk.injEq] at e; have := (World.ownsRow.lt hR3.out g3 rfl).1; have := HV.out.size; omega)
              have HRL := hideT (show n3 = R.length by rw [hRe, hil]; exact hnn)
              clear hcap hil hRe hnn
              go_wp2
              go_ret2
              rw [HFB.out, ← HRL.out]
              first | exact ⟨(some ⟨g3, 0, none⟩), ⟨c3, rfl⟩, by rw [HRE.out]; exact hR3.out.hs, HV.out.trans HKW3.out (fun _ f => f.elim), .inr HOWN.out⟩ | exact ⟨(some ⟨g3, 0, none⟩), c3, rfl, by rw [HRE.out]; exact hR3.out.hs, HV.out.trans HKW3.out (fun _ f => f.elim), .inr HOWN.out⟩
    · have hnk2 : k ≤ (n : Int) := by omega
      have hkn : k.toNat = n := by omega
      have hn0 : 0 < n := by omega
      obtain ⟨gb, go, hae, hc⟩ := HA.out (by intro e; have := HN.out; rw [e] at this; simp at this; omega)
      obtain ⟨q, hq⟩ : ∃ q, q = n - 1 := ⟨_, rfl⟩
      have hqK : q < K.length := by rw [← HN.out]; omega
      obtain ⟨y, hy⟩ : ∃ y, y = K[q] := ⟨_, rfl⟩
      obtain ⟨x0, x1⟩ := hc q hqK
      rw [← hy] at x0 x1
      have HY := hideT (And.intro (HV.out.cell x0 (fun f => f)) (HV.out.cell x1 (fun f => f)))
      have hgl : K.getLast? = some y := by
        rw [List.getLast?_eq_getElem?, List.getElem?_eq_getElem (by rw [← HN.out]; omega), hy]
        congr 2
        rw [← HN.out, hq]
      have HGL := hideT hgl
      have eq1 : (n : Int) - 1 = (q : Int) := by omega
      have hqn : (q : Int) < (n : Int) := by omega
      have hqb : q ≤ 8796093021952 := by omega
      obtain ⟨r, hr⟩ : ∃ r, r = decide (Bt h y) := ⟨_, rfl⟩
      have HRB := hideT hr
      have BY := hideT (fun W => BT.out y W)
      rw [← hr] at BY
      have hKne : K ≠ [] := by intro e; rw [e] at hqK; simp at hqK
      have HOF := hideT (show ob = r from by rw [HOB.out, hr]; unfold offB; rw [hgl, ← HN.out]; simp [hnk, hKne])
      have HNOT := hideT (show r = false → R = K from fun e => by rw [HR.out]; rw [e] at hr; exact off_not HS.out (by rw [← HN.out, hkn]) hgl (of_decide_eq_false hr.symm))
      subst hae
      clear hc x0 x1 hy hgl hr hKne hq hqK
      have S0 : Gw V V.drew := (Gw.refl V).drew
      refine wp_region_held (S := fun W' => Gw V W') (by kernel_rfl) ?_
      change wpAnyH _ _ _ _ _ _ _ _ (World.drew _)
      refine wpAnyH_take (i := 0) (v := .int .i64 k) rfl (by kernel_rfl) (by kernel_rfl) (by kernel_rfl) (fun _ _ _ h => h) (Or.inl ⟨by kernel_rfl, fun W' hW => ?_⟩) S0 ?_
      · go_simp
      refine wpAnyH_take (i := 1) (v := .bool false) rfl (by kernel_rfl) (by kernel_rfl) (by kernel_rfl) (fun _ _ _ h => h) (Or.inl ⟨by kernel_rfl, fun W' hW => ?_⟩) S0 ?_
      · go_simp
      refine wpAnyH_take (i := 2) (v := .bool false) rfl (by kernel_rfl) (by kernel_rfl) (by kernel_rfl) (fun _ _ _ h => h) (Or.inl ⟨by kernel_rfl, fun W' hW => ?_⟩) S0 ?_
      · go_simp
      refine wpAnyH_take (i := 3) (v := .slice (some ⟨gb, go, none⟩) n c) rfl (by kernel_rfl) (by kernel_rfl) (by kernel_rfl) (fun _ _ _ h => h) (Or.inl ⟨by kernel_rfl, fun W' hW => ?_⟩) S0 ?_
      · go_simp
      refine wpAnyH_take (i := 4) (v := .int .i64 n) rfl (by kernel_rfl) (by kernel_rfl) (by kernel_rfl) (fun _ _ _ h => h) (Or.inl ⟨by kernel_rfl, fun W' hW => ?_⟩) S0 ?_
      · go_simp
      refine wpAnyH_take (i := 5) (v := .int .i64 k) rfl (by kernel_rfl) (by kernel_rfl) (by kernel_rfl) (fun _ _ _ h => h) (Or.inl ⟨by kernel_rfl, fun W' hW => ?_⟩) S0 ?_
      · go_simp
      refine wpAnyH_take (i := 6) (v := .bool true) rfl (by kernel_rfl) (by kernel_rfl) (by kernel_rfl) (fun _ _ _ h => h) (Or.inl ⟨by kernel_rfl, fun W' hW => ?_⟩) S0 ?_
      · go_simp
      refine wpAnyH_take (i := 7) (v := .bool true) rfl (by kernel_rfl) (by kernel_rfl) (by kernel_rfl) (fun _ _ _ h => h) (Or.inl ⟨by kernel_rfl, fun W' hW => ?_⟩) S0 ?_
      · go_simp
      refine wpAnyH_take (i := 8) (v := .agg #[.int .i64 h.1, .int .u64 h.2]) rfl (by kernel_rfl) (by kernel_rfl) (by kernel_rfl) (fun _ _ _ h => h) (Or.inl ⟨by kernel_rfl, fun W' hW => ?_⟩) S0 ?_
      · exact load_hit (x := .tmp 4) (b := bh) (off := 0) (y := h) rfl (by go_simp) ((gw_kept hW).cell HH.out.1 (fun f => f)) ((gw_kept hW).cell HH.out.2 (fun f => f))
      refine wpAnyH_take (i := 9) (v := .slice (some ⟨gb, go, none⟩) n c) rfl (by kernel_rfl) (by kernel_rfl) (by kernel_rfl) (fun _ _ _ h => h) (Or.inl ⟨by kernel_rfl, fun W' hW => ?_⟩) S0 ?_
      · go_simp
      refine wpAnyH_take (i := 10) (v := .slice (some ⟨gb, go, none⟩) n c) rfl (by kernel_rfl) (by kernel_rfl) (by kernel_rfl) (fun _ _ _ h => h) (Or.inl ⟨by kernel_rfl, fun W' hW => ?_⟩) S0 ?_
      · go_simp
      refine wpAnyH_take (i := 11) (v := .int .i64 n) rfl (by kernel_rfl) (by kernel_rfl) (by kernel_rfl) (fun _ _ _ h => h) (Or.inl ⟨by kernel_rfl, fun W' hW => ?_⟩) S0 ?_
      · go_simp
      refine wpAnyH_take (i := 12) (v := .int .i64 (q : Nat)) rfl (by kernel_rfl) (by kernel_rfl) (by kernel_rfl) (fun _ _ _ h => h) (Or.inl ⟨by kernel_rfl, fun W' hW => ?_⟩) S0 ?_
      · go_simp
        try (simp [IntKind.wrap, IntKind.bits, IntKind.signed]; omega)
      refine wpAnyH_take (i := 13) (v := .pointer (some ⟨gb, go + q * 2, none⟩)) rfl (by kernel_rfl) (by kernel_rfl) (by kernel_rfl) (fun _ _ _ h => h) (Or.inl ⟨by kernel_rfl, fun W' hW => ?_⟩) S0 ?_
      · go_simp
        all_goals (intro hh; omega)
      refine wpAnyH_take (i := 14) (v := .agg #[.int .i64 y.1, .int .u64 y.2]) rfl (by kernel_rfl) (by kernel_rfl) (by kernel_rfl) (fun _ _ _ h => h) (Or.inl ⟨by kernel_rfl, fun W' hW => ?_⟩) S0 ?_
      · exact load_hit (x := .tmp 24) (b := gb) (off := go + q * 2) (y := y) rfl (by go_simp) ((gw_kept hW).cell HY.out.1 (fun f => f)) ((gw_kept hW).cell HY.out.2 (fun f => f))
      refine wpAnyH_all (rs := [15]) (by kernel_rfl) (by simp) ?_
      intro i hi
      obtain rfl : i = 15 := by simpa using hi
      have E15 := hideT (BY.out V.drew)
      unfold wpOp
      go_simp
      first | refine E15.out.mono ?_ | refine Or.inl (E15.out.mono ?_)
      rintro e W1 ⟨rfl, h5⟩
      have h5 := S0.trans h5
      first | refine ⟨h5, ?_⟩ | refine Or.inl ⟨h5, ?_⟩
      refine wpAnyH_all (rs := [16]) (by kernel_rfl) (by simp) ?_
      intro i hi
      obtain rfl : i = 16 := by simpa using hi
      unfold wpOp
      go_simp
      first | (change wpAnyH _ _ _ _ _ _ _ _ _) | (refine Or.inl ?_; change wpAnyH _ _ _ _ _ _ _ _ _) | refine Or.inl ⟨h5, ?_⟩ | refine ⟨h5, ?_⟩
      refine wpAnyH_all (rs := [17]) (by kernel_rfl) (by simp) ?_
      intro i hi
      obtain rfl : i = 17 := by simpa using hi
      unfold wpOp
      go_simp
      first | (change wpAnyH _ _ _ _ _ _ _ _ _) | (refine Or.inl ?_; change wpAnyH _ _ _ _ _ _ _ _ _) | refine Or.inl ⟨h5, ?_⟩ | refine ⟨h5, ?_⟩
      refine wpAnyH_all (rs := [18]) (by kernel_rfl) (by simp) ?_
      intro i hi
      obtain rfl : i = 18 := by simpa using hi
      unfold wpOp
      go_simp
      first | (change wpAnyH _ _ _ _ _ _ _ _ _) | (refine Or.inl ?_; change wpAnyH _ _ _ _ _ _ _ _ _) | refine Or.inl ⟨h5, ?_⟩ | refine ⟨h5, ?_⟩
      refine wpAnyH_done (by kernel_rfl) ?_ _
      have KW := hideT (gw_kept h5)
      clear h5 S0
      cases r with
      | false =>
        go_wp2
        go_ret2
        rw [HNOT.out (by trivial), HOF.out]
        exact ⟨some ⟨gb, go, none⟩, ⟨c, by rw [← HN.out]; rfl⟩, HA.out.same (HV.out.trans KW.out (fun _ f => f.elim)), HV.out.trans KW.out (fun _ f => f.elim), .inl rfl⟩
      | true =>
        have HFB := hideT HOF.out
        clear HNOT hkn
        go_wp2
        go_loopw [8, 9, 10] (fun s8 s9 s10 wr => ∃ (j n8 : Nat) (a8 : Option Addr) (c8 : Nat) (pb : Bool), j ≤ n ∧ s10 = .int .i64 j ∧ s9 = .bool pb ∧ s8 = .slice a8 n8 c8 ∧ Hid (pb = (insP h K j).2) ∧ Hid (n8 = (insP h K j).1.length) ∧ Hid (RowH V.heap.size wr (.slice a8 n8 c8) (insP h K j).1) ∧ Hid (Kept (fun _ => False) V wr)) (fun _ _ s10 _ => n - (intOf s10).toNat)
        case atStart => exact ⟨0, 0, none, 0, false, by omega, by go_num, rfl, rfl, hideT rfl, hideT rfl, hideT ⟨rfl, .inl ⟨rfl, rfl⟩⟩, KW⟩
        case round =>
          obtain ⟨j, n8, a8, c8, pb, hj, rfl, rfl, rfl, HPB, HN8, HR8, HKwr⟩ := hrel
          have HLN := hideT (insP_len h K j)
          by_cases hlt : j < n
          · have hjl : j < K.length := by rw [← HN.out]; exact hlt
            have hji : (j : Int) < (n : Int) := by omega
            obtain ⟨gb, go, hae, hc⟩ := (HA.out.same HV.out) (by intro e; rw [e] at hjl; simp at hjl)
            simp only [Option.some.injEq, Addr.mk.injEq, and_true] at hae
            obtain ⟨rfl, rfl⟩ := hae
            obtain ⟨x0, x1⟩ := hc j hjl
            obtain ⟨y, hy⟩ : ∃ y, y = K[j] := ⟨_, rfl⟩
            rw [← hy] at x0 x1
            have HST := hideT (insP_step (h := h) (show K[j]? = some y by rw [List.getElem?_eq_getElem hjl, hy]))
            rw [← HPB.out] at HST
            obtain ⟨P, hP⟩ : ∃ P, P = (insP h K j).1 := ⟨_, rfl⟩
            rw [← hP] at HST HN8 HR8 HLN
            have HYV := hideT (And.intro x0 x1)
            have HY2 := hideT (And.intro (HKwr.out.cell x0 (fun f => f)) (HKwr.out.cell x1 (fun f => f)))
            have HHW := hideT (And.intro (HKwr.out.cell HH.out.1 (fun f => f)) (HKwr.out.cell HH.out.2 (fun f => f)))
            have HL8 := hideT (show P.length + 2 ≤ 8796093022208 by have := HLN.out.1; omega)
            have BJ := hideT (fun W => BT.out y W)
            clear hc hy hP x0 x1
            cases pb with
            | true =>
              have HST2 := hideT (show insP h K (j + 1) = (P ++ [y], true) from by rw [HST.out]; rfl)
              go_upto_region 8 with fail
              go_quiet (fail)
              generalize hW2 : World.drewN wr _ = W2
              have HKW2 := hideT (show Kept (fun _ => False) V W2 by rw [← hW2]; exact HKwr.out.trans (gw_kept ((Gw.refl wr).drewN _)) (fun _ f => f.elim))
              have HRA := hideT (show RowH V.heap.size W2 (.slice a8 n8 c8) P by rw [← hW2]; exact HR8.out.same (gw_kept ((Gw.refl wr).drewN _)) (fun _ _ f => f))
              clear hW2
              have x0 := HKW2.out.cell HYV.out.1 (fun f => f)
              have x1 := HKW2.out.cell HYV.out.2 (fun f => f)
              have h0 := HKW2.out.cell HH.out.1 (fun f => f)
              have h1 := HKW2.out.cell HH.out.2 (fun f => f)
              obtain ⟨n3, hn3⟩ : ∃ q, q = (P).length + 1 := ⟨_, rfl⟩
              have Hn3 := hideT hn3
              clear hn3
              have HB3 := hideT (show V.heap.size ≤ W2.heap.size from HKW2.out.size)
              go_upto_region 11 with fail
              go_upto_region 7 with (refine wpList_pushT (B := V.heap.size) (W := W2) rfl _ _ rfl (.slice a8 n8 c8) (P) y y.1 y.2 rfl HRA W2.heap.size rfl rfl (hideT ⟨rfl, rfl⟩) HB3 (hideT (by have := HL8.out; (try simp only [List.length_append, List.length_cons, List.length_nil]); omega)) ?_; intro g3 c3 W3 hR3 hK3 hG3; rw [← Hn3.out] at hR3 ⊢)
              have HKW3 := hideT (HKW2.out.trans hK3.out (fun i hi => .inr (World.ownsRow.lt HRA.out i hi).1))
              have HPB2 := hideT (show true = (insP h K (j + 1)).2 by rw [HST2.out])
              have HP2 := hideT (show n3 = (insP h K (j + 1)).1.length by rw [HST2.out, Hn3.out]; simp)
              have HR2 := hideT (show RowH V.heap.size _ (.slice (some ⟨g3, 0, none⟩) n3 c3) (insP h K (j + 1)).1 by rw [HST2.out]; simpa using hR3.out)
              go_wp2
              go_round
              case rel => exact ⟨j + 1, n3, some ⟨g3, 0, none⟩, c3, true, by omega, by go_num, rfl, rfl, HPB2, HP2, HR2, HKW3⟩
              case measure => simp [intOf]; omega
            | false =>
              by_cases hb : Bt h y
              · have HST2 := hideT (show insP h K (j + 1) = (P ++ [h, y], true) from by rw [HST.out, if_neg (by simp), if_pos hb])
                rw [decide_eq_true hb] at BJ
                go_upto_region 8 with fail
                have S0 : Gw wr wr.drew := (Gw.refl wr).drew
                refine wp_region_held (S := fun W' => Gw wr W') (by kernel_rfl) ?_
                change wpAnyH _ _ _ _ _ _ _ _ (World.drew _)
                refine wpAnyH_take (i := 0) (v := .bool false) rfl (by kernel_rfl) (by kernel_rfl) (by kernel_rfl) (fun _ _ _ h => h) (Or.inl ⟨by kernel_rfl, fun W' hW => ?_⟩) S0 ?_
                · go_simp
                refine wpAnyH_take (i := 1) (v := .bool true) rfl (by kernel_rfl) (by kernel_rfl) (by kernel_rfl) (fun _ _ _ h => h) (Or.inl ⟨by kernel_rfl, fun W' hW => ?_⟩) S0 ?_
                · go_simp
                refine wpAnyH_take (i := 2) (v := .bool true) rfl (by kernel_rfl) (by kernel_rfl) (by kernel_rfl) (fun _ _ _ h => h) (Or.inl ⟨by kernel_rfl, fun W' hW => ?_⟩) S0 ?_
                · go_simp
                refine wpAnyH_take (i := 3) (v := .agg #[.int .i64 h.1, .int .u64 h.2]) rfl (by kernel_rfl) (by kernel_rfl) (by kernel_rfl) (fun _ _ _ h => h) (Or.inl ⟨by kernel_rfl, fun W' hW => ?_⟩) S0 ?_
                · exact load_hit (x := .tmp 4) (b := bh) (off := 0) (y := h) rfl (by go_simp) ((gw_kept hW).cell HHW.out.1 (fun f => f)) ((gw_kept hW).cell HHW.out.2 (fun f => f))
                refine wpAnyH_take (i := 4) (v := .slice (some ⟨gb, go, none⟩) n c) rfl (by kernel_rfl) (by kernel_rfl) (by kernel_rfl) (fun _ _ _ h => h) (Or.inl ⟨by kernel_rfl, fun W' hW => ?_⟩) S0 ?_
                · go_simp
                refine wpAnyH_take (i := 5) (v := .int .i64 (j : Nat)) rfl (by kernel_rfl) (by kernel_rfl) (by kernel_rfl) (fun _ _ _ h => h) (Or.inl ⟨by kernel_rfl, fun W' hW => ?_⟩) S0 ?_
                · go_simp
                refine wpAnyH_take (i := 6) (v := .pointer (some ⟨gb, go + j * 2, none⟩)) rfl (by kernel_rfl) (by kernel_rfl) (by kernel_rfl) (fun _ _ _ h => h) (Or.inl ⟨by kernel_rfl, fun W' hW => ?_⟩) S0 ?_
                · go_simp
                  all_goals (intro hh; omega)
                refine wpAnyH_take (i := 7) (v := .agg #[.int .i64 y.1, .int .u64 y.2]) rfl (by kernel_rfl) (by kernel_rfl) (by kernel_rfl) (fun _ _ _ h => h) (Or.inl ⟨by kernel_rfl, fun W' hW => ?_⟩) S0 ?_
                · exact load_hit (x := .tmp 43) (b := gb) (off := go + j * 2) (y := y) rfl (by go_simp) ((gw_kept hW).cell HY2.out.1 (fun f => f)) ((gw_kept hW).cell HY2.out.2 (fun f => f))
                refine wpAnyH_all (rs := [8]) (by kernel_rfl) (by simp) ?_
                intro i hi
                obtain rfl : i = 8 := by simpa using hi
                have E8 := hideT (BJ.out wr.drew)
                unfold wpOp
                go_simp
                first | refine E8.out.mono ?_ | refine Or.inl (E8.out.mono ?_)
                rintro e W2 ⟨rfl, h5⟩
                have h5 := S0.trans h5
                first | refine ⟨h5, ?_⟩ | refine Or.inl ⟨h5, ?_⟩
                refine wpAnyH_all (rs := [9]) (by kernel_rfl) (by simp) ?_
                intro i hi
                obtain rfl : i = 9 := by simpa using hi
                unfold wpOp
                go_simp
                first | (change wpAnyH _ _ _ _ _ _ _ _ _) | (refine Or.inl ?_; change wpAnyH _ _ _ _ _ _ _ _ _) | refine Or.inl ⟨h5, ?_⟩ | refine ⟨h5, ?_⟩
                refine wpAnyH_done (by kernel_rfl) ?_ _
                have HKW2 := hideT (HKwr.out.trans (gw_kept h5) (fun _ f => f.elim))
                have HRA := hideT (HR8.out.same (gw_kept h5) (fun _ _ f => f) : RowH V.heap.size W2 (.slice a8 n8 c8) P)
                clear h5 S0
                have x0 := HKW2.out.cell HYV.out.1 (fun f => f)
                have x1 := HKW2.out.cell HYV.out.2 (fun f => f)
                have h0 := HKW2.out.cell HH.out.1 (fun f => f)
                have h1 := HKW2.out.cell HH.out.2 (fun f => f)
                obtain ⟨n3, hn3⟩ : ∃ q, q = (P).length + 1 := ⟨_, rfl⟩
                have Hn3 := hideT hn3
                clear hn3
                have HB3 := hideT (show V.heap.size ≤ W2.heap.size from HKW2.out.size)
                go_upto_region 9 with fail
                go_upto_region 10 with (refine wpList_pushT (B := V.heap.size) (W := W2) rfl _ _ rfl (.slice a8 n8 c8) (P) h h.1 h.2 rfl HRA W2.heap.size rfl rfl (hideT ⟨rfl, rfl⟩) HB3 (hideT (by have := HL8.out; (try simp only [List.length_append, List.length_cons, List.length_nil]); omega)) ?_; intro g3 c3 W3 hR3 hK3 hG3; rw [← Hn3.out] at hR3 ⊢)
                have HKW3 := hideT (HKW2.out.trans hK3.out (fun i hi => .inr (World.ownsRow.lt HRA.out i hi).1))
                clear x0 x1 h0 h1
                have x0 := HKW3.out.cell HYV.out.1 (fun f => f)
                have x1 := HKW3.out.cell HYV.out.2 (fun f => f)
                have h0 := HKW3.out.cell HH.out.1 (fun f => f)
                have h1 := HKW3.out.cell HH.out.2 (fun f => f)
                obtain ⟨n4, hn4⟩ : ∃ q, q = (P ++ [h]).length + 1 := ⟨_, rfl⟩
                have Hn4 := hideT hn4
                clear hn4
                have HB4 := hideT (show V.heap.size ≤ W3.heap.size from HKW3.out.size)
                go_upto_region 11 with fail
                go_upto_region 7 with (refine wpList_pushT (B := V.heap.size) (W := W3) rfl _ _ rfl (.slice (some ⟨g3, 0, none⟩) n3 c3) (P ++ [h]) y y.1 y.2 rfl hR3 W3.heap.size rfl rfl (hideT ⟨rfl, rfl⟩) HB4 (hideT (by have := HL8.out; (try simp only [List.length_append, List.length_cons, List.length_nil]); omega)) ?_; intro g4 c4 W4 hR4 hK4 hG4; rw [← Hn4.out] at hR4 ⊢)
                have HKW4 := hideT (HKW3.out.trans hK4.out (fun i hi => .inr (World.ownsRow.lt hR3.out i hi).1))
                have HPB2 := hideT (show true = (insP h K (j + 1)).2 by rw [HST2.out])
                have HP2 := hideT (show n4 = (insP h K (j + 1)).1.length by rw [HST2.out, Hn4.out]; simp)
                have HR2 := hideT (show RowH V.heap.size _ (.slice (some ⟨g4, 0, none⟩) n4 c4) (insP h K (j + 1)).1 by rw [HST2.out]; simpa using hR4.out)
                go_wp2
                go_round
                case rel => exact ⟨j + 1, n4, some ⟨g4, 0, none⟩, c4, true, by omega, by go_num, rfl, rfl, HPB2, HP2, HR2, HKW4⟩
                case measure => simp [intOf]; omega
              · have HST2 := hideT (show insP h K (j + 1) = (P ++ [y], false) from by rw [HST.out, if_neg (by simp), if_neg hb])
                rw [decide_eq_false hb] at BJ
                go_upto_region 8 with fail
                have S0 : Gw wr wr.drew := (Gw.refl wr).drew
                refine wp_region_held (S := fun W' => Gw wr W') (by kernel_rfl) ?_
                change wpAnyH _ _ _ _ _ _ _ _ (World.drew _)
                refine wpAnyH_take (i := 0) (v := .bool false) rfl (by kernel_rfl) (by kernel_rfl) (by kernel_rfl) (fun _ _ _ h => h) (Or.inl ⟨by kernel_rfl, fun W' hW => ?_⟩) S0 ?_
                · go_simp
                refine wpAnyH_take (i := 1) (v := .bool true) rfl (by kernel_rfl) (by kernel_rfl) (by kernel_rfl) (fun _ _ _ h => h) (Or.inl ⟨by kernel_rfl, fun W' hW => ?_⟩) S0 ?_
                · go_simp
                refine wpAnyH_take (i := 2) (v := .bool true) rfl (by kernel_rfl) (by kernel_rfl) (by kernel_rfl) (fun _ _ _ h => h) (Or.inl ⟨by kernel_rfl, fun W' hW => ?_⟩) S0 ?_
                · go_simp
                refine wpAnyH_take (i := 3) (v := .agg #[.int .i64 h.1, .int .u64 h.2]) rfl (by kernel_rfl) (by kernel_rfl) (by kernel_rfl) (fun _ _ _ h => h) (Or.inl ⟨by kernel_rfl, fun W' hW => ?_⟩) S0 ?_
                · exact load_hit (x := .tmp 4) (b := bh) (off := 0) (y := h) rfl (by go_simp) ((gw_kept hW).cell HHW.out.1 (fun f => f)) ((gw_kept hW).cell HHW.out.2 (fun f => f))
                refine wpAnyH_take (i := 4) (v := .slice (some ⟨gb, go, none⟩) n c) rfl (by kernel_rfl) (by kernel_rfl) (by kernel_rfl) (fun _ _ _ h => h) (Or.inl ⟨by kernel_rfl, fun W' hW => ?_⟩) S0 ?_
                · go_simp
                refine wpAnyH_take (i := 5) (v := .int .i64 (j : Nat)) rfl (by kernel_rfl) (by kernel_rfl) (by kernel_rfl) (fun _ _ _ h => h) (Or.inl ⟨by kernel_rfl, fun W' hW => ?_⟩) S0 ?_
                · go_simp
                refine wpAnyH_take (i := 6) (v := .pointer (some ⟨gb, go + j * 2, none⟩)) rfl (by kernel_rfl) (by kernel_rfl) (by kernel_rfl) (fun _ _ _ h => h) (Or.inl ⟨by kernel_rfl, fun W' hW => ?_⟩) S0 ?_
                · go_simp
                  all_goals (intro hh; omega)
                refine wpAnyH_take (i := 7) (v := .agg #[.int .i64 y.1, .int .u64 y.2]) rfl (by kernel_rfl) (by kernel_rfl) (by kernel_rfl) (fun _ _ _ h => h) (Or.inl ⟨by kernel_rfl, fun W' hW => ?_⟩) S0 ?_
                · exact load_hit (x := .tmp 43) (b := gb) (off := go + j * 2) (y := y) rfl (by go_simp) ((gw_kept hW).cell HY2.out.1 (fun f => f)) ((gw_kept hW).cell HY2.out.2 (fun f => f))
                refine wpAnyH_all (rs := [8]) (by kernel_rfl) (by simp) ?_
                intro i hi
                obtain rfl : i = 8 := by simpa using hi
                have E8 := hideT (BJ.out wr.drew)
                unfold wpOp
                go_simp
                first | refine E8.out.mono ?_ | refine Or.inl (E8.out.mono ?_)
                rintro e W2 ⟨rfl, h5⟩
                have h5 := S0.trans h5
                first | refine ⟨h5, ?_⟩ | refine Or.inl ⟨h5, ?_⟩
                refine wpAnyH_all (rs := [9]) (by kernel_rfl) (by simp) ?_
                intro i hi
                obtain rfl : i = 9 := by simpa using hi
                unfold wpOp
                go_simp
                first | (change wpAnyH _ _ _ _ _ _ _ _ _) | (refine Or.inl ?_; change wpAnyH _ _ _ _ _ _ _ _ _) | refine Or.inl ⟨h5, ?_⟩ | refine ⟨h5, ?_⟩
                refine wpAnyH_done (by kernel_rfl) ?_ _
                have HKW2 := hideT (HKwr.out.trans (gw_kept h5) (fun _ f => f.elim))
                have HRA := hideT (HR8.out.same (gw_kept h5) (fun _ _ f => f) : RowH V.heap.size W2 (.slice a8 n8 c8) P)
                clear h5 S0
                have x0 := HKW2.out.cell HYV.out.1 (fun f => f)
                have x1 := HKW2.out.cell HYV.out.2 (fun f => f)
                have h0 := HKW2.out.cell HH.out.1 (fun f => f)
                have h1 := HKW2.out.cell HH.out.2 (fun f => f)
                obtain ⟨n3, hn3⟩ : ∃ q, q = (P).length + 1 := ⟨_, rfl⟩
                have Hn3 := hideT hn3
                clear hn3
                have HB3 := hideT (show V.heap.size ≤ W2.heap.size from HKW2.out.size)
                go_upto_region 11 with fail
                go_upto_region 7 with (refine wpList_pushT (B := V.heap.size) (W := W2) rfl _ _ rfl (.slice a8 n8 c8) (P) y y.1 y.2 rfl HRA W2.heap.size rfl rfl (hideT ⟨rfl, rfl⟩) HB3 (hideT (by have := HL8.out; (try simp only [List.length_append, List.length_cons, List.length_nil]); omega)) ?_; intro g3 c3 W3 hR3 hK3 hG3; rw [← Hn3.out] at hR3 ⊢)
                have HKW3 := hideT (HKW2.out.trans hK3.out (fun i hi => .inr (World.ownsRow.lt HRA.out i hi).1))
                have HPB2 := hideT (show false = (insP h K (j + 1)).2 by rw [HST2.out])
                have HP2 := hideT (show n3 = (insP h K (j + 1)).1.length by rw [HST2.out, Hn3.out]; simp)
                have HR2 := hideT (show RowH V.heap.size _ (.slice (some ⟨g3, 0, none⟩) n3 c3) (insP h K (j + 1)).1 by rw [HST2.out]; simpa using hR3.out)
                go_wp2
                go_round
                case rel => exact ⟨j + 1, n3, some ⟨g3, 0, none⟩, c3, false, by omega, by go_num, rfl, rfl, HPB2, HP2, HR2, HKW3⟩
                case measure => simp [intOf]; omega
          · obtain rfl : j = n := by omega
            have HEND := hideT (insP_end h K)
            rw [← HN.out, ← HPB.out] at HEND
            have HL8 := hideT (show (insP h K j).1.length + 2 ≤ 8796093022208 by have := HLN.out.1; omega)
            have h0 := HKwr.out.cell HH.out.1 (fun f => f)
            have h1 := HKwr.out.cell HH.out.2 (fun f => f)
            cases pb with
            | true =>
              have HE := hideT (show (insP h K j).1 = ins h K by have := HEND.out; simpa using this)
              rw [HE.out] at HR8 HN8
              have HNN := hideT (show n8 = j + 1 by rw [HN8.out, ins_len, ← HN.out])
              clear h0 h1
              have hcap := HR8.out.cap
              have hil := ins_len h K
              rw [← HN.out] at hil
              have hnn := HNN.out
              by_cases hgt : k < (n8 : Int)
              · have hd := head_hits (k := k.toNat) HR8.out.hs (show n8 = (ins h K).length by rw [hil]; exact hnn) hcap (by omega)
                have hs6 := hd.1
                rw [show ((k.toNat : Nat) : Int) = k by omega] at hs6
                have HD2 := hideT hd.2
                have hRl : k.toNat = R.length := by rw [HR.out]; unfold off; rw [List.length_take, hil]; omega
                have HRL := hideT hRl
                have HOWN := hideT (show ∀ b o, (a8 : Option Addr) = some ⟨b, o, none⟩ → w.heap.size ≤ b from fun b o e => by have h1 := HR8.out; rw [e] at h1; rcases h1.2 with ⟨e1, _⟩ | ⟨g, cap, cur, e1, hg, _⟩; cases e1; simp only [Value.slice.injEq, Option.some.injEq, Addr.mk.injEq] at e1; have := HV.out.size; omega)
                clear hd hcap hil hRl hnn
                go_wp2
                go_ret2
                rw [HFB.out, ← HRL.out]
                first | exact ⟨a8, ⟨c8, rfl⟩, by rw [HR.out]; exact HD2.out, HV.out.trans HKwr.out (fun _ f => f.elim), .inr HOWN.out⟩ | exact ⟨a8, c8, rfl, by rw [HR.out]; exact HD2.out, HV.out.trans HKwr.out (fun _ f => f.elim), .inr HOWN.out⟩
              · have hRe : R = ins h K := by rw [HR.out]; unfold off; rw [List.take_of_length_le (by rw [hil]; omega)]
                have HRE := hideT hRe
                have HOWN := hideT (show ∀ b o, (a8 : Option Addr) = some ⟨b, o, none⟩ → w.heap.size ≤ b from fun b o e => by have h1 := HR8.out; rw [e] at h1; rcases h1.2 with ⟨e1, _⟩ | ⟨g, cap, cur, e1, hg, _⟩; cases e1; simp only [Value.slice.injEq, Option.some.injEq, Addr.mk.injEq] at e1; have := HV.out.size; omega)
                have HRL := hideT (show n8 = R.length by rw [hRe, hil]; exact hnn)
                clear hcap hil hRe hnn
                go_wp2
                go_ret2
                rw [HFB.out, ← HRL.out]
                first | exact ⟨a8, ⟨c8, rfl⟩, by rw [HRE.out]; exact HR8.out.hs, HV.out.trans HKwr.out (fun _ f => f.elim), .inr HOWN.out⟩ | exact ⟨a8, c8, rfl, by rw [HRE.out]; exact HR8.out.hs, HV.out.trans HKwr.out (fun _ f => f.elim), .inr HOWN.out⟩
            | false =>
              have HE := hideT (show (insP h K j).1 ++ [h] = ins h K by have := HEND.out; simpa using this)
              obtain ⟨n3, hn3⟩ : ∃ q, q = ((insP h K j).1).length + 1 := ⟨_, rfl⟩
              have Hn3 := hideT hn3
              clear hn3
              have HB3 := hideT (show V.heap.size ≤ wr.heap.size from HKwr.out.size)
              go_upto_region 13 with fail
              go_upto_region 14 with (refine wpList_pushT (B := V.heap.size) (W := wr) rfl _ _ rfl (.slice a8 n8 c8) ((insP h K j).1) h h.1 h.2 rfl HR8 wr.heap.size rfl rfl (hideT ⟨rfl, rfl⟩) HB3 (hideT (by have := HL8.out; (try simp only [List.length_append, List.length_cons, List.length_nil]); omega)) ?_; intro g3 c3 W3 hR3 hK3 hG3; rw [← Hn3.out] at hR3 ⊢)
              have HKW3 := hideT (HKwr.out.trans hK3.out (fun i hi => .inr (World.ownsRow.lt HR8.out i hi).1))
              rw [HE.out] at hR3
              have HNN := hideT (show n3 = j + 1 by rw [Hn3.out, ← HN8.out]; have h1 := ins_len h K; rw [← HE.out, List.length_append, ← HN8.out, ← HN.out] at h1; simp at h1; omega)
              clear h0 h1
              have hcap := hR3.out.cap
              have hil := ins_len h K
              rw [← HN.out] at hil
              have hnn := HNN.out
              by_cases hgt : k < (n3 : Int)
              · have hd := head_hits (k := k.toNat) hR3.out.hs (show n3 = (ins h K).length by rw [hil]; exact hnn) hcap (by omega)
                have hs6 := hd.1
                rw [show ((k.toNat : Nat) : Int) = k by omega] at hs6
                have HD2 := hideT hd.2
                have hRl : k.toNat = R.length := by rw [HR.out]; unfold off; rw [List.length_take, hil]; omega
                have HRL := hideT hRl
                have HOWN := hideT (show ∀ b o, ((some ⟨g3, 0, none⟩) : Option Addr) = some ⟨b, o, none⟩ → w.heap.size ≤ b from fun b o e => by simp only [Option.some.injEq, Addr.mk.injEq] at e; have := (World.ownsRow.lt hR3.out g3 rfl).1; have := HV.out.size; omega)
                clear hd hcap hil hRl hnn
                go_wp2
                go_ret2
                rw [HFB.out, ← HRL.out]
                first | exact ⟨(some ⟨g3, 0, none⟩), ⟨c3, rfl⟩, by rw [HR.out]; exact HD2.out, HV.out.trans HKW3.out (fun _ f => f.elim), .inr HOWN.out⟩ | exact ⟨(some ⟨g3, 0, none⟩), c3, rfl, by rw [HR.out]; exact HD2.out, HV.out.trans HKW3.out (fun _ f => f.elim), .inr HOWN.out⟩
              · have hRe : R = ins h K := by rw [HR.out]; unfold off; rw [List.take_of_length_le (by rw [hil]; omega)]
                have HRE := hideT hRe
                have HOWN := hideT (show ∀ b o, ((some ⟨g3, 0, none⟩) : Option Addr) = some ⟨b, o, none⟩ → w.heap.size ≤ b from fun b o e => by simp only [Option.some.injEq, Addr.mk.injEq] at e; have := (World.ownsRow.lt hR3.out g3 rfl).1; have := HV.out.size; omega)
                have HRL := hideT (show n3 = R.length by rw [hRe, hil]; exact hnn)
                clear hcap hil hRe hnn
                go_wp2
                go_ret2
                rw [HFB.out, ← HRL.out]
                first | exact ⟨(some ⟨g3, 0, none⟩), ⟨c3, rfl⟩, by rw [HRE.out]; exact hR3.out.hs, HV.out.trans HKW3.out (fun _ f => f.elim), .inr HOWN.out⟩ | exact ⟨(some ⟨g3, 0, none⟩), c3, rfl, by rw [HRE.out]; exact hR3.out.hs, HV.out.trans HKW3.out (fun _ f => f.elim), .inr HOWN.out⟩
end Go.Proofs.Ytkgcafomlhfonaa.Tk
