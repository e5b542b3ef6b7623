import Derived.Test.YtkgcafomlhfonaaTld
namespace Go.Proofs.Ytkgcafomlhfonaa.Tk
open Go.ChangeShapes Go.WideShapes Go.ChangeAt Go.RowKit

/-- What the document's lists answer. -/
def AnsR (w : World) (K : List Ht) (e : Ending) (w' : World) : Prop := ∃ a' c', e = .returned (.slice a' K.length c') ∧ HsAt w' a' K ∧ Kept (fun _ => False) w w'
set_option maxRecDepth 20000 in
set_option maxHeartbeats 8000000 in
theorem rselect_any (l : List Ht) (a : Option Addr) (c : Nat) (k : Int) (w : World) (ha : HsAt w a l) (hc : l.length ≤ c) (hlim : l.length ≤ 8796093021952) : Calls Try.prog 16 #[.slice a l.length c, .int .i64 k] w (AnsR w (best k.toNat l)) := by
  have SO := hideT (rsorted_any l.length l a c w (Nat.le_refl _) ha hc hlim)
  obtain ⟨n, hn⟩ : ∃ n, n = l.length := ⟨_, rfl⟩
  have HN := hideT hn
  rw [← hn] at SO hlim ⊢
  obtain ⟨K, hK⟩ : ∃ K, K = best k.toNat l := ⟨_, rfl⟩
  have HK := hideT hK
  have HKL := hideT (show K.length = min k.toNat n by rw [hK, best_len, hn])
  rw [← hK]
  unfold AnsR
  obtain ⟨q, hq⟩ : ∃ q, q = K.length := ⟨_, rfl⟩
  have HQ := hideT hq
  rw [← hq]
  clear ha hc hn hK hq
  by_cases hk1 : k < 1
  · have hq0 : q = 0 := by have := HKL.out; have := HQ.out; omega
    have hKe : K = [] := List.eq_nil_of_length_eq_zero (by have := HQ.out; omega)
    have HF := hideT (And.intro hq0 hKe)
    clear hq0 hKe
    go_enter Try.func16, Try.ntmps16
    go_wp2
    go_ret
    rw [HF.out.1, HF.out.2]
    exact ⟨none, 0, rfl, fun e => absurd rfl e, Kept.refl _ _⟩
  · go_enter Try.func16, Try.ntmps16
    go_upto_region 4 with (go_at_call 33; refine SO.out.mono ?_; rintro e W1 ⟨a1, c1, rfl, r1, k1⟩)
    have HR := hideT r1
    have HK1 := hideT k1
    clear r1 k1
    by_cases hkn : k < (n : Int)
    · have hd := head_hits (k := k.toNat) (c := c1) HR.out.hs (show n = (srt l).length by rw [srt_len]; exact HN.out) HR.out.cap (by omega)
      have hs6 := hd.1
      rw [show ((k.toNat : Nat) : Int) = k by omega] at hs6
      have HD := hideT hd.2
      have HQK := hideT (show q = k.toNat from by have := HKL.out; have := HQ.out; omega)
      clear hd
      go_wp2
      go_ret
      rw [HQK.out]
      first | exact ⟨a1, ⟨c1, rfl⟩, by rw [HK.out]; exact HD.out, HK1.out⟩ | exact ⟨a1, c1, rfl, by rw [HK.out]; exact HD.out, HK1.out⟩
    · have HQN := hideT (show q = n from by have := HKL.out; have := HQ.out; omega)
      have HKS := hideT (show K = srt l by rw [HK.out]; unfold best; rw [List.take_of_length_le (by rw [srt_len, ← HN.out]; omega)])
      go_wp2
      go_ret
      rw [HQN.out]
      first | exact ⟨a1, ⟨c1, rfl⟩, by rw [HKS.out]; exact HR.out.hs, HK1.out⟩ | exact ⟨a1, c1, rfl, by rw [HKS.out]; exact HR.out.hs, HK1.out⟩
set_option maxRecDepth 20000 in
set_option maxHeartbeats 8000000 in
theorem rjoin_any (L : List Hl) (a : Option Addr) (c : Nat) (k : Int) (w : World) (h : LsAt w a L) (hlim : (allH L).length + L.length ≤ 1048576) : Calls Try.prog 22 #[.slice a L.length c, .int .i64 k] w (AnsR w (best k.toNat (allH L))) := by
  have HL := hideT h
  obtain ⟨m, hm⟩ : ∃ m, m = L.length := ⟨_, rfl⟩
  have HM := hideT hm
  have HLIM := hideT hlim
  have hmb : m ≤ 1048576 := by omega
  unfold AnsR
  rw [← hm]
  clear h hm hlim
  go_enter Try.func22, Try.ntmps22
  go_wp2
  go_loopw [5, 6] (fun s5 s6 wr => ∃ (i n5 : Nat) (a5 : Option Addr) (c5 : Nat), i ≤ m ∧ s6 = .int .i64 i ∧ s5 = .slice a5 n5 c5 ∧ Hid (n5 = (allH (L.take i)).length) ∧ Hid (RowH w.heap.size wr (.slice a5 n5 c5) (allH (L.take i))) ∧ Hid (Kept (fun _ => False) w wr)) (fun _ s6 _ => m - (intOf s6).toNat)
  case atStart => exact ⟨0, 0, none, 0, by omega, by go_num, rfl, hideT rfl, hideT ⟨rfl, .inl ⟨rfl, rfl⟩⟩, hideT (Kept.refl _ _)⟩
  case round =>
    obtain ⟨i, n5, a5, c5, hi, rfl, rfl, HN5, HRA, HW⟩ := hrel
    by_cases hlt : i < m
    · have hil : i < L.length := by rw [← HM.out]; exact hlt
      have hii : (i : Int) < (m : Int) := by omega
      obtain ⟨b, off, rfl, hc⟩ := HL.out (by intro e; rw [e] at hil; simp at hil)
      obtain ⟨z0, z1⟩ := hc i hil
      obtain ⟨y, hy⟩ : ∃ y, y = L[i] := ⟨_, rfl⟩
      rw [← hy] at z0 z1
      have hAT : Hid (allH (L.take (i + 1)) = allH (L.take i) ++ y.l) := hideT (by rw [hy]; exact allH_take L i hil)
      have hALL : Hid ((allH (L.take i)).length + y.l.length ≤ 1048576) := hideT (by
        have h1 : (allH (L.take (i + 1))).length ≤ (allH L).length := by
          unfold allH
          conv => rhs; rw [← List.take_append_drop (i + 1) L, List.flatMap_append, List.length_append]
          omega
        rw [hAT.out, List.length_append] at h1
        have := HLIM.out
        omega)
      have y0 := HW.out.cell z0 (fun f => f)
      obtain ⟨yn, hyn⟩ : ∃ yn, yn = y.l.length := ⟨_, rfl⟩
      rw [← hyn] at y0 hALL
      have HYN := hideT hyn
      have HYW := hideT (z1.same HW.out)
      clear z0 z1 hy hyn hc
      generalize y.a = ya at *
      generalize y.c = yc at *
      obtain ⟨Y, hYl⟩ : ∃ Y, Y = y.l := ⟨_, rfl⟩
      rw [← hYl] at HYW HYN hAT
      clear hYl
      have HLC := hideT (show (allH (L.take i)).length + yn ≤ 8796093022208 by have := hALL.out; omega)
      have HB := hideT HW.out.size
      go_upto_region 5 with fail
      go_upto_region 4 with (refine wpList_catNT rfl _ _ rfl a5 n5 c5 (allH (L.take i)) Y rfl HN5 HRA ya yn yc rfl HYW HYN HB HLC ?_; intro a5' c5' W5 hR5 hK5 hG5)
      have HW5 := hideT (HW.out.trans hK5.out (fun j e => .inr (World.ownsRow.lt HRA.out j e).1))
      have HR5 := hideT (show RowH w.heap.size W5 (.slice a5' (n5 + yn) c5') (allH (L.take (i + 1))) by rw [hAT.out]; exact hR5.out)
      have HN7 := hideT (show n5 + yn = (allH (L.take (i + 1))).length by rw [hAT.out, List.length_append, ← HN5.out, ← HYN.out])
      clear hR5 hK5 hG5
      go_wp2
      go_round
      case rel => exact ⟨i + 1, n5 + yn, a5', c5', by omega, by go_num, rfl, HN7, HR5, HW5⟩
      case measure => simp [intOf]; omega
    · obtain rfl : i = m := by omega
      have hLt : L.take i = L := List.take_of_length_le (by rw [HM.out]; exact Nat.le_refl _)
      rw [hLt] at HN5 HRA
      have SE := hideT (rselect_any (allH L) a5 c5 k wr HRA.out.hs (by rw [← HN5.out]; exact HRA.out.cap) (by have := HLIM.out; omega))
      unfold AnsR at SE
      rw [← HN5.out] at SE
      clear hLt
      go_wp2_with (go_at_call 16; refine SE.out.mono ?_; rintro e W5 ⟨a', c', rfl, r5, k5⟩)
      go_ret
      exact ⟨a', c', rfl, r5, HW.out.trans k5 (fun _ f => f.elim)⟩
set_option maxRecDepth 20000 in
set_option maxHeartbeats 8000000 in
theorem rafter_any (l : List Ht) (h : Ht) (a : Option Addr) (c : Nat) (k : Int) (w : World) (hl : HsAt w a l) (hlim : l.length ≤ 8796093021952) : Calls Try.prog 18 #[.slice a l.length c, .agg #[.int .i64 h.1, .int .u64 h.2], .int .i64 k] w (AnsR w (best k.toNat (behind h l))) := by
  have HL := hideT hl
  obtain ⟨m, hm⟩ : ∃ m, m = l.length := ⟨_, rfl⟩
  have HM := hideT hm
  unfold AnsR
  rw [← hm] at hlim ⊢
  obtain ⟨bh, hbh⟩ : ∃ b, b = w.heap.size := ⟨_, rfl⟩
  obtain ⟨V, hV⟩ : ∃ V, V = w.alloc (.cells #[.int .i64 h.1, .int .u64 h.2] 29) := ⟨_, rfl⟩
  have kV : Kept (fun _ => False) w V := by rw [hV]; exact Kept.alloc _ _
  have bV : V.heap[bh]? = some (.cells #[.int .i64 h.1, .int .u64 h.2] 29 (0, 0)) := by rw [hV, hbh]; exact heap_alloc_new w _
  have HV := hideT kV
  have HB := hideT (And.intro ((cell_of_row _ _ _ _ _ _ bV : V.cell? ⟨bh, 0, none⟩ = _).trans rfl : V.cell? ⟨bh, 0, none⟩ = some (.int .i64 h.1)) ((cell_of_row _ _ _ _ _ _ bV : V.cell? ⟨bh, 1, none⟩ = _).trans rfl : V.cell? ⟨bh, 1, none⟩ = some (.int .u64 h.2)))
  clear bV kV hm hl
  go_enter Try.func18, Try.ntmps18
  go_upto_region 1 with fail
  rw [← hV, ← hbh]
  clear hV hbh
  go_wp2
  go_loopw [7, 8] (fun s7 s8 wr => ∃ (j n7 : Nat) (a7 : Option Addr) (c7 : Nat), j ≤ m ∧ n7 ≤ j ∧ s8 = .int .i64 j ∧ s7 = .slice a7 n7 c7 ∧ Hid ((behind h (l.take j)).length = n7) ∧ Hid (RowH V.heap.size wr (.slice a7 n7 c7) (behind h (l.take j))) ∧ Hid (Kept (fun _ => False) V wr)) (fun _ s8 _ => m - (intOf s8).toNat)
  case atStart => exact ⟨0, 0, none, 0, by omega, by omega, by go_num, rfl, hideT rfl, hideT ⟨rfl, .inl ⟨rfl, rfl⟩⟩, hideT (Kept.refl _ _)⟩
  case round =>
    obtain ⟨j, n7, a7, c7, hj, hnj, rfl, rfl, HN7, HR7, HW⟩ := hrel
    by_cases hlt : j < m
    · have hjl : j < l.length := by rw [← HM.out]; exact hlt
      have hjj : (j : Int) < (m : Int) := by omega
      obtain ⟨b, off, rfl, hc⟩ := (HL.out.same HV.out) (by intro e; rw [e] at hjl; simp at hjl)
      obtain ⟨z0, z1⟩ := hc j hjl
      obtain ⟨x, hx⟩ : ∃ x, x = l[j] := ⟨_, rfl⟩
      rw [← hx] at z0 z1
      have HBT := hideT (behind_take h l j hjl)
      rw [← hx] at HBT
      have HXV := hideT (And.intro z0 z1)
      have HXW := hideT (And.intro (HW.out.cell z0 (fun f => f)) (HW.out.cell z1 (fun f => f)))
      have HHW := hideT (And.intro (HW.out.cell HB.out.1 (fun f => f)) (HW.out.cell HB.out.2 (fun f => f)))
      have BT := hideT (fun W => rbetter_any h x W)
      obtain ⟨r, hr⟩ : ∃ r, r = decide (Bt h x) := ⟨_, rfl⟩
      have HRB := hideT hr
      rw [← hr] at BT
      have HL8 := hideT (show (behind h (l.take j)).length + 1 ≤ 8796093022208 by have := HN7.out; omega)
      clear hx hc z0 z1 hr
      go_upto_region 5 with fail
      have S0 : Gw wr wr.drew := (Gw.refl wr).drew
      refine wp_region_held (S := fun W' => Gw wr W') (by kernel_rfl) ?_
      change wpAnyH _ _ _ _ _ _ _ _ (World.drew _)
      refine wpAnyH_take (i := 0) (v := .agg #[.int .i64 h.1, .int .u64 h.2]) rfl (by kernel_rfl) (by kernel_rfl) (by kernel_rfl) (fun _ _ _ h => h) (Or.inl ⟨by kernel_rfl, fun W' hW => ?_⟩) S0 ?_
      · exact load_hit (x := .tmp 4) (b := bh) (off := 0) (y := h) rfl (by go_simp) ((gw_kept hW).cell HHW.out.1 (fun f => f)) ((gw_kept hW).cell HHW.out.2 (fun f => f))
      refine wpAnyH_take (i := 1) (v := .slice (some ⟨b, off, none⟩) m c) rfl (by kernel_rfl) (by kernel_rfl) (by kernel_rfl) (fun _ _ _ h => h) (Or.inl ⟨by kernel_rfl, fun W' hW => ?_⟩) S0 ?_
      · go_simp
      refine wpAnyH_take (i := 2) (v := .int .i64 (j : Nat)) rfl (by kernel_rfl) (by kernel_rfl) (by kernel_rfl) (fun _ _ _ h => h) (Or.inl ⟨by kernel_rfl, fun W' hW => ?_⟩) S0 ?_
      · go_simp
      refine wpAnyH_take (i := 3) (v := .pointer (some ⟨b, off + j * 2, none⟩)) rfl (by kernel_rfl) (by kernel_rfl) (by kernel_rfl) (fun _ _ _ h => h) (Or.inl ⟨by kernel_rfl, fun W' hW => ?_⟩) S0 ?_
      · go_simp
        all_goals (intro hh; omega)
      refine wpAnyH_take (i := 4) (v := .agg #[.int .i64 x.1, .int .u64 x.2]) rfl (by kernel_rfl) (by kernel_rfl) (by kernel_rfl) (fun _ _ _ h => h) (Or.inl ⟨by kernel_rfl, fun W' hW => ?_⟩) S0 ?_
      · exact load_hit (x := .tmp 18) (b := b) (off := off + j * 2) (y := x) rfl (by go_simp) ((gw_kept hW).cell HXW.out.1 (fun f => f)) ((gw_kept hW).cell HXW.out.2 (fun f => f))
      refine wpAnyH_all (rs := [5]) (by kernel_rfl) (by simp) ?_
      intro i hi
      obtain rfl : i = 5 := by simpa using hi
      have E5 := hideT (BT.out wr.drew)
      unfold wpOp
      go_simp
      first | refine E5.out.mono ?_ | refine Or.inl (E5.out.mono ?_)
      rintro e W8 ⟨rfl, h5⟩
      have h5 := S0.trans h5
      first | refine ⟨h5, ?_⟩ | refine Or.inl ⟨h5, ?_⟩
      refine wpAnyH_done (by kernel_rfl) ?_ _
      have HK8 := hideT (HW.out.trans (gw_kept h5) (fun _ f => f.elim))
      have HRA := hideT (HR7.out.same (gw_kept h5) (fun _ _ f => f) : RowH V.heap.size W8 (.slice a7 n7 c7) (behind h (l.take j)))
      clear h5 S0
      cases r with
      | false =>
        have HS := hideT (show behind h (l.take (j + 1)) = behind h (l.take j) by rw [HBT.out, if_neg (of_decide_eq_false HRB.out.symm)])
        have HR9 := hideT (show RowH V.heap.size W8 (.slice a7 n7 c7) (behind h (l.take (j + 1))) by rw [HS.out]; exact HRA.out)
        have HN9 := hideT (show (behind h (l.take (j + 1))).length = n7 by rw [HS.out]; exact HN7.out)
        go_wp2
        go_round
        case rel => exact ⟨j + 1, n7, a7, c7, by omega, by omega, by go_num, rfl, HN9, HR9, HK8⟩
        case measure => simp [intOf]; omega
      | true =>
        have HS := hideT (show behind h (l.take (j + 1)) = behind h (l.take j) ++ [x] by rw [HBT.out, if_pos (of_decide_eq_true HRB.out.symm)])
        have z0 := HK8.out.cell HXV.out.1 (fun f => f)
        have z1 := HK8.out.cell HXV.out.2 (fun f => f)
        have HB3 := hideT (show V.heap.size ≤ W8.heap.size from HK8.out.size)
        go_upto_region 6 with fail
        go_upto_region 4 with (refine wpList_pushT (B := V.heap.size) (W := W8) rfl _ _ rfl (.slice a7 n7 c7) (behind h (l.take j)) x x.1 x.2 rfl HRA W8.heap.size rfl rfl (hideT ⟨rfl, rfl⟩) HB3 HL8 ?_; intro g3 c3 W3 hR3 hK3 hG3; rw [HN7.out] at hR3 ⊢)
        have HKW3 := hideT (HK8.out.trans hK3.out (fun i hi => .inr (World.ownsRow.lt HRA.out i hi).1))
        have HR9 := hideT (show RowH V.heap.size W3 (.slice (some ⟨g3, 0, none⟩) (n7 + 1) c3) (behind h (l.take (j + 1))) by rw [HS.out]; exact hR3.out)
        have HN9 := hideT (show (behind h (l.take (j + 1))).length = n7 + 1 by rw [HS.out, List.length_append, HN7.out]; rfl)
        clear z0 z1 hR3 hK3 hG3
        go_wp2
        go_round
        case rel => exact ⟨j + 1, n7 + 1, some ⟨g3, 0, none⟩, c3, by omega, by omega, by go_num, rfl, HN9, HR9, HKW3⟩
        case measure => simp [intOf]; omega
    · obtain rfl : j = m := by omega
      have hLt : l.take j = l := List.take_of_length_le (by rw [HM.out]; exact Nat.le_refl _)
      rw [hLt] at HN7 HR7
      have SE := hideT (rselect_any (behind h l) a7 c7 k wr HR7.out.hs (by rw [HN7.out]; exact HR7.out.cap) (by have := HN7.out; omega))
      unfold AnsR at SE
      rw [HN7.out] at SE
      have HVW := hideT (HV.out.trans HW.out (fun _ f => f.elim))
      clear hLt
      go_wp2_with (go_at_call 16; refine SE.out.mono ?_; rintro e W5 ⟨a', c', rfl, r5, k5⟩)
      go_ret
      exact ⟨a', c', rfl, r5, HVW.out.trans k5 (fun _ f => f.elim)⟩
end Go.Proofs.Ytkgcafomlhfonaa.Tk
