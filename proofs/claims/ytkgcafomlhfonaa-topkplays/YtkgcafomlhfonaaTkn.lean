import Derived.Test.YtkgcafomlhfonaaTkm
namespace Go.Proofs.Ytkgcafomlhfonaa.Tk
open Go.ChangeShapes Go.WideShapes Go.ChangeAt Go.RowKit

/-- What topk's lists answer: K, in memory younger than w. -/
def Ans (w : World) (K : List Ht) (e : Ending) (w' : World) : Prop := ∃ a' c', e = .returned (.slice a' K.length c') ∧ RowH w.heap.size w' (.slice a' K.length c') K ∧ Kept (fun _ => False) w w'
set_option maxRecDepth 20000 in
set_option maxHeartbeats 4000000 in
theorem select_any (l : List Ht) (a : Option Addr) (c : Nat) (k : Int) (w : World) (h : HsAt w a l) (hlim : l.length ≤ 8796093022207) : Calls Try.prog 15 #[.slice a l.length c, .int .i64 k] w (Ans w (best k.toNat l)) := by
  have ka := Kept.alloc w (.cells #[.slice a l.length c] 26)
  have hLs : LsAt (w.alloc (.cells #[.slice a l.length c] 26)) (some ⟨w.heap.size, 0, none⟩) [⟨a, c, l⟩] := by
    intro _
    refine ⟨w.heap.size, 0, rfl, fun j hj => ?_⟩
    obtain rfl : j = 0 := by simp at hj; omega
    have h0 := row_newT w [.slice a l.length c] 26 0 _ rfl
    rw [Addr.add_mid] at h0
    exact ⟨h0, h.same ka⟩
  have hal : allH [⟨a, c, l⟩] = l := by simp [allH]
  have JN := hideT (join_any [⟨a, c, l⟩] (some ⟨w.heap.size, 0, none⟩) 1 k _ hLs (by rw [hal]; exact hlim) (by simp))
  rw [hal] at JN
  have HK := hideT ka
  clear hLs hal ka h
  obtain ⟨n, hn⟩ : ∃ n, n = l.length := ⟨_, rfl⟩
  rw [← hn] at JN HK hlim ⊢
  obtain ⟨K, hK⟩ : ∃ K, K = best k.toNat l := ⟨_, rfl⟩
  rw [← hK] at JN ⊢
  clear hn hK
  go_enter Try.func15, Try.ntmps15
  go_wp2_with (go_at_call 21; refine JN.out.mono ?_; rintro e W5 ⟨a', c', rfl, r5, k5⟩)
  go_ret
  exact ⟨a', c', rfl, r5.older HK.out.size, HK.out.trans k5 (fun _ f => f.elim)⟩
/-- The hits that h stands ahead of. -/
def behind (h : Ht) (l : List Ht) : List Ht := l.filter (fun x => decide (Bt h x))
theorem behind_take (h : Ht) (l : List Ht) (j : Nat) (hj : j < l.length) : behind h (l.take (j + 1)) = if Bt h l[j] then behind h (l.take j) ++ [l[j]] else behind h (l.take j) := by
  unfold behind
  rw [List.take_succ_eq_append_getElem hj, List.filter_append]
  by_cases q : Bt h l[j]
  · simp [q]
  · simp [q]
theorem behind_le (h : Ht) (l : List Ht) : (behind h l).length ≤ l.length := List.length_filter_le _ _
set_option maxRecDepth 20000 in
set_option maxHeartbeats 8000000 in
theorem after_any (l : List Ht) (h : Ht) (a : Option Addr) (c : Nat) (k : Int) (w : World) (hl : HsAt w a l) (hlim : l.length ≤ 8796093022207) : Calls Try.prog 17 #[.slice a l.length c, .agg #[.int .i64 h.1, .int .u64 h.2], .int .i64 k] w (Ans w (best k.toNat (behind h l))) := by
  have HL := hideT hl
  obtain ⟨m, hm⟩ : ∃ m, m = l.length := ⟨_, rfl⟩
  have HM := hideT hm
  rw [← hm] at hlim ⊢
  obtain ⟨bh, hbh⟩ : ∃ b, b = w.heap.size := ⟨_, rfl⟩
  obtain ⟨V, hV⟩ : ∃ V, V = w.alloc (.cells #[.int .i64 h.1, .int .u64 h.2] 29) := ⟨_, rfl⟩
  have kV : Kept (fun _ => False) w V := by rw [hV]; exact Kept.alloc _ _
  have bV : V.heap[bh]? = some (.cells #[.int .i64 h.1, .int .u64 h.2] 29 (0, 0)) := by rw [hV, hbh]; exact heap_alloc_new w _
  have HV := hideT kV
  have HB := hideT (And.intro ((cell_of_row _ _ _ _ _ _ bV : V.cell? ⟨bh, 0, none⟩ = _).trans rfl : V.cell? ⟨bh, 0, none⟩ = some (.int .i64 h.1)) ((cell_of_row _ _ _ _ _ _ bV : V.cell? ⟨bh, 1, none⟩ = _).trans rfl : V.cell? ⟨bh, 1, none⟩ = some (.int .u64 h.2)))
  have NW := hideT (new_any k V)
  obtain ⟨p, hp⟩ : ∃ p, p = V.heap.size := ⟨_, rfl⟩
  have HP := hideT hp
  rw [← hp] at NW
  clear hp bV kV hm hl
  go_enter Try.func17, Try.ntmps17
  go_upto_region 1 with fail
  rw [← hV, ← hbh]
  clear hV hbh
  go_upto_region 2 with (go_at_call 10; refine NW.out.mono ?_; rintro e W1 ⟨rfl, n1, n2⟩)
  have N1 := hideT n1
  have N2 := hideT n2
  clear n1 n2
  go_wp2
  go_loopw [14] (fun s14 wr => ∃ (j : Nat) (v : Value), j ≤ m ∧ s14 = .int .i64 j ∧ Hid (Keep p wr p k v (best k.toNat (behind h (l.take j)))) ∧ Hid (Kept (fun _ => False) V wr)) (fun s14 _ => m - (intOf s14).toNat)
  case atStart => exact ⟨0, .slice none 0 0, by omega, by go_num, hideT (by rw [List.take_zero]; simp only [behind, List.filter_nil, best_nil]; exact N1.out), N2⟩
  case round =>
    obtain ⟨j, v, hj, rfl, HKP, HKW⟩ := hrel
    by_cases hlt : j < m
    · have hjl : j < l.length := by rw [← HM.out]; exact hlt
      obtain ⟨b, off, rfl, hc⟩ := (HL.out.same HV.out) (by intro e; rw [e] at hjl; simp at hjl)
      obtain ⟨z0, z1⟩ := hc j hjl
      obtain ⟨x, hx⟩ : ∃ x, x = l[j] := ⟨_, rfl⟩
      rw [← hx] at z0 z1
      have HBT := hideT (behind_take h l j hjl)
      rw [← hx] at HBT
      have x0 := HKW.out.cell z0 (fun f => f)
      have x1 := HKW.out.cell z1 (fun f => f)
      have y0 := HKW.out.cell HB.out.1 (fun f => f)
      have y1 := HKW.out.cell HB.out.2 (fun f => f)
      have ka := Kept.alloc wr (.cells #[.int .i64 x.1, .int .u64 x.2] 29)
      have HKA := hideT ka
      have y2 := ka.cell y0 (fun f => f)
      have y3 := ka.cell y1 (fun f => f)
      have hjj : (j : Int) < (m : Int) := by omega
      have BT := hideT (fun W => better_any h x W)
      have OF := hideT (fun W (k' : Kept (fun _ => False) wr W) => offer_any x (HKP.out.same k') (by have h1 := best_le k.toNat (behind h (l.take j)); have h2 := behind_le h (l.take j); rw [List.length_take] at h2; omega))
      have HBW := hideT (show bh < wr.heap.size from World.block_lt_of_cell? wr _ y0)
      clear hx hc z0 z1 ka
      by_cases hb : Bt h x
      · have HBT2 := hideT (show behind h (l.take (j + 1)) = behind h (l.take j) ++ [x] by rw [HBT.out, if_pos hb])
        have BT1 := BT.out
        rw [decide_eq_true hb] at BT1
        have BT2 := hideT BT1
        clear BT BT1 hb HBT
        go_upto_region 6 with (go_at_call 19; refine (BT2.out _).mono ?_; rintro e W3 ⟨rfl, h6⟩)
        have K3 := hideT (HKA.out.trans (gw_kept h6) (fun _ f => f.elim))
        have q0 := (gw_kept h6).cell (row_newT wr [.int .i64 x.1, .int .u64 x.2] 29 0 _ rfl) (fun f => f)
        have q1 := (gw_kept h6).cell (row_newT wr [.int .i64 x.1, .int .u64 x.2] 29 1 _ rfl) (fun f => f)
        rw [Addr.add_mid] at q0 q1
        have O3 := hideT (OF.out _ K3.out)
        clear h6
        go_wp2_with (go_at_call 23; refine O3.out.mono ?_; rintro e W5 ⟨rfl, v5, k5, s5⟩)
        have HK5 := hideT (show Keep p W5 p k v5 (best k.toNat (behind h (l.take (j + 1)))) from by rw [HBT2.out, best_snoc]; exact k5)
        have HS5 := hideT (s5.young (HKW.out.trans K3.out (fun _ f => f.elim)) (by rw [HP.out]; exact Nat.le_refl _) (fun q hq => by have := (HKP.out.lt.2 q hq).1; rw [HP.out] at this; exact this))
        clear k5 s5
        go_wp2
        go_round
        case rel => exact ⟨j + 1, v5, by omega, by go_num, HK5, HS5⟩
        case measure => simp [intOf]; omega
      · have HBT2 := hideT (show behind h (l.take (j + 1)) = behind h (l.take j) by rw [HBT.out, if_neg hb])
        have BT1 := BT.out
        rw [decide_eq_false hb] at BT1
        have BT2 := hideT BT1
        clear BT BT1 hb HBT
        go_wp2_with (go_at_call 19; refine (BT2.out _).mono ?_; rintro e W3 ⟨rfl, h6⟩)
        have K3 := hideT (HKA.out.trans (gw_kept h6) (fun _ f => f.elim))
        have HK5 := hideT (show Keep p W3 p k v (best k.toNat (behind h (l.take (j + 1)))) from by rw [HBT2.out]; exact HKP.out.same K3.out)
        have HS5 := hideT (HKW.out.trans K3.out (fun _ f => f.elim))
        clear h6
        go_wp2
        go_round
        case rel => exact ⟨j + 1, v, by omega, by go_num, HK5, HS5⟩
        case measure => simp [intOf]; omega
    · obtain rfl : j = m := by omega
      have HK3 := hideT (show Keep p wr p k v (best k.toNat (behind h l)) from by have := HKP.out; rwa [show l.take j = l from List.take_of_length_le (by rw [HM.out]; exact Nat.le_refl _)] at this)
      have HT := hideT (hits_any HK3.out (by have h1 := best_le k.toNat (behind h l); have h2 := behind_le h l; have := HM.out; omega))
      have HPW := hideT (HV.out.trans HKW.out (fun _ f => f.elim))
      go_wp2_with (go_at_call 13; refine HT.out.mono ?_; rintro e W5 ⟨a', c', rfl, r5, k5⟩)
      go_ret
      exact ⟨a', c', rfl, r5.older HPW.out.size, HPW.out.trans k5 (fun _ f => f.elim)⟩
end Go.Proofs.Ytkgcafomlhfonaa.Tk
