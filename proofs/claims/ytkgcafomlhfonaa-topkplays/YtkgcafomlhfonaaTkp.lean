import Derived.Test.YtkgcafomlhfonaaTko
namespace Go.Proofs.Ytkgcafomlhfonaa.Tk
open Go.ChangeShapes Go.WideShapes Go.ChangeAt Go.RowKit

/-- How many of l are h. -/
def cnt (h : Ht) (l : List Ht) : Nat := l.count h
theorem cnt_take (h : Ht) (l : List Ht) (j : Nat) (hj : j < l.length) : cnt h (l.take (j + 1)) = cnt h (l.take j) + if l[j] = h then 1 else 0 := by
  unfold cnt
  rw [List.take_succ_eq_append_getElem hj, List.count_append, List.count_singleton]
  simp
theorem cnt_le (h : Ht) (l : List Ht) : cnt h l ≤ l.length := List.count_le_length
set_option maxRecDepth 20000 in
set_option maxHeartbeats 4000000 in
theorem count_any (l : List Ht) (h : Ht) (a : Option Addr) (c : Nat) (w : World) (ha : HsAt w a l) (hlim : l.length ≤ 4611686018427387904) : Calls Try.prog 25 #[.slice a l.length c, .agg #[.int .i64 h.1, .int .u64 h.2]] w fun e w' => e = .returned (.int .i64 (cnt h l : Nat)) ∧ Gw w w' := by
  have HA := hideT ha
  obtain ⟨n, hn⟩ : ∃ n, n = l.length := ⟨_, rfl⟩
  have HN := hideT hn
  rw [← hn] at hlim ⊢
  obtain ⟨bh, hbh⟩ : ∃ b, b = w.heap.size := ⟨_, rfl⟩
  obtain ⟨V, hV⟩ : ∃ V, V = w.alloc (.cells #[.int .i64 h.1, .int .u64 h.2] 29) := ⟨_, rfl⟩
  have gV : Gw w V := by rw [hV]; exact (Gw.refl w).alloc _
  have bV : V.heap[bh]? = some (.cells #[.int .i64 h.1, .int .u64 h.2] 29 (0, 0)) := by rw [hV, hbh]; exact heap_alloc_new w _
  have HV := hideT gV
  have HB := hideT (And.intro ((cell_of_row _ _ _ _ _ _ bV : V.cell? ⟨bh, 0, none⟩ = _).trans rfl : V.cell? ⟨bh, 0, none⟩ = some (.int .i64 h.1)) ((cell_of_row _ _ _ _ _ _ bV : V.cell? ⟨bh, 1, none⟩ = _).trans rfl : V.cell? ⟨bh, 1, none⟩ = some (.int .u64 h.2)))
  clear bV gV ha hn
  go_enter Try.func25, Try.ntmps25
  go_upto_region 1 with fail
  rw [← hV, ← hbh]
  clear hV hbh
  go_wp2
  go_loopw [5, 10] (fun s5 s10 wr => ∃ (j m : Nat), j ≤ n ∧ m ≤ j ∧ s10 = .int .i64 j ∧ s5 = .int .i64 m ∧ Hid (m = cnt h (l.take j)) ∧ Hid (Gw V wr)) (fun _ s10 _ => n - (intOf s10).toNat)
  case atStart => exact ⟨0, 0, by omega, by omega, by go_num, by go_num, hideT (by simp [cnt]), hideT (Gw.refl _)⟩
  case round =>
    obtain ⟨j, m, hj, hmj, rfl, rfl, HC, HK⟩ := hrel
    by_cases hlt : j < n
    · have hjl : j < l.length := by rw [← HN.out]; exact hlt
      obtain ⟨gb, go, rfl, hc⟩ := HA.out (by intro e; rw [e] at hjl; simp at hjl)
      obtain ⟨x, hx⟩ : ∃ x, x = l[j] := ⟨_, rfl⟩
      obtain ⟨x0, x1⟩ := hc j hjl
      have HCT := hideT (cnt_take h l j hjl)
      rw [← hx] at x0 x1 HCT
      have kk := hideT ((gw_kept HV.out).trans (gw_kept HK.out) (fun _ f => f.elim))
      have x0 := kk.out.cell x0 (fun f => f)
      have x1 := kk.out.cell x1 (fun f => f)
      have y0 := (gw_kept HK.out).cell HB.out.1 (fun f => f)
      have y1 := (gw_kept HK.out).cell HB.out.2 (fun f => f)
      have ka := Kept.alloc wr (.cells #[.int .i64 x.1, .int .u64 x.2] 29)
      have y2 := ka.cell y0 (fun f => f)
      have y3 := ka.cell y1 (fun f => f)
      have hjj : (j : Int) < (n : Int) := by omega
      have HK2 := hideT (HK.out.alloc (.cells #[.int .i64 x.1, .int .u64 x.2] 29))
      clear hc hx ka
      by_cases he : x = h
      · have h2 := HCT.out
        rw [if_pos he, ← HC.out] at h2
        have H2 := hideT h2
        subst he
        clear h2 HCT
        go_wp2
        go_round
        case rel => exact ⟨j + 1, m + 1, by omega, by omega, by go_num, by go_num, hideT H2.out.symm, HK2⟩
        case measure => simp [intOf]; omega
      · have h2 := HCT.out
        rw [if_neg he, ← HC.out] at h2
        have H2 := hideT h2
        have hd : ¬ (x.1 = h.1 ∧ x.2 = h.2) := fun e => he (Prod.ext e.1 e.2)
        clear h2 HCT he
        obtain ⟨xa, xb⟩ := x
        simp only at x0 x1 y2 y3 hd HK2
        by_cases e1 : xa = h.1
        · have e2 : ¬ xb = h.2 := fun e => hd ⟨e1, e⟩
          clear hd
          subst e1
          go_wp2
          go_round
          case rel => exact ⟨j + 1, m, by omega, by omega, by go_num, by go_num, hideT H2.out.symm, HK2⟩
          case measure => simp [intOf]; omega
        · clear hd
          go_wp2
          go_round
          case rel => exact ⟨j + 1, m, by omega, by omega, by go_num, by go_num, hideT H2.out.symm, HK2⟩
          case measure => simp [intOf]; omega
    · obtain rfl : j = n := by omega
      have h2 := HC.out
      rw [show l.take j = l from List.take_of_length_le (by rw [HN.out]; exact Nat.le_refl _)] at h2
      have H2 := hideT h2
      clear h2
      go_wp2
      go_ret
      exact ⟨by rw [← H2.out]; rfl, HV.out.trans HK.out⟩
theorem offer_to {B p : Nat} {k : Int} {v : Value} {K : List Ht} {w : World} (x : Ht) (b : Bool) (K' : List Ht) (h : Keep B w p k v K) (hb : offB k K x = b) (hK : off k.toNat K x = K') (hlim : K.length + 1 ≤ 8796093022208) : Calls Try.prog 23 #[.pointer (some ⟨p, 0, none⟩), .agg #[.int .i64 x.1, .int .u64 x.2]] w fun e w' => e = .returned (.bool b) ∧ ∃ v', Keep B w' p k v' K' ∧ KStep w w' p v v' := by
  subst hb hK
  exact offer_any x h hlim
theorem newHs2 (w : World) (y z : Ht) : HsAt (w.alloc (.cells #[.int .i64 y.1, .int .u64 y.2, .int .i64 z.1, .int .u64 z.2] 29)) (some ⟨w.heap.size, 0, none⟩) [y, z] := by
  intro _
  have h0 := fun j u hj => row_newT w [.int .i64 y.1, .int .u64 y.2, .int .i64 z.1, .int .u64 z.2] 29 j u hj
  have e0 := h0 0 _ rfl
  have e1 := h0 1 _ rfl
  have e2 := h0 2 _ rfl
  have e3 := h0 3 _ rfl
  rw [Addr.add_mid] at e0 e1 e2 e3
  refine ⟨w.heap.size, 0, rfl, fun k hk => ?_⟩
  have : k = 0 ∨ k = 1 := by simp at hk; omega
  rcases this with rfl | rfl
  · exact ⟨e0, e1⟩
  · exact ⟨e2, e3⟩
set_option maxRecDepth 20000 in
set_option maxHeartbeats 4000000 in
theorem fixed_any (w : World) : Calls Try.prog 9 #[] w fun e w' => e = .returned (.bool true) ∧ Kept (fun _ => False) w w' := by
  have NW := hideT (new_any 2 w)
  obtain ⟨p, hp⟩ : ∃ p, p = w.heap.size := ⟨_, rfl⟩
  have HP := hideT hp
  rw [← hp] at NW
  clear hp
  go_enter Try.func9, Try.ntmps9
  go_upto_region 2 with (go_at_call 10; refine NW.out.mono ?_; rintro e W0 ⟨rfl, k0, q0⟩)
  go_upto_region 4 with (go_at_call 23; first
    | (refine (offer_to (9, 8) true [(9, 8), (4, 7)] k3 (by decide) (by decide) (by decide)).mono ?_; rintro e W4 ⟨rfl, v4, k4, s4⟩)
    | (refine (offer_to (6, 7) false [(4, 7), (5, 7)] k2 (by decide) (by decide) (by decide)).mono ?_; rintro e W3 ⟨rfl, v3, k3, s3⟩)
    | (refine (offer_to (4, 7) true [(4, 7), (5, 7)] k1 (by decide) (by decide) (by decide)).mono ?_; rintro e W2 ⟨rfl, v2, k2, s2⟩)
    | (refine (offer_to (5, 7) true [(5, 7)] k0 (by decide) (by decide) (by decide)).mono ?_; rintro e W1 ⟨rfl, v1, k1, s1⟩))
  have HK := hideT (show Kept (fun _ => False) w W4 from by
    have hy : ∀ (W W' : World) (v v' : Value) (K : List Ht), Keep p W p 2 v K → KStep W W' p v v' → Kept (fun _ => False) w W → Kept (fun _ => False) w W' := fun W W' v v' K hk hs hkk => hs.young hkk (by rw [HP.out]; exact Nat.le_refl _) (fun i hi => by have := (hk.lt.2 i hi).1; rw [HP.out] at this; exact this)
    exact hy _ _ _ _ _ k3 s4 (hy _ _ _ _ _ k2 s3 (hy _ _ _ _ _ k1 s2 (hy _ _ _ _ _ k0 s1 q0))))
  have HT := hideT (hits_any k4 (by decide))
  clear k0 k1 k2 k3 k4 s1 s2 s3 s4 q0
  go_wp2_with (first
    | (go_at_call 13; refine HT.out.mono ?_; rintro e W5 ⟨a', c', rfl, r5, k5⟩)
    | (go_at_call 12; refine (equal_same [(9, 8), (4, 7)] a' (some ⟨W5.heap.size, 0, none⟩) c' 2 _ (r5.hs.same (Kept.alloc _ _)) (newHs2 W5 (9, 8) (4, 7)) (by decide)).mono ?_; rintro e W6 ⟨rfl, k6⟩)
    | (go_at_call 19; refine (better_any (1, 9) (3, 9) _).mono ?_; rintro e W7 ⟨rfl, k7⟩))
  go_ret
  refine ⟨by simp [Bt], HK.out.trans (k5.trans ((Kept.alloc _ _).trans (k6.trans (gw_kept k7) (fun _ f => f.elim)) (fun _ f => f.elim)) (fun _ f => f.elim)) (fun _ f => f.elim)⟩
end Go.Proofs.Ytkgcafomlhfonaa.Tk
