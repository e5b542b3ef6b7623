import Derived.Test.YtehjbceknnopoaaDoorPka
namespace Go.Proofs.YtehjbceknnopoaaDoor
open Go.ChangeShapes Go.WideShapes Go.ChangeAt Go.RowKit

theorem rpack_zero (v : Value) (w : World) :
    Calls Tryd.prog 17 #[.int .u8 0, v] w fun e w' => e = .returned (.tuple #[.slice none 0 0, .int .i64 6]) ∧ w' = w := by
  go_enter Tryd.func17, Tryd.ntmps17
  go_wp2
  go_ret2
  exact ⟨rfl, rfl⟩
set_option maxRecDepth 20000 in
set_option maxHeartbeats 4000000 in
theorem rpack_any (kind : Nat) (S : List BkD) (a : Option Addr) (c : Nat) (w : World) (hk : 0 < kind) (hk2 : kind < 256) (hS : BksAt w a S) (hA : ∀ x ∈ S, x.At w) (htot : btot S ≤ 1073741824) :
    Calls Tryd.prog 17 #[.int .u8 kind, .slice a S.length c] w fun e w' =>
      (∃ a' c', (∀ x ∈ S, 0 < x.t) ∧ e = .returned (.tuple #[.slice a' (penc kind S).length c', .int .i64 0]) ∧ OwnB w w' (.slice a' (penc kind S).length c') (penc kind S)) ∨
      ((∃ x ∈ S, x.t = 0) ∧ e = .returned (.tuple #[.slice none 0 0, .int .i64 6]) ∧ Kept (fun _ => False) w w') := by
  have hcount := btot_count S
  have hbl := bencs_small S (by omega)
  have hul := (ulen_le S.length (by omega)).2
  have hph := phead_length kind S
  have hpe := penc_length kind S
  have hpb : IsBytes (phead kind S) := phead_bytes hk2 fun x hx => ⟨(hA x hx).t2, (hA x hx).i⟩
  obtain ⟨u, hu⟩ : ∃ u, u = uvb S.length := ⟨_, rfl⟩
  obtain ⟨nu, hnu⟩ : ∃ n, n = u.length := ⟨_, rfl⟩
  obtain ⟨pre, hpre⟩ : ∃ p, p = cncd kind ++ u := ⟨_, rfl⟩
  obtain ⟨n0, hn0⟩ : ∃ n, n = pre.length := ⟨_, rfl⟩
  have hprl : pre.length = 5 + ulen S.length := by rw [hpre, List.length_append, hu, uvb_length]; rfl
  have O0 : Hid (OwnB w (w.alloc (.cells #[.int .u8 99, .int .u8 110, .int .u8 99, .int .u8 100, .int .u8 kind] 5)) (.slice (some ⟨w.heap.size, 0, none⟩) 5 5) (cncd kind)) := ownB_lit w (cncd kind) (by show 5 ≤ 1099511627776; decide)
  have UV : Hid (∀ W, Hid (OwnB w W (.slice (some ⟨w.heap.size, 0, none⟩) 5 5) (cncd kind)) → Calls Tryd.prog 35 #[.int .u64 S.length] W fun e W' => ∃ a1 c1, e = .returned (.slice a1 nu c1) ∧ Hid (OwnB w W' (.slice (some ⟨w.heap.size, 0, none⟩) 5 5) (cncd kind)) ∧ Hid (BytesAt W' a1 u) ∧ Hid (a1 = none → c1 = 0)) := by
    intro W q
    refine (ruvarint_any S.length W (by omega)).mono ?_
    rintro e W' ⟨a1, c1, rfl, ho⟩
    rw [hnu, hu]
    obtain ⟨a2, c2, e2, hb2, hz2⟩ := ho.at
    simp only [Value.slice.injEq] at e2
    obtain ⟨rfl, _, rfl⟩ := e2
    exact ⟨a1, c1, rfl, q.out.same ho.kept, hb2, hz2⟩
  have EN : Hid (∀ k (hlt : k < S.length), 0 < (S[k]).t → ∀ W v xs, Hid (OwnB w W v xs) → ∀ o, Calls Tryd.prog 36 #[.int .u8 (S[k]).t, .slice (S[k]).a (S[k]).B.length (S[k]).c] (W.alloc o) fun e W' => ∃ a1 c1, e = .returned (.tuple #[.slice a1 (benc (S[k]).t (S[k]).B).length c1, .int .i64 0]) ∧ Hid (OwnB w W' v xs) ∧ Hid (BytesAt W' a1 (benc (S[k]).t (S[k]).B)) ∧ Hid (a1 = none → c1 = 0)) := by
    intro k hlt ht W v xs q o
    have hx := hA _ (List.getElem_mem hlt)
    have q2 := q.out.same (Kept.alloc W o)
    have hm := btot_mem (List.getElem_mem hlt)
    simp only [BkD.size] at hm
    refine (rencode_any _ _ _ _ (W.alloc o) ht hx.t2 (bytes_keptF hx.b q2.kept) hx.i hx.z (by omega)).mono ?_
    rintro e W' ⟨a1, c1, rfl, ho⟩
    obtain ⟨a2, c2, e2, hb2, hz2⟩ := ho.at
    simp only [Value.slice.injEq] at e2
    obtain ⟨rfl, _, rfl⟩ := e2
    exact ⟨a1, c1, rfl, q2.same ho.kept, hb2, hz2⟩
  have hend : pre ++ bencs (S.take S.length) = phead kind S := by rw [List.take_length, hpre, hu]; rfl
  obtain ⟨s1, hs1⟩ : ∃ s, s = sealed (phead kind S) := ⟨_, rfl⟩
  have SL : Hid (∀ W a1 m c1, Hid (OwnB w W (.slice a1 m c1) (pre ++ bencs (S.take S.length))) → Calls Tryd.prog 21 #[.slice a1 m c1] W fun e W' => e = .returned (.int .u32 s1) ∧ W' = W) := by
    intro W a1 m c1 q
    rw [hend] at q
    obtain ⟨a2, c2, e2, hb2, hz2⟩ := q.out.at
    simp only [Value.slice.injEq] at e2
    obtain ⟨rfl, rfl, rfl⟩ := e2
    rw [hs1]
    exact rsealed_any _ _ _ W hb2 hpb (by omega)
  have WD : Hid (∀ W, Calls Tryd.prog 37 #[.int .u32 s1] W fun e W' => e = .returned (.slice (some ⟨W.heap.size, 0, none⟩) 4 4) ∧ W' = W.alloc (.cells (bs (le 4 s1)).toArray 5)) := fun W => rword_any s1 W (by rw [hs1]; exact sealed_lt _)
  have Y0 := hideC hpre
  have NU := hideC hnu
  have N0 := hideC hn0
  have L0 : Hid (pre.length ≤ 140737488355328) := by show pre.length ≤ _; omega
  have LK : Hid (∀ k, (pre ++ bencs (S.take k)).length ≤ 140737488355328) := by
    intro k
    have := bencs_take_le S k
    rw [List.length_append]
    omega
  obtain ⟨y3, hy3⟩ : ∃ y, y = penc kind S := ⟨_, rfl⟩
  obtain ⟨n3, hn3⟩ : ∃ n, n = y3.length := ⟨_, rfl⟩
  have Y3 : Hid (y3 = pre ++ bencs (S.take S.length) ++ le 4 s1) := by show y3 = _; rw [hy3, hend, hs1]; rfl
  have N3 := hideC hn3
  have L3 : Hid (y3.length ≤ 140737488355328) := by show y3.length ≤ _; rw [hy3]; omega
  have N4 : Hid (4 = (le 4 s1).length) := by show 4 = _; rw [le_length]
  have Z0 : ∀ g : Nat, Hid ((some ⟨g, 0, none⟩ : Option Addr) = none → 4 = 0) := fun g e => nomatch e
  rw [← hy3, ← hn3]
  have HS := hideC hS
  have htI : (kind : Int) ≠ 0 := by omega
  have hcb : S.length ≤ 1073741824 := by omega
  clear hcount hbl hul hph hpe hpb hu hnu hpre hn0 hprl hend hs1 hy3 hn3 htot hA hS
  go_enter Tryd.func17, Tryd.ntmps17
  go_wp2_with (first
    | (go_at_call 35; refine (UV.out _ O0).mono ?_; rintro e W1 ⟨a1, c1, rfl, O1, B1, Z1⟩)
    | (at_builtin; refine wpList_apn rfl _ _ rfl _ (cncd kind) u pre nu n0 rfl a1 c1 rfl NU Y0 N0 O1 B1 Z1 L0 ?_; clear O1; intro a2 c2 W2 O2))
  go_loopw [6, 23] (fun out i wr => ∃ (k : Nat) (ao : Option Addr) (m co : Nat), k ≤ S.length ∧ i = .int .i64 k ∧ out = .slice ao m co ∧ Hid (∀ x ∈ S.take k, 0 < x.t) ∧ Hid (OwnB w wr (.slice ao m co) (pre ++ bencs (S.take k)))) (fun _ i _ => S.length - (intOf i).toNat)
  case atStart =>
    refine ⟨0, a2, n0, c2, Nat.zero_le _, rfl, rfl, fun x hx => by simp at hx, ?_⟩
    rw [List.take_zero, bencs_nil, List.append_nil]
    exact O2
  case round =>
    obtain ⟨k, ao, m, co, hkn, rfl, rfl, HP, HQ⟩ := hrel
    by_cases hlt : k < S.length
    · obtain ⟨b, off, rfl, hc⟩ := HS.out (by intro e; rw [e] at hlt; simp at hlt)
      have h0 := HQ.out.kept.cell (hc k hlt).1 (fun f => f)
      have h1 := HQ.out.kept.cell (hc k hlt).2 (fun f => f)
      by_cases ht : (S[k]).t = 0
      · have hex : Hid (∃ x ∈ S, x.t = 0) := ⟨_, List.getElem_mem hlt, ht⟩
        rw [ht] at h0
        have z0 : ((0 : Nat) : Int) = 0 := rfl
        rw [z0] at h0
        have RZ := hideC rencode_zero
        generalize S[k] = x at h1
        obtain ⟨t, ab, cb, B⟩ := x
        simp only at h1
        generalize B.length = nb at h1
        clear ht hc HP EN UV SL WD
        go_wp2_with (go_at_call 36; refine (RZ.out _ _).mono ?_; rintro e W5 ⟨rfl, e5⟩; subst e5)
        go_ret2
        exact .inr ⟨hex.out, rfl, HQ.out.kept.trans (Kept.alloc _ _) (fun _ f => f.elim)⟩
      · have ht' : 0 < (S[k]).t := by omega
        have HP2 : Hid (∀ x ∈ S.take (k + 1), 0 < x.t) := by
          intro x hx
          rw [take_nextB hlt, List.mem_append, List.mem_singleton] at hx
          rcases hx with hx | rfl
          · exact HP.out x hx
          · exact ht'
        have EN2 := hideC (EN.out k hlt ht' wr _ _ HQ)
        obtain ⟨ys, hys⟩ : ∃ y, y = pre ++ bencs (S.take (k + 1)) := ⟨_, rfl⟩
        obtain ⟨ny, hny⟩ : ∃ n, n = ys.length := ⟨_, rfl⟩
        have YS : Hid (ys = pre ++ bencs (S.take k) ++ benc (S[k]).t (S[k]).B) := by show ys = _; rw [hys, take_nextB hlt, bencs_snoc, List.append_assoc]
        have NY := hideC hny
        have HYS := hideC hys
        have LY : Hid (ys.length ≤ 140737488355328) := by show ys.length ≤ _; rw [hys]; exact LK.out _
        generalize S[k] = x at h0 h1 EN2 YS
        obtain ⟨e1, he1⟩ : ∃ l, l = benc x.t x.B := ⟨_, rfl⟩
        rw [← he1] at EN2 YS
        obtain ⟨nx, hnx⟩ : ∃ n, n = e1.length := ⟨_, rfl⟩
        rw [← hnx] at EN2
        have NX := hideC hnx
        obtain ⟨t, ab, cb, B⟩ := x
        simp only at h0 h1 EN2
        obtain ⟨nb, hnb⟩ : ∃ n, n = B.length := ⟨_, rfl⟩
        rw [← hnb] at h1 EN2
        clear hnb hnx he1 ht ht' hc HP EN UV SL WD hys hny HQ
        go_wp2_with (first
          | (go_at_call 36; refine (EN2.out _).mono ?_; clear EN2; rintro e W5 ⟨a5, c5, rfl, O5, B5, Z5⟩)
          | (at_builtin; refine wpList_apn rfl _ _ rfl _ (pre ++ bencs (S.take k)) e1 ys nx ny rfl a5 c5 rfl NX YS NY O5 B5 Z5 LY ?_; clear O5; intro a6 c6 W6 O6))
        go_roundw
        case rel =>
          refine ⟨k + 1, a6, ny, c6, by omega, by go_num, rfl, HP2, ?_⟩
          rw [← HYS.out]
          exact O6
        case measure => simp [intOf]; omega
    · obtain rfl : k = S.length := by omega
      have hall : Hid (∀ x ∈ S, 0 < x.t) := by have := HP.out; rwa [List.take_length] at this
      have SL2 := hideC (SL.out _ _ _ _ HQ)
      clear HP EN UV SL HS
      go_wp2_with (first
        | (go_at_call 21; refine SL2.out.mono ?_; rintro e W3 ⟨rfl, e3⟩; subst e3)
        | (go_at_call 37; refine (WD.out _).mono ?_; rintro e W4 ⟨rfl, e4⟩; subst e4; have O4 := hideC (HQ.out.alloc (.cells (bs (le 4 s1)).toArray 5)); have B4 := hideC (built_bytes W3 (le 4 s1) (0, 0)))
        | (at_builtin; refine wpList_apn rfl _ _ rfl _ (pre ++ bencs (S.take S.length)) (le 4 s1) y3 4 n3 rfl (some ⟨W3.heap.size, 0, none⟩) 4 rfl N4 Y3 N3 O4 B4 (Z0 _) L3 ?_; clear O4; intro a5 c5 W5 O5))
      go_ret2
      exact .inl ⟨a5, c5, hall.out, rfl, O5.out⟩
end Go.Proofs.YtehjbceknnopoaaDoor
