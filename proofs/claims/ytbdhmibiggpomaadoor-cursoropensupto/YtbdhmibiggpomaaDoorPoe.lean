import Derived.Test.YtbdhmibiggpomaaDoorPod
namespace Go.Proofs.YtbdhmibiggpomaaDoor
open Go.ChangeShapes Go.WideShapes Go.ChangeAt Go.RowKit

theorem WStep.ofKept {w w' : World} {bw : Nat} {v : Value} (k : Kept (fun _ => False) w w') : WStep w w' bw v v := ⟨k.mono (fun _ f => f.elim), fun _ h => .inl h⟩
theorem far_own {w W : World} {bw : Nat} {v u : Value} {xs X : List Int} {n : Nat} {a : Option Addr} {c : Nat} (hW : Wr w bw v xs) (ho : W.ownsRow w.heap.size 3 1 u n (is X)) (hu : u = .slice a n c) : IntsFar W a X bw v := by
  obtain ⟨a', c', e, _, hcl⟩ := ints_of_own ho
  rw [hu] at e
  simp only [Value.slice.injEq, true_and] at e
  obtain ⟨rfl, _⟩ := e
  intro hne
  obtain ⟨b, off, e, hbb, _, hc⟩ := hcl hne
  refine ⟨b, off, e, ?_, hc⟩
  rintro (e1 | e1)
  · have := hW.lt; omega
  · have := (hW.own.lt b e1).2; omega
theorem psb_le : ∀ {F : List Po}, (∀ p ∈ F, Ris p.ps 0) → (psb F).length ≤ 10 * tot F
  | [], _ => Nat.zero_le _
  | p :: F, h => by
    have h1 := psb_le (F := F) (fun q hq => h q (List.mem_cons_of_mem _ hq))
    have h2 := risb_length p.ps 0 (fun x hx => ((h p (List.mem_cons_self ..)).mem x hx).2)
    rw [psb_cons, List.length_append, tot]
    omega
theorem pol_take (L : List Pg) (k : Nat) : pol (L.take k) = (pol L).take k := by simp [pol, List.map_take]
theorem pol_step {L : List Pg} {k : Nat} (h : k < L.length) : pol (L.take (k + 1)) = pol (L.take k) ++ [⟨L[k].d, L[k].ps⟩] := by
  rw [List.take_succ_eq_append_getElem h]
  unfold pol
  rw [List.map_append]
  rfl
theorem pol_at {L : List Pg} {k : Nat} (h : k < L.length) : (⟨L[k].d, L[k].ps⟩ : Po) ∈ pol L := List.mem_map.2 ⟨L[k], List.getElem_mem h, rfl⟩
theorem tot_mem : ∀ {F : List Po} {p : Po}, p ∈ F → p.ps.length ≤ tot F
  | q :: F, p, h => by
    rw [tot]
    rcases List.mem_cons.1 h with rfl | h
    · omega
    · have := tot_mem h; omega
theorem tot_take_le (F : List Po) (k : Nat) : tot (F.take k) ≤ tot F := by
  have := tot_append (F.take k) (F.drop k)
  rw [List.take_append_drop] at this
  omega
theorem gdl_at : ∀ {F : List Po} {b : Int} {k : Nat} (h : k < F.length), gdl b F → Gd1 (lastd b (F.take k)) F[k]
  | p :: F, b, 0, _, hg => by simpa [lastd] using hg.1
  | p :: F, b, k + 1, h, hg => by
    have := gdl_at (F := F) (b := p.d) (k := k) (by simpa using h) hg.2
    simpa [lastd] using this
theorem packed_le {l : List Int} (h0 : ∀ x ∈ l, 0 ≤ x) (hI : IsInts l) (hl : l.length ≤ 16) : (packed l).length ≤ 200 := by
  have h1 := orl_bits l h0 hI
  have h2 := (ulen_le l.length (by omega)).2
  have h3 : l.length * bitLen (orl l) ≤ 16 * 63 := Nat.mul_le_mul hl h1
  rw [packed_length]
  split <;> omega
theorem gdl_take {F : List Po} {b : Int} (h : gdl b F) (k : Nat) : gdl b (F.take k) := by
  have : gdl b (F.take k ++ F.drop k) := by rw [List.take_append_drop]; exact h
  exact ((gdl_append _ _ _).1 this).1
set_option maxRecDepth 20000 in
set_option maxHeartbeats 8000000 in
theorem pputBlock_any (bw : Nat) (v : Value) (xs : List Int) (L : List Pg) (a : Option Addr) (c : Nat) (b : Int) (w0 w : World) (hW : Wr w bw v xs) (hP : PsAt w0 a L) (hO : Old w0 w) (hb : w0.heap.size ≤ bw) (hv : ∀ k, v.ownBlock = some k → w0.heap.size ≤ k)
    (hg : gdl b (pol L)) (hb1 : -1 ≤ b) (hl : L.length ≤ 16) (ht : tot (pol L) ≤ 1099511627776) (hx : xs.length ≤ 70368744177664) :
    Calls Tryd.prog 61 #[.pointer (some ⟨bw, 0, none⟩), .slice a L.length c, .int .i64 b] w fun e w' => e = .returned (.tuple #[]) ∧ ∃ v', Wr w' bw v' (xs ++ blk b (pol L)) ∧ WStep w w' bw v v' := by
  have HW := hideP hW
  have HP := hideP hP
  have HO := hideP hO
  have HV := hideP hv
  have HG := hideP hg
  have HT := hideP ht
  have HBw := hideP hb
  obtain ⟨nl, hnl⟩ : ∃ nl, nl = L.length := ⟨_, rfl⟩
  rw [← hnl] at hl ⊢
  have HNL := hideP hnl
  clear hW hP hO hv hg ht hnl hb
  go_enter Tryd.func61, Tryd.ntmps61
  go_wp2
  go_loopw [2, 6, 7, 14] (fun v2 v6 v7 v14 wr => ∃ (j : Nat) (z : Int) (a1 a2 : Option Addr) (c1 c2 : Nat), j ≤ nl ∧ v14 = .int .i64 j ∧ v2 = .int .i64 z ∧ v6 = .slice a1 j c1 ∧ v7 = .slice a2 j c2 ∧ Hid (z = lastd b (pol (L.take j))) ∧ Hid (Duo w wr (.slice a1 j c1) (.slice a2 j c2) j j (gps b (pol (L.take j))) (mos (pol (L.take j))))) (fun _ _ _ v14 _ => nl - (intOf v14).toNat)
  case atStart => exact ⟨0, b, none, none, 0, 0, by omega, rfl, rfl, rfl, rfl, hideP rfl, hideP (Duo.start w)⟩
  case round =>
    obtain ⟨j, z, a1, a2, c1, c2, hj, rfl, rfl, rfl, rfl, HZ, HD⟩ := hrel
    by_cases hlt : j < nl
    · have hjj : (j : Int) < (nl : Int) := by omega
      have hjl : j < L.length := by rw [← HNL.out]; exact hlt
      obtain ⟨bl, off, rfl, hc⟩ := ((HP.out.old HO.out).kept HD.out.kept) (by intro e; rw [e] at hjl; simp at hjl)
      obtain ⟨x0, x1, -⟩ := hc j hjl
      have g1 := gdl_at (k := j) (by rw [pol_len]; exact hjl) HG.out
      rw [← pol_take] at g1
      have HS := hideP (pol_step hjl)
      have q1 := g1.up
      have q2 := g1.hi
      have q3 : (pol L)[j]'(by rw [pol_len]; exact hjl) = ⟨L[j].d, L[j].ps⟩ := by simp [pol, Pg.po]
      rw [q3] at q1 q2 g1
      have q4 := g1.ne
      simp only at q1 q2 q4
      have q5 : L[j].ps.length ≤ 1099511627776 := Nat.le_trans (tot_mem (pol_at hjl)) HT.out
      have q6 : 0 < L[j].ps.length := List.length_pos_iff.2 q4
      have q7 : -1 ≤ lastd b (pol (L.take j)) := by
        have := (gdl_last (pol (L.take j)) b (by rw [pol_take]; exact gdl_take HG.out j)).1
        omega
      rw [← HZ.out] at q1 q7
      have HZ2 : Hid (L[j].d = lastd b (pol (L.take (j + 1)))) := hideP (by rw [HS.out, lastd_append]; rfl)
      have HX : Hid (gps b (pol (L.take (j + 1))) = gps b (pol (L.take j)) ++ [L[j].d - 1 - z]) := hideP (by rw [HS.out, gps_append, ← HZ.out]; rfl)
      have HY : Hid (mos (pol (L.take (j + 1))) = mos (pol (L.take j)) ++ [(L[j].ps.length : Int) - 1]) := hideP (by rw [HS.out, mos_append]; rfl)
      clear g1 q3 q4 hc
      generalize L[j] = en at *
      obtain ⟨d, pa, pc, ps⟩ := en
      simp only at q1 q2 q5 q6 x0 x1 HZ2 HX HY
      generalize ps.length = n at *
      obtain ⟨gp, hgp⟩ : ∃ gp : Nat, d - 1 - z = (gp : Int) := ⟨(d - 1 - z).toNat, by omega⟩
      rw [hgp] at HX
      have hgb : gp ≤ 2147483647 := by omega
      have C0 : Hid (∀ W, Calls Tryd.prog 62 #[.int .i64 z, .int .i64 d] W fun e w' => e = .returned (.int .u64 (gp : Int)) ∧ w' = W) := hideP (fun W => by
        refine (between_any z d W q7 q1 (by omega)).mono ?_
        rintro e w' ⟨rfl, rfl⟩
        exact ⟨by rw [hgp], rfl⟩)
      have K0 := Kept.alloc wr (.cells #[.int .i64 d, .slice pa n pc] 42)
      have D0 := hideP (HD.out.later K0)
      have G1 := hideP D0.out.o1
      have hsz := HD.out.kept.size
      have NB1 : Hid (∀ k, (Value.slice a1 j c1).ownBlock = some k → ¬ k = wr.heap.size) := hideP (fun k hk e => by have := (HD.out.o1.lt _ hk).2; omega)
      have NB2 : Hid (∀ k, (Value.slice a2 j c2).ownBlock = some k → ¬ k = wr.heap.size) := hideP (fun k hk e => by have := (HD.out.o2.lt _ hk).2; omega)
      have y0 : (wr.alloc (.cells #[.int .i64 d, .slice pa n pc] 42)).cell? ⟨wr.heap.size, 0, none⟩ = some (.int .i64 d) := by simp
      have y1 : (wr.alloc (.cells #[.int .i64 d, .slice pa n pc] 42)).cell? ⟨wr.heap.size, 1, none⟩ = some (.slice pa n pc) := by simp
      have Y0 := hideP y0
      have Y1 := hideP y1
      clear y0 y1 K0 HD q1 q7 hgp HZ
      go_wp2_with (first
        | (go_at_call 62; refine (C0.out _).mono ?_; clear C0; rintro e W ⟨rfl, rfl⟩)
        | (at_builtin; refine wpList_pushD rfl _ _ rfl _ j (gps b (pol (L.take j))) (gp : Int) rfl G1 (by simp; omega) _ (by first | rfl | simp) rfl (by omega) ?_; clear G1; intro g1 e1 W1 O1 K1 A1; have D1 := hideP (D0.out.push1 O1.out K1.out A1.out); have G2 := hideP D1.out.o2; have y0 := K1.out.cell Y0.out (fun e => NB1.out _ e rfl); have y1 := K1.out.cell Y1.out (fun e => NB1.out _ e rfl); have s1 := D1.out.kept.size; clear D0 O1 K1 A1 Y0 Y1)
        | (at_builtin; refine wpList_pushD rfl _ _ rfl _ j (mos (pol (L.take j))) ((n : Int) - 1) rfl G2 s1 _ (by first | rfl | simp) rfl (by omega) ?_; clear G2; intro g2 e2 W2 O2 K2 A2; have D2 := hideP (D1.out.push2 O2.out K2.out A2.out); replace y0 := K2.out.cell y0 (fun e => NB2.out _ e rfl); clear y1 D1 O2 K2 A2))
      go_roundw
      case rel =>
        rw [← HX.out, ← HY.out] at D2
        exact ⟨j + 1, d, some ⟨g1, 0, none⟩, some ⟨g2, 0, none⟩, e1, e2, by omega, by go_num, rfl, rfl, rfl, HZ2, D2⟩
      case measure => simp [intOf]; omega
    · have hjj : ¬ (j : Int) < (nl : Int) := by omega
      have hje : j = L.length := by have := HNL.out; omega
      have HD2 := HD.out
      rw [hje, List.take_length] at HD2
      have hG := HG.out
      have gi := gps_ints hG hb1
      have mi := mos_intsG hG
      have F1 := hideP (far_own HW.out HD2.o1 rfl)
      have F2 := hideP (far_own HW.out HD2.o2 rfl)
      have HK := hideP HD2.kept
      have W1 := hideP (HW.out.kept HK.out (fun _ _ f => f))
      have l1 := gps_length (pol L) b
      have l2 := mos_length (pol L)
      rw [pol_len] at l1 l2
      have p1 : (packed (gps b (pol L))).length ≤ 200 := packed_le (fun x hx => (gi x hx).1) (fun x hx => by have := gi x hx; omega) (by omega)
      have p2 : (packed (mos (pol L))).length ≤ 200 := packed_le (fun x hx => (mi x hx).1) (fun x hx => by have := mi x hx; omega) (by omega)
      have p3 := psb_le (F := pol L) (fun p hp => (gdl_pos hG p hp).2)
      have C1 := hideP (packed_any bw v xs (gps b (pol L)) a1 c1 wr W1.out F1.out (fun x hx => (gi x hx).1) (fun x hx => by have := gi x hx; omega) (.inr (by omega)) (by omega) (by omega))
      have C2 : Hid (∀ (u : Value) (W : World), Wr W bw u (xs ++ packed (gps b (pol L))) → WStep wr W bw v u → Calls Tryd.prog 86 #[.pointer (some ⟨bw, 0, none⟩), .slice a2 j c2] W fun e w' => e = .returned .nilIface ∧ ∃ v', Wr w' bw v' (xs ++ packed (gps b (pol L)) ++ packed (mos (pol L))) ∧ WStep W w' bw u v') := hideP (fun u W hw hs => by
        have := packed_any bw u _ (mos (pol L)) a2 c2 W hw (F2.out.step hs) (fun x hx => (mi x hx).1) (fun x hx => by have := mi x hx; omega) (.inr (by omega)) (by omega) (by rw [List.length_append]; omega)
        rw [show j = (mos (pol L)).length by omega]
        exact this)
      rw [l1, ← hje] at C1
      obtain ⟨X0, hX0⟩ : ∃ X0, X0 = xs ++ packed (gps b (pol L)) ++ packed (mos (pol L)) := ⟨_, rfl⟩
      have hX1 : X0.length ≤ xs.length + 400 := by rw [hX0, List.length_append, List.length_append]; omega
      rw [← hX0] at C2
      have HX0 := hideP hX0
      have HP3 := hideP p3
      clear F1 F2 l1 l2 p1 p2 p3 W1 HD HD2 gi mi hX0 hG HZ hje
      go_wp2_with (first
        | (go_at_call 86; refine C1.out.mono ?_; clear C1; rintro e W2 ⟨rfl, u2, hW2, hS2⟩; have C3 := hideP (C2.out u2 W2 hW2 hS2); have HS2 := hideP hS2; clear C2 hW2 hS2)
        | (go_at_call 86; refine C3.out.mono ?_; clear C3; rintro e W3 ⟨rfl, u3, hW3, hS3⟩; have HW3 := hideP hW3; have HS3 := hideP ((WStep.ofKept HK.out).trans (HS2.out.trans hS3)); clear hW3 hS3 HS2))
      go_loopw [44] (fun v44 wr => ∃ (k : Nat) (u : Value), k ≤ nl ∧ v44 = .int .i64 k ∧ Hid (Wr wr bw u (X0 ++ psb (pol (L.take k)))) ∧ Hid (WStep w wr bw v u)) (fun v44 _ => nl - (intOf v44).toNat)
      case atStart => exact ⟨0, u3, by omega, rfl, hideP (by simpa [pol, psb] using HW3.out), HS3⟩
      case round =>
        obtain ⟨k, u, hk, rfl, HWk, HSk⟩ := hrel
        clear HW3 HS3
        by_cases hlt2 : k < nl
        · have hkk : (k : Int) < (nl : Int) := by omega
          have hkl : k < L.length := by rw [← HNL.out]; exact hlt2
          have OS := HO.out.step HSk.out HBw.out HV.out
          obtain ⟨bl, off, rfl, hc⟩ := (HP.out.old OS.1) (by intro e; rw [e] at hkl; simp at hkl)
          obtain ⟨x0, x1, -⟩ := hc k hkl
          obtain ⟨bl', off', e', hc'⟩ := HP.out (by intro e; rw [e] at hkl; simp at hkl)
          cases e'
          obtain ⟨-, -, hA⟩ := hc' k hkl
          have hri := (gdl_pos HG.out _ (pol_at hkl)).2
          have q5 : L[k].ps.length ≤ 1099511627776 := Nat.le_trans (tot_mem (pol_at hkl)) HT.out
          have hlen : (psb (pol (L.take k))).length ≤ 10 * 1099511627776 := by
            have h1 := psb_le (F := pol (L.take k)) (fun p hp => (gdl_pos HG.out p (by rw [pol_take] at hp; exact List.mem_of_mem_take hp)).2)
            have h2 := tot_take_le (pol L) k
            rw [← pol_take] at h2
            have := HT.out
            omega
          have K0 := Kept.alloc wr (.cells #[.int .i64 L[k].d, .slice L[k].a L[k].ps.length L[k].c] 42)
          have S0 : WStep w (wr.alloc (.cells #[.int .i64 L[k].d, .slice L[k].a L[k].ps.length L[k].c] 42)) bw v u := HSk.out.trans (WStep.ofKept K0)
          have OS0 := HO.out.step S0 HBw.out HV.out
          have CP := hideP (putPositions_any bw u (X0 ++ psb (pol (L.take k))) L[k].ps L[k].a L[k].c w0 _ (HWk.out.kept K0 (fun _ _ f => f)) hA OS0.1 HBw.out OS0.2 hri (by omega) (by rw [List.length_append]; omega))
          have HS0 := hideP S0
          have HN : Hid (psb (pol (L.take (k + 1))) = psb (pol (L.take k)) ++ risb L[k].ps 0) := hideP (by rw [pol_step hkl, psb_append]; simp [psb])
          clear hc hc' hA OS OS0 K0 S0 hri HWk HSk hlen
          generalize L[k] = en at *
          obtain ⟨d, pa, pc, ps⟩ := en
          simp only at q5 x0 x1 CP HN HS0
          generalize ps.length = n at *
          go_wp2_with (go_at_call 87; refine CP.out.mono ?_; clear CP; rintro e W5 ⟨rfl, u5, hW5, hS5⟩; have HW5 := hideP hW5; have HS5 := hideP (HS0.out.trans hS5); clear hW5 hS5 HS0)
          go_roundw
          case rel => exact ⟨k + 1, u5, by omega, by go_num, hideP (by rw [HN.out, ← List.append_assoc]; exact HW5.out), HS5⟩
          case measure => simp [intOf]; omega
        · have hkk : ¬ (k : Int) < (nl : Int) := by omega
          have q := HWk.out
          rw [show k = L.length by have := HNL.out; omega, List.take_length] at q
          have HQ := hideP q
          clear q HWk
          go_wp2
          go_end0
          refine ⟨rfl, u, ?_, HSk.out⟩
          have := HQ.out
          rw [HX0.out, List.append_assoc, List.append_assoc, ← List.append_assoc (packed _)] at this
          exact this
end Go.Proofs.YtbdhmibiggpomaaDoor
