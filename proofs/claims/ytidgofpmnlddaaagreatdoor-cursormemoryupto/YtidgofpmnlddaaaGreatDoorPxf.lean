import Derived.Test.YtidgofpmnlddaaaGreatDoorPxe
namespace Go.Proofs.YtidgofpmnlddaaaGreatDoor
open Go.ChangeShapes Go.WideShapes Go.ChangeAt Go.RowKit

theorem Tryz.sizePo : (Tryz.prog.info? 38).map (fun i => (i.zero, i.size)) = some (some (.agg #[.int .i64 0, .slice none 0 0]), 2) := by kernel_rfl
theorem dps_none {l : List Int} {k p : Nat} {last : Int} (h : dnu l p = none) : dps l (k + 1) last p = none := by rw [dps, h]
theorem dps_some {l : List Int} {k p x q : Nat} {last : Int} (h : dnu l p = some (x, q)) : dps l (k + 1) last p = if last = 9223372036854775807 ∨ 9223372036854775806 - last < (x : Int) then none else preI [last + ((x : Int) + 1)] (dps l k (last + ((x : Int) + 1)) q) := by rw [dps, h]
theorem ints_cellX {W : World} {a : Option Addr} {l : List Int} (h : IntsAt W a l) {k : Nat} (hk : k < l.length) : ∃ b off, a = some ⟨b, off, none⟩ ∧ W.cell? ⟨b, off + k, none⟩ = some (.int .i64 l[k]) := by
  obtain ⟨b, off, e, hc⟩ := h (by intro e; rw [e] at hk; simp at hk)
  have := hc k hk
  rw [List.getElem?_eq_getElem hk] at this
  exact ⟨b, off, e, this⟩
/-- Numbers in memory that lies apart from the reader and from a list. -/
structure Apt (W wr : World) (rb : Nat) (v : Value) (ga : Option Addr) (G : List Int) : Prop where
  at_ : IntsAt wr ga G
  far : G ≠ [] → ∀ b off, ga = some ⟨b, off, none⟩ → v.ownBlock ≠ some b ∧ W.heap.size ≤ b
theorem Apt.keep {W wr w' : World} {rb : Nat} {v : Value} {ga : Option Addr} {G : List Int} (h : Apt W wr rb v ga G) (hrb : rb < W.heap.size) (k : Kept (fun x => x = rb) wr w') : Apt W w' rb v ga G := by
  refine ⟨ints_step h.at_ k (fun hne => ?_), h.far⟩
  obtain ⟨b, off, e, _⟩ := h.at_ hne
  exact ⟨b, off, e, fun hb => by have := (h.far hne b off e).2; omega⟩
theorem Apt.grow {W wr w' : World} {rb : Nat} {v v' : Value} {ga : Option Addr} {G : List Int} (h : Apt W wr rb v ga G) (k : Kept (fun x => v.ownBlock = some x) wr w') (hn : ∀ x, v'.ownBlock = some x → v.ownBlock = some x ∨ wr.heap.size ≤ x) : Apt W w' rb v' ga G := by
  refine ⟨ints_step h.at_ k (fun hne => ?_), fun hne b off e => ⟨fun hv => ?_, (h.far hne b off e).2⟩⟩
  · obtain ⟨b, off, e, _⟩ := h.at_ hne
    exact ⟨b, off, e, (h.far hne b off e).1⟩
  · rcases hn b hv with q | q
    · exact (h.far hne b off e).1 q
    · obtain ⟨b', off', e', hc⟩ := h.at_ hne
      rw [e] at e'
      simp only [Option.some.injEq, Addr.mk.injEq, and_true] at e'
      obtain ⟨rfl, rfl⟩ := e'
      have := World.block_lt_of_cell? wr _ (hc 0 (List.length_pos_iff.2 hne))
      simp only at this
      omega
theorem pol_snoc (PL : List Pg) (g : Pg) : pol (PL ++ [g]) = pol PL ++ [g.po] := by simp [pol]
theorem tot_snoc (F : List Po) (x : Po) : tot (F ++ [x]) = tot F + x.ps.length := by rw [tot_append]; simp [tot]
set_option maxRecDepth 20000 in
set_option maxHeartbeats 16000000 in
theorem blk8_any (m : Nat) (hm : m ≤ 16) (b0 : Int) (hb0 : -1 ≤ b0 ∧ b0 ≤ 2147483646) (l : List Int) (a : Option Addr) (n c p rb : Nat) (W : World) (hR : RdX W rb a n c p false) (hn : n = l.length) (hB : BytesAt W a l) (hI : IsBytes l) (hp : p ≤ l.length) (hl : l.length ≤ 1073741824) (hfr : l ≠ [] → ∀ b off, a = some ⟨b, off, none⟩ → b ≠ rb) :
    Calls Tryz.prog 31 #[.pointer (some ⟨rb, 0, none⟩), .int .i64 (m : Nat), .int .i64 b0] W (bkP W l rb a n c p m (dbk l m b0 p)) := by
  have hrb : rb < W.heap.size := lt_of_block hR
  have HB : Hid (∀ V, Kept (fun x => x = rb) W V → BytesAt V a l) := hideP (fun V k hne => by
    obtain ⟨b, off, e, hc⟩ := hB hne
    exact ⟨b, off, e, fun j hj => k.cell (hc j hj) (fun hb => hfr hne b off e hb)⟩)
  have HI := hideP hI
  have HNL := hideP hn
  have HL := hideP hl
  have hnb : n ≤ 1073741824 := by omega
  have hpn : p ≤ n := by omega
  obtain ⟨R, hRe⟩ : ∃ R, R = dbk l m b0 p := ⟨_, rfl⟩
  rw [← hRe]
  have HRe := hideP hRe
  have HRx := hideP (hR.kept (Kept.alloc W (.cells #[] 38)))
  have kE : Kept (fun x => x = rb) W (W.alloc (.cells #[] 38)) := (Kept.alloc W _).mono (fun _ f => f.elim)
  have CP1 := hideP (pak8_ok m l a n c p rb (W.alloc (.cells #[] 38)) HRx.out hn (HB.out _ kE) hI hp (by omega))
  have HG0 : Hid (Gps (fun i => i = rb) W (W.alloc (.cells #[] 38)) (.slice (some ⟨W.heap.size, 0, none⟩) 0 0) 0 []) := hideP ⟨(gro_empty W W 38 2 (Kept.refl _ _)).own, kE, fun g hg => (by cases hg), fun g hg => (by cases hg)⟩
  have hWE : (W.alloc (.cells #[] 38)).heap.size = W.heap.size + 1 := by simp
  clear hR hB hI hn hp hl hRe hfr
  go_enter Tryz.func31, Tryz.ntmps31
  go_wp2_with (go_at_call 51; refine StpQ.go ?_)
  refine ⟨?_⟩
  generalize W.alloc (.cells #[] 38) = WE at *
  cases hd1 : dpa l m p with
  | none =>
    rw [hd1] at CP1
    have HRn : Hid (R = none) := hideP (by rw [HRe.out]; unfold dbk; rw [hd1])
    clear hd1
    refine CP1.out.mono ?_
    clear CP1
    rintro e W1 ⟨rfl, hR1, k1⟩
    have kW1 := kE.trans k1 (fun i hi => .inl hi)
    have CP2 := hideP (pak8_bad m l a n c p rb W1 hR1 HNL.out (HB.out _ kW1) HI.out (by have := HNL.out; omega) (by have := HL.out; omega))
    have HK1 := hideP kW1
    have HG1 := hideP (HG0.out.step k1 (fun i hi => ⟨hi, by omega⟩))
    clear hR1 k1 kW1 HG0 kE
    go_wp2_with (go_at_call 51; refine StpQ.go ?_)
    refine ⟨?_⟩
    refine CP2.out.mono ?_
    clear CP2
    rintro e W2 ⟨rfl, hR2, k2⟩
    have HG2 := hideP (HG1.out.step k2 (fun i hi => ⟨hi, by omega⟩))
    have HR2 := hideP hR2
    obtain ⟨⟨d0, d1, d2⟩, -⟩ := row3 hR2
    clear hR2 k2 HG1 d0 d1
    go_wp2
    go_loopw [7, 10] (fun s7 s10 wr => s7 = .slice (some ⟨W.heap.size, 0, none⟩) 0 0 ∧ s10 = .int .i64 0 ∧ W2 = wr) (fun _ _ _ => 0)
    case atStart => exact ⟨rfl, rfl, rfl⟩
    case round =>
      obtain ⟨rfl, rfl, rfl⟩ := hrel
      by_cases hm0 : m = 0
      · subst hm0
        go_wp2
        go_ret
        exact ⟨[], _, _, 0, p, true, rfl, HG2.out, fun g hg => (by cases hg), HR2.out, by have := HNL.out; omega, Nat.le_refl _, Nat.zero_le _, fun h => (by cases h), fun _ => HRn.out⟩
      · have g1 : (0 : Int) < (m : Int) := by omega
        go_wp2
        go_ret
        exact ⟨[], _, _, 0, p, true, rfl, HG2.out, fun g hg => (by cases hg), HR2.out, by have := HNL.out; omega, Nat.le_refl _, Nat.zero_le _, fun h => (by cases h), fun _ => HRn.out⟩
  | some Gq =>
    obtain ⟨G, q⟩ := Gq
    obtain ⟨gq1, gq2, gq3, gq4, gq5⟩ := dpa_back HI.out hd1
    rw [hd1] at CP1
    refine CP1.out.mono ?_
    clear CP1
    rintro e W1 ⟨ga, gc, rfl, hI1, hN1, hR1, k1⟩
    have kW1 := kE.trans k1 (fun i hi => .inl hi)
    have CP2 := hideP (pak8_ok m l a n c q rb W1 hR1 HNL.out (HB.out _ kW1) HI.out gq2 (by have := HL.out; omega))
    have HK1 := hideP kW1
    have HG1 := hideP (HG0.out.step k1 (fun i hi => ⟨hi, by omega⟩))
    have HA1 : Hid (Apt W W1 rb (.slice (some ⟨W.heap.size, 0, none⟩) 0 0) ga G) := hideP ⟨hI1, fun hne b off e => ⟨fun hv => by
      have h1 := hN1 b off e
      simp [Value.ownBlock] at hv
      omega, by have h1 := hN1 b off e; omega⟩⟩
    have HGL := hideP gq5
    have HGI := hideP gq3
    have HGZ := hideP gq4
    rw [gq5]
    clear hI1 hN1 hR1 k1 kW1 HG0 kE gq3 gq4 gq5
    go_wp2_with (go_at_call 51; refine StpQ.go ?_)
    refine ⟨?_⟩
    cases hd2 : dpa l m q with
    | none =>
      rw [hd2] at CP2
      have HRn : Hid (R = none) := hideP (by rw [HRe.out]; unfold dbk; rw [hd1]; simp only; rw [hd2])
      clear hd1 hd2
      refine CP2.out.mono ?_
      clear CP2
      rintro e W2 ⟨rfl, hR2, k2⟩
      have HG2 := hideP (HG1.out.step k2 (fun i hi => ⟨hi, by omega⟩))
      have HR2 := hideP hR2
      obtain ⟨⟨d0, d1, d2⟩, -⟩ := row3 hR2
      clear hR2 k2 HG1 d0 d1 HA1
      go_wp2
      go_loopw [7, 10] (fun s7 s10 wr => s7 = .slice (some ⟨W.heap.size, 0, none⟩) 0 0 ∧ s10 = .int .i64 0 ∧ W2 = wr) (fun _ _ _ => 0)
      case atStart => exact ⟨rfl, rfl, rfl⟩
      case round =>
        obtain ⟨rfl, rfl, rfl⟩ := hrel
        by_cases hm0 : m = 0
        · subst hm0
          go_wp2
          go_ret
          exact ⟨[], _, _, 0, q, true, rfl, HG2.out, fun g hg => (by cases hg), HR2.out, gq2, by omega, Nat.zero_le _, fun h => (by cases h), fun _ => HRn.out⟩
        · have g1 : (0 : Int) < (m : Int) := by omega
          go_wp2
          go_ret
          exact ⟨[], _, _, 0, q, true, rfl, HG2.out, fun g hg => (by cases hg), HR2.out, gq2, by omega, Nat.zero_le _, fun h => (by cases h), fun _ => HRn.out⟩
    | some Mq =>
      obtain ⟨M, r⟩ := Mq
      obtain ⟨mq1, mq2, mq3, mq4, mq5⟩ := dpa_back HI.out hd2
      rw [hd2] at CP2
      have HRs : Hid (R = dbs l b0 G M r) := hideP (by rw [HRe.out]; unfold dbk; rw [hd1]; simp only; rw [hd2])
      clear hd1 hd2 HRe
      refine CP2.out.mono ?_
      clear CP2
      rintro e W2 ⟨ma, mc, rfl, hI2, hN2, hR2, k2⟩
      have HG2 := hideP (HG1.out.step k2 (fun i hi => ⟨hi, by omega⟩))
      have HA2 := hideP (HA1.out.keep hrb k2)
      have HA3 : Hid (Apt W W2 rb (.slice (some ⟨W.heap.size, 0, none⟩) 0 0) ma M) := hideP ⟨hI2, fun hne b off e => ⟨fun hv => by
        have h1 := hN2 b off e
        have h2 := HG1.out.kept.size
        have h3 := (HG1.out.own.lt W.heap.size rfl).2
        simp [Value.ownBlock] at hv
        omega, by have h1 := hN2 b off e; have h2 := HG1.out.kept.size; omega⟩⟩
      have HML := hideP mq5
      have HMI := hideP mq3
      have HMZ := hideP mq4
      have HR2 := hideP hR2
      rw [mq5]
      clear hI2 hN2 hR2 k2 HG1 HA1 HK1 mq3 mq4 mq5
      go_wp2
      go_loopw [2, 7, 10] (fun s2 s7 s10 wr => ∃ (i nn pp : Nat) (b : Int) (va : Option Addr) (vc : Nat) (PL : List Pg) (bd : Bool), i ≤ m ∧ nn ≤ i ∧ pp ≤ n ∧ r ≤ pp ∧ -1 ≤ b ∧ b ≤ 2147483646 ∧ s2 = .int .i64 b ∧ s7 = .slice va nn vc ∧ s10 = .int .i64 i ∧ Hid (Gps (fun x => x = rb) W wr (.slice va nn vc) nn PL) ∧ Hid (∀ g ∈ PL, IsInts g.ps) ∧ Hid (RdX wr rb a n c pp bd) ∧ Hid (Apt W wr rb (.slice va nn vc) ga G) ∧ Hid (Apt W wr rb (.slice va nn vc) ma M) ∧ Hid (bd = false → R = preP (pol PL) (dbs l b (G.drop i) (M.drop i) pp) ∧ nn = i ∧ tot (pol PL) + r ≤ pp) ∧ Hid (bd = true → R = none)) (fun _ _ s10 _ => m - (intOf s10).toNat)
      case atStart => exact ⟨0, 0, r, b0, _, _, [], false, by omega, by omega, by have := HNL.out; omega, by omega, hb0.1, hb0.2, rfl, rfl, rfl, HG2, hideP (fun g hg => (by cases hg)), HR2, HA2, HA3, hideP (fun _ => ⟨by rw [HRs.out]; exact (preP_nil _).symm, rfl, by show 0 + r ≤ r; omega⟩), hideP (fun h => (by cases h))⟩
      case round =>
      obtain ⟨i, nn, pp, b, va, vc, PL, bd, hi, hnn, hpp, hrp, hb1, hb2, rfl, rfl, rfl, HG, HPI, HR, HAG, HAM, HF, HT⟩ := hrel
      obtain ⟨Wrr, hWr⟩ : ∃ Wrr, Wrr = wr := ⟨_, rfl⟩
      rw [← hWr] at HG HR HAG HAM ⊢
      clear hWr
      obtain ⟨⟨d0, d1, d2⟩, -⟩ := row3 HR.out
      clear d0 d1
      cases bd with
      | true =>
        have HT9 := hideP (HT.out rfl)
        clear HT HF
        by_cases him : i < m
        · have g1 : (i : Int) < (m : Int) := by omega
          have g2 : decide ((i : Int) < (m : Int)) = true := decide_eq_true g1
          go_wp2
          go_ret
          exact ⟨PL, _, _, nn, pp, true, rfl, HG.out, HPI.out, HR.out, by have := HNL.out; omega, by omega, by omega, fun h => (by cases h), fun _ => HT9.out⟩
        · have g1 : ¬ (i : Int) < (m : Int) := by omega
          have g2 : decide ((i : Int) < (m : Int)) = false := decide_eq_false g1
          go_wp2
          go_ret
          exact ⟨PL, _, _, nn, pp, true, rfl, HG.out, HPI.out, HR.out, by have := HNL.out; omega, by omega, by omega, fun h => (by cases h), fun _ => HT9.out⟩
      | false =>
        obtain ⟨hRf, hnf, htf⟩ := HF.out rfl
        have HNF := hideP hnf
        have HTF := hideP htf
        clear hnf htf HT
        by_cases him : i < m
        · have dummy : True := trivial
          have hiG : i < G.length := by rw [HGL.out]; exact him
          have hiM : i < M.length := by rw [HML.out]; exact him
          obtain ⟨gb, go, rfl, hgc⟩ := ints_cellX HAG.out.at_ hiG
          obtain ⟨mb, mo, rfl, hmc⟩ := ints_cellX HAM.out.at_ hiM
          have hg0 := HGZ.out _ (List.getElem_mem hiG)
          have hg9 := HGI.out _ (List.getElem_mem hiG)
          have hf0 := HMZ.out _ (List.getElem_mem hiM)
          have hf9 := HMI.out _ (List.getElem_mem hiM)
          have HD1 : Hid ((2147483647 ≤ G[i] ∨ 2147483647 ≤ b + G[i] + 1) → R = none) := hideP (fun h => by rw [hRf, dbs_no hiG hiM h]; rfl)
          have HD2 : Hid (¬ (2147483647 ≤ G[i] ∨ 2147483647 ≤ b + G[i] + 1) → R = preP (pol PL) (conX (b + (G[i] + 1)) (dbs l (b + (G[i] + 1)) (G.drop (i + 1)) (M.drop (i + 1))) (dps l (M[i].toNat + 1) (-1) pp))) := hideP (fun h => by rw [hRf, dbs_step hiG hiM h])
          generalize G[i] = g at *
          generalize M[i] = f at *
          obtain ⟨⟨-, -, -⟩, dz⟩ := row3 HR.out
          have g1 : (i : Int) < (m : Int) := by omega
          have g2 : decide ((i : Int) < (m : Int)) = true := decide_eq_true g1
          by_cases hgA : 2147483647 ≤ g
          · have HRn := hideP (HD1.out (.inl hgA))
            have g3 : decide (2147483647 ≤ g) = true := decide_eq_true hgA
            clear HD1 HD2 hmc
            have HRb := hideP HR.out.bad
            have ks := Kept.setCell Wrr ⟨rb, 2, none⟩ (.bool true)
            have HGb : Hid (Gps (fun x => x = rb) W (Wrr.setCell ⟨rb, 2, none⟩ (.bool true)) (.slice va nn vc) nn PL) := hideP (HG.out.step ks (fun x hx => ⟨hx, by simp only at hx; omega⟩))
            have dz2 := dz 2
            clear ks dz HF hRf
            go_wp2
            go_ret
            exact ⟨PL, _, _, nn, pp, true, rfl, HGb.out, HPI.out, HRb.out, by have := HNL.out; omega, by omega, by omega, fun h => (by cases h), fun _ => HRn.out⟩
          have g3 : decide (2147483647 ≤ g) = false := decide_eq_false hgA
          by_cases hgB : 2147483647 ≤ b + g + 1
          · have HRn := hideP (HD1.out (.inr hgB))
            have g4 : decide (2147483647 ≤ b + g + 1) = true := decide_eq_true hgB
            clear HD1 HD2 hmc
            have HRb := hideP HR.out.bad
            have ks := Kept.setCell Wrr ⟨rb, 2, none⟩ (.bool true)
            have HGb : Hid (Gps (fun x => x = rb) W (Wrr.setCell ⟨rb, 2, none⟩ (.bool true)) (.slice va nn vc) nn PL) := hideP (HG.out.step ks (fun x hx => ⟨hx, by simp only at hx; omega⟩))
            have dz2 := dz 2
            clear ks dz HF hRf
            go_wp2
            go_ret
            exact ⟨PL, _, _, nn, pp, true, rfl, HGb.out, HPI.out, HRb.out, by have := HNL.out; omega, by omega, by omega, fun h => (by cases h), fun _ => HRn.out⟩
          have g4 : decide (2147483647 ≤ b + g + 1) = false := decide_eq_false hgB
          have HRd := hideP (HD2.out (fun h => h.elim hgA hgB))
          obtain ⟨d, hd⟩ : ∃ d, d = b + (g + 1) := ⟨_, rfl⟩
          rw [← hd] at HRd
          have gd1 : b + (g + 1) = d := hd.symm
          have gd2 : 0 ≤ d ∧ d ≤ 2147483646 := by omega
          obtain ⟨fN, hfN⟩ : ∃ fN, fN = f.toNat := ⟨_, rfl⟩
          obtain rfl : f = (fN : Int) := by omega
          rw [Int.toNat_natCast] at HRd
          obtain ⟨Rp, hRp⟩ : ∃ Rp, Rp = dps l (fN + 1) (-1) pp := ⟨_, rfl⟩
          rw [← hRp] at HRd
          have HRp := hideP hRp
          have HPz0 : Hid (Pz Wrr rb Wrr.heap.size d (Wrr.alloc (.cells #[.int .i64 d, .slice none 0 0] 38)) (.slice none 0 0) 0 []) := hideP ⟨(Kept.alloc Wrr _).mono (fun _ f => f.elim), heap_alloc_new Wrr _, ⟨(Nat.zero_mul 1).symm, .inl ⟨rfl, rfl⟩⟩, rfl, by have := HG.out.kept.size; omega⟩
          have HRz0 := hideP (HR.out.kept (Kept.alloc Wrr (.cells #[.int .i64 d, .slice none 0 0] 38)))
          have hrbW : rb < Wrr.heap.size := by have := HG.out.kept.size; omega
          have HMc : Hid (∀ V, Kept (fun x => x = rb) Wrr V → V.cell? ⟨mb, mo + i, none⟩ = some (.int .i64 (fN : Int))) := hideP (fun V kv => kv.cell hmc (fun e => by
            have h1 := (HAM.out.far (by intro e0; rw [e0] at hiM; simp at hiM) mb mo rfl).2
            simp only at e
            omega))
          obtain ⟨hd1, hd2⟩ := gd2
          clear hd hfN hRp HD1 HD2 hmc dz hRf HF
          go_wp2
          go_loopw [12, 13] (fun s12 s13 wr => ∃ (k pq : Nat) (last : Int) (v : Value) (xs : List Int) (bd : Bool), k ≤ fN + 1 ∧ pq ≤ n ∧ pp ≤ pq ∧ -1 ≤ last ∧ last ≤ 9223372036854775807 ∧ s12 = .int .i64 last ∧ s13 = .int .i64 k ∧ Hid (Pz Wrr rb Wrr.heap.size d wr v k xs) ∧ Hid (RdX wr rb a n c pq bd) ∧ Hid (∀ y ∈ xs, 0 ≤ y ∧ y ≤ 9223372036854775807) ∧ Hid (k + pp ≤ pq + 1) ∧ Hid (bd = false → Rp = preI xs (dps l (fN + 1 - k) last pq) ∧ k + pp ≤ pq) ∧ Hid (bd = true → Rp = none)) (fun _ s13 _ => n + 2 - (intOf s13).toNat)
          case atStart => exact ⟨0, pp, -1, _, [], false, by omega, by omega, Nat.le_refl _, by decide, by decide, rfl, rfl, HPz0, HRz0, hideP (fun y hy => (by cases hy)), hideP (by omega), hideP (fun _ => ⟨by rw [HRp.out]; exact (preI_nil _).symm, by omega⟩), hideP (fun h => (by cases h))⟩
          case round =>
          obtain ⟨k, pq, last, v, xs, bd, hk, hpq, hppq, hl1, hl2, rfl, rfl, HPz, HRz, HXI, HKp, HF1, HT1⟩ := hrel
          obtain ⟨Wz, hWz⟩ : ∃ Wz, Wz = wr := ⟨_, rfl⟩
          rw [← hWz] at HPz HRz ⊢
          clear hWz HPz0 HRz0
          have m1 := HMc.out Wz HPz.out.kept
          have hkb := HKp.out
          obtain ⟨⟨-, -, y2⟩, -⟩ := row3 HRz.out
          cases bd with
          | true =>
            have HRn2 := hideP (HT1.out rfl)
            have HRn : Hid (R = none) := hideP (by rw [HRd.out, HRn2.out]; rfl)
            clear HT1 HF1
            by_cases hkf : k ≤ fN
            · have t1 : (k : Int) ≤ (fN : Int) := by omega
              have t2 : decide ((k : Int) ≤ (fN : Int)) = true := decide_eq_true t1
              have t3 : decide (k ≤ fN) = true := decide_eq_true hkf
              obtain ⟨⟨y0, y1⟩, yz⟩ := row2 HPz.out.box
              obtain ⟨va2, vc2, rfl⟩ := own_sh HPz.out.own
              obtain ⟨hia, hik, hif⟩ := own_ints HPz.out.own
              have hGz := HG.out.step HPz.out.kept (fun x hx => ⟨hx, by omega⟩)
              have HOw := hideP hGz.own
              have HGz := hideP hGz
              have HAGz := hideP (HAG.out.keep hrb HPz.out.kept)
              have HAMz := hideP (HAM.out.keep hrb HPz.out.kept)
              have HIA := hideP hia
              have HIF := hideP hif
              have HIK := hideP hik
              have hbs : W.heap.size ≤ Wz.heap.size := by have := hGz.kept.size; omega
              clear yz hGz hia hif hik
              go_wp2_with (at_builtin; refine StpQ.go ?_)
              refine ⟨?_⟩
              refine wpList_pushG rfl (.tmp 101) (.tmp 103) rfl (.slice va nn vc) nn (pcs PL) ⟨d, va2, vc2, xs⟩ k HIK.out rfl HOw hbs Wz.heap.size rfl (by rfl) (by omega) ?_
              intro g6 c6 W6 HO6 HK6 HAt6
              have hnew : ∀ x, (Value.slice (some ⟨g6, 0, none⟩) (nn + 1) c6).ownBlock = some x → (Value.slice va nn vc).ownBlock = some x ∨ Wz.heap.size ≤ x := fun x hx => by
                simp [Value.ownBlock] at hx
                subst hx
                exact HAt6.out
              have HG6 : Hid (Gps (fun x => x = rb) W W6 (.slice (some ⟨g6, 0, none⟩) (nn + 1) c6) (nn + 1) (PL ++ [⟨d, va2, vc2, xs⟩])) := hideP (HGz.out.more HO6.out HK6.out HAt6.out (fun g hg => by
                rw [List.mem_singleton] at hg
                subst hg
                exact HIA.out) (fun g hg hne => by
                rw [List.mem_singleton] at hg
                subst hg
                obtain ⟨b9, o9, e9, h9, h10⟩ := HIF.out hne
                refine ⟨b9, o9, e9, by have := HG.out.kept.size; omega, h10, fun hv => ?_⟩
                have := (HG.out.own.lt b9 hv).2
                omega))
              have HR6 : Hid (RdX W6 rb a n c pq true) := hideP (HK6.out.heap HRz.out (fun e => by have := (HOw.out.lt rb e).1; omega))
              have HAG6 := hideP (HAGz.out.grow HK6.out hnew)
              have HAM6 := hideP (HAMz.out.grow HK6.out hnew)
              have HPI6 : Hid (∀ g ∈ PL ++ [(⟨d, va2, vc2, xs⟩ : Pg)], IsInts g.ps) := hideP (fun g hg => by
                rcases List.mem_append.1 hg with h | h
                · exact HPI.out g h
                · rw [List.mem_singleton] at h
                  subst h
                  intro y hy
                  have := HXI.out y hy
                  omega)
              have HPO : Hid (pol (PL ++ [(⟨d, va2, vc2, xs⟩ : Pg)]) = pol PL ++ [⟨d, xs⟩]) := hideP (pol_snoc _ _)
              clear hnew HO6 HK6 HAt6 HGz HAGz HAMz HOw y0 y1
              go_wp2
              go_roundw
              case rel => exact ⟨i + 1, nn + 1, pq, d, _, _, PL ++ [⟨d, va2, vc2, xs⟩], true, by omega, by omega, by omega, by omega, by omega, by omega, by first | rfl | go_num, rfl, by go_num, HG6, HPI6, HR6, HAG6, HAM6, hideP (fun h => (by cases h)), hideP (fun _ => HRn.out)⟩
              case measure => simp [intOf]; omega
            · have t1 : ¬ (k : Int) ≤ (fN : Int) := by omega
              have t2 : decide ((k : Int) ≤ (fN : Int)) = false := decide_eq_false t1
              have t3 : decide (k ≤ fN) = false := decide_eq_false hkf
              obtain ⟨⟨y0, y1⟩, yz⟩ := row2 HPz.out.box
              obtain ⟨va2, vc2, rfl⟩ := own_sh HPz.out.own
              obtain ⟨hia, hik, hif⟩ := own_ints HPz.out.own
              have hGz := HG.out.step HPz.out.kept (fun x hx => ⟨hx, by omega⟩)
              have HOw := hideP hGz.own
              have HGz := hideP hGz
              have HAGz := hideP (HAG.out.keep hrb HPz.out.kept)
              have HAMz := hideP (HAM.out.keep hrb HPz.out.kept)
              have HIA := hideP hia
              have HIF := hideP hif
              have HIK := hideP hik
              have hbs : W.heap.size ≤ Wz.heap.size := by have := hGz.kept.size; omega
              clear yz hGz hia hif hik
              go_wp2_with (at_builtin; refine StpQ.go ?_)
              refine ⟨?_⟩
              refine wpList_pushG rfl (.tmp 101) (.tmp 103) rfl (.slice va nn vc) nn (pcs PL) ⟨d, va2, vc2, xs⟩ k HIK.out rfl HOw hbs Wz.heap.size rfl (by rfl) (by omega) ?_
              intro g6 c6 W6 HO6 HK6 HAt6
              have hnew : ∀ x, (Value.slice (some ⟨g6, 0, none⟩) (nn + 1) c6).ownBlock = some x → (Value.slice va nn vc).ownBlock = some x ∨ Wz.heap.size ≤ x := fun x hx => by
                simp [Value.ownBlock] at hx
                subst hx
                exact HAt6.out
              have HG6 : Hid (Gps (fun x => x = rb) W W6 (.slice (some ⟨g6, 0, none⟩) (nn + 1) c6) (nn + 1) (PL ++ [⟨d, va2, vc2, xs⟩])) := hideP (HGz.out.more HO6.out HK6.out HAt6.out (fun g hg => by
                rw [List.mem_singleton] at hg
                subst hg
                exact HIA.out) (fun g hg hne => by
                rw [List.mem_singleton] at hg
                subst hg
                obtain ⟨b9, o9, e9, h9, h10⟩ := HIF.out hne
                refine ⟨b9, o9, e9, by have := HG.out.kept.size; omega, h10, fun hv => ?_⟩
                have := (HG.out.own.lt b9 hv).2
                omega))
              have HR6 : Hid (RdX W6 rb a n c pq true) := hideP (HK6.out.heap HRz.out (fun e => by have := (HOw.out.lt rb e).1; omega))
              have HAG6 := hideP (HAGz.out.grow HK6.out hnew)
              have HAM6 := hideP (HAMz.out.grow HK6.out hnew)
              have HPI6 : Hid (∀ g ∈ PL ++ [(⟨d, va2, vc2, xs⟩ : Pg)], IsInts g.ps) := hideP (fun g hg => by
                rcases List.mem_append.1 hg with h | h
                · exact HPI.out g h
                · rw [List.mem_singleton] at h
                  subst h
                  intro y hy
                  have := HXI.out y hy
                  omega)
              have HPO : Hid (pol (PL ++ [(⟨d, va2, vc2, xs⟩ : Pg)]) = pol PL ++ [⟨d, xs⟩]) := hideP (pol_snoc _ _)
              clear hnew HO6 HK6 HAt6 HGz HAGz HAMz HOw y0 y1
              go_wp2
              go_roundw
              case rel => exact ⟨i + 1, nn + 1, pq, d, _, _, PL ++ [⟨d, va2, vc2, xs⟩], true, by omega, by omega, by omega, by omega, by omega, by omega, by first | rfl | go_num, rfl, by go_num, HG6, HPI6, HR6, HAG6, HAM6, hideP (fun h => (by cases h)), hideP (fun _ => HRn.out)⟩
              case measure => simp [intOf]; omega
          | false =>
            obtain ⟨hRf1, hkp1⟩ := HF1.out rfl
            have HRf1 := hideP hRf1
            have HKp1 := hideP hkp1
            clear hRf1 hkp1 HF1 HT1
            by_cases hkf : k ≤ fN
            · have t1 : (k : Int) ≤ (fN : Int) := by omega
              have t2 : decide ((k : Int) ≤ (fN : Int)) = true := decide_eq_true t1
              have t3 : decide (k ≤ fN) = true := decide_eq_true hkf
              have hRu : Rp = preI xs (dps l ((fN + 1 - (k + 1)) + 1) last pq) := by rw [HRf1.out, show fN + 1 - k = (fN + 1 - (k + 1)) + 1 by omega]
              have CN := hideP (num8_ok l a n c pq rb Wz HRz.out HNL.out (HB.out _ (HG.out.kept.trans HPz.out.kept (fun i hi => .inl hi))) HI.out (by have := HNL.out; omega) (by have := HL.out; omega))
              cases hdn : dnu l pq with
              | none =>
                rw [hdn] at CN
                have HRn2 : Hid (Rp = none) := hideP (by rw [hRu, dps_none hdn]; rfl)
                have HRn : Hid (R = none) := hideP (by rw [HRd.out, HRn2.out]; rfl)
                clear hRu hdn HRf1
                go_wp2_with (go_at_call 30; refine StpQ.go ?_)
                refine ⟨?_⟩
                refine CN.out.mono ?_
                clear CN
                rintro e V2 ⟨rfl, hR2, k2⟩
                have HPz := hideP (HPz.out.num k2)
                have HRz := hideP hR2
                obtain ⟨pz, hpz⟩ : ∃ pz, pz = pq := ⟨_, rfl⟩
                rw [← hpz] at HRz
                clear hR2 k2 m1 y2
                by_cases hlm : last = 9223372036854775807
                · have v1 : (last == 9223372036854775807) = true := by simp [hlm]
                  have HLM := hideP hlm
                  clear hlm
                  have HRb := hideP HRz.out.bad
                  have ks := Kept.setCell V2 ⟨rb, 2, none⟩ (.bool true)
                  have HGb : Hid (Gps (fun x => x = rb) W (V2.setCell ⟨rb, 2, none⟩ (.bool true)) (.slice va nn vc) nn PL) := hideP ((HG.out.step HPz.out.kept (fun x hx => ⟨hx, by omega⟩)).step ks (fun x hx => ⟨hx, by simp only at hx; omega⟩))
                  obtain ⟨⟨y0, y1, y2⟩, yz⟩ := row3 HRz.out
                  have yz2 := yz 2
                  clear ks yz y0 y1
                  go_wp2
                  go_ret
                  exact ⟨PL, _, _, nn, pz, true, rfl, HGb.out, HPI.out, HRb.out, by have := HNL.out; omega, by omega, by omega, fun h => (by cases h), fun _ => HRn.out⟩
                · have v1 : (last == 9223372036854775807) = false := by rw [beq_eq_false_iff_ne]; exact hlm
                  have v2 : ¬ (9223372036854775806 - last < 0) := by omega
                  have v3 : decide (9223372036854775806 - last < 0) = false := decide_eq_false v2
                  obtain ⟨last2, hl9⟩ : ∃ last2, last2 = last + 1 := ⟨_, rfl⟩
                  have v4 : last + 1 = last2 := hl9.symm
                  have HXI2 : Hid (∀ y ∈ xs ++ [last2], 0 ≤ y ∧ y ≤ 9223372036854775807) := hideP (fun y hy => by
                    rcases List.mem_append.1 hy with h | h
                    · exact HXI.out y h
                    · rw [List.mem_singleton] at h
                      omega)
                  have HKp2 : Hid (k + 1 + pp ≤ pz + 1) := hideP (by have := HKp1.out; omega)
                  have hb9 : -1 ≤ last2 ∧ last2 ≤ 9223372036854775807 := by omega
                  have hpz2 : pz ≤ n ∧ pp ≤ pz := by omega
                  obtain ⟨hb91, hb92⟩ := hb9
                  obtain ⟨hpz21, hpz22⟩ := hpz2
                  have HPZ := hideP hpz
                  clear hl9 hpz
                  obtain ⟨⟨y0, y1⟩, yz⟩ := row2 HPz.out.box
                  have HOw := hideP HPz.out.own
                  obtain ⟨va2, vc2, rfl⟩ := own_sh HPz.out.own
                  have hbs : Wrr.heap.size + 1 ≤ V2.heap.size := by have := lt_of_block HPz.out.box; have := HPz.out.pbe; omega
                  clear yz y0
                  go_wp2_with (at_builtin; refine StpQ.go ?_)
                  refine ⟨?_⟩
                  refine wpList_pushR rfl (.tmp 96) (.tmp 98) rfl (.slice va2 k vc2) k xs last2 rfl HOw hbs V2.heap.size rfl (by rfl) (by omega) ?_
                  intro g5 c5 W5 HO5 HK5
                  have HPz5 := hideP (HPz.out.push HO5.out HK5.out)
                  have hbx : W5.heap[Wrr.heap.size]? = some (.cells #[.int .i64 d, .slice va2 k vc2] 38 (0, 0)) := HK5.out.heap HPz.out.box (fun e => by have := (HOw.out.lt Wrr.heap.size e).1; have := HPz.out.pbe; omega)
                  obtain ⟨⟨z0, z1⟩, zz⟩ := row2 hbx
                  have zz1 := zz 1
                  have HRz5 : Hid (RdX (W5.setCell ⟨Wrr.heap.size, 1, none⟩ (.slice (some ⟨g5, 0, none⟩) (k + 1) c5)) rb a n c pz true) := hideP ((Kept.setCell W5 ⟨Wrr.heap.size, 1, none⟩ (.slice (some ⟨g5, 0, none⟩) (k + 1) c5)).heap (HK5.out.heap HRz.out (fun e => by have := (HOw.out.lt rb e).1; have := HPz.out.rbl; omega)) (fun e => by have := HPz.out.pbe; have := HPz.out.rbl; simp only at e; omega))
                  clear zz z0 hbx HO5 HK5 HOw HRz HPz y1
                  go_wp2
                  go_roundw
                  case rel => exact ⟨k + 1, pz, last2, _, xs ++ [last2], true, by omega, by omega, by omega, by omega, by omega, rfl, by go_num, HPz5, HRz5, HXI2, HKp2, hideP (fun h => (by cases h)), hideP (fun _ => HRn2.out)⟩
                  case measure => simp [intOf]; omega
              | some xq =>
                obtain ⟨x, pz⟩ := xq
                obtain ⟨hu1, hu2, hu3⟩ := upn_lt hdn
                have hu2 := hu2 (by have := HNL.out; omega)
                rw [hdn] at CN
                rw [dps_some hdn] at hRu
                have HRu := hideP hRu
                have hpzn : pz ≤ n := by have := HNL.out; omega
                have hxb : (x : Int) ≤ 9223372036854775807 := hu3
                clear hRu hdn HRf1 hu3
                go_wp2_with (go_at_call 30; refine StpQ.go ?_)
                refine ⟨?_⟩
                refine CN.out.mono ?_
                clear CN
                rintro e V2 ⟨rfl, hR2, k2⟩
                have HPz := hideP (HPz.out.num k2)
                have HRz := hideP hR2
                clear hR2 k2 m1 y2
                by_cases hlm : last = 9223372036854775807
                · have v1 : (last == 9223372036854775807) = true := by simp [hlm]
                  have HRn : Hid (R = none) := hideP (by rw [HRd.out, HRu.out, if_pos (.inl hlm)]; rfl)
                  have HLM := hideP hlm
                  clear hlm
                  have HRb := hideP HRz.out.bad
                  have ks := Kept.setCell V2 ⟨rb, 2, none⟩ (.bool true)
                  have HGb : Hid (Gps (fun x => x = rb) W (V2.setCell ⟨rb, 2, none⟩ (.bool true)) (.slice va nn vc) nn PL) := hideP ((HG.out.step HPz.out.kept (fun x hx => ⟨hx, by omega⟩)).step ks (fun x hx => ⟨hx, by simp only at hx; omega⟩))
                  obtain ⟨⟨y0, y1, y2⟩, yz⟩ := row3 HRz.out
                  have yz2 := yz 2
                  clear ks yz y0 y1
                  go_wp2
                  go_ret
                  exact ⟨PL, _, _, nn, pz, true, rfl, HGb.out, HPI.out, HRb.out, by have := HNL.out; omega, by omega, by omega, fun h => (by cases h), fun _ => HRn.out⟩
                have v1 : (last == 9223372036854775807) = false := by rw [beq_eq_false_iff_ne]; exact hlm
                by_cases hxl : 9223372036854775806 - last < (x : Int)
                · have v3 : decide (9223372036854775806 - last < (x : Int)) = true := decide_eq_true hxl
                  have HRn : Hid (R = none) := hideP (by rw [HRd.out, HRu.out, if_pos (.inr hxl)]; rfl)
                  have HRb := hideP HRz.out.bad
                  have ks := Kept.setCell V2 ⟨rb, 2, none⟩ (.bool true)
                  have HGb : Hid (Gps (fun x => x = rb) W (V2.setCell ⟨rb, 2, none⟩ (.bool true)) (.slice va nn vc) nn PL) := hideP ((HG.out.step HPz.out.kept (fun x hx => ⟨hx, by omega⟩)).step ks (fun x hx => ⟨hx, by simp only at hx; omega⟩))
                  obtain ⟨⟨y0, y1, y2⟩, yz⟩ := row3 HRz.out
                  have yz2 := yz 2
                  clear ks yz y0 y1
                  go_wp2
                  go_ret
                  exact ⟨PL, _, _, nn, pz, true, rfl, HGb.out, HPI.out, HRb.out, by have := HNL.out; omega, by omega, by omega, fun h => (by cases h), fun _ => HRn.out⟩
                have v3 : decide (9223372036854775806 - last < (x : Int)) = false := decide_eq_false hxl
                obtain ⟨last2, hl9⟩ : ∃ last2, last2 = last + ((x : Int) + 1) := ⟨_, rfl⟩
                have v4 : last + ((x : Int) + 1) = last2 := hl9.symm
                have HRu2 : Hid (Rp = preI (xs ++ [last2]) (dps l (fN + 1 - (k + 1)) last2 pz)) := hideP (by rw [HRu.out, if_neg (fun h => h.elim hlm hxl), v4, preI_pre])
                have HXI2 : Hid (∀ y ∈ xs ++ [last2], 0 ≤ y ∧ y ≤ 9223372036854775807) := hideP (fun y hy => by
                  rcases List.mem_append.1 hy with h | h
                  · exact HXI.out y h
                  · rw [List.mem_singleton] at h
                    omega)
                have HKp2 : Hid (k + 1 + pp ≤ pz + 1) := hideP (by have := HKp1.out; omega)
                have hb9 : -1 ≤ last2 ∧ last2 ≤ 9223372036854775807 := by omega
                obtain ⟨hb91, hb92⟩ := hb9
                have v5 : wrap64 (last + wrap64 ((x : Int) + 1)) = last2 := by unfold wrap64; omega
                have v6 : IntKind.i64.wrap (last + IntKind.i64.wrap ((x : Int) + 1)) = last2 := by rw [IntKind.wrap_i64, IntKind.wrap_i64]; omega
                clear hl9
                obtain ⟨⟨y0, y1⟩, yz⟩ := row2 HPz.out.box
                have HOw := hideP HPz.out.own
                obtain ⟨va2, vc2, rfl⟩ := own_sh HPz.out.own
                have hbs : Wrr.heap.size + 1 ≤ V2.heap.size := by have := lt_of_block HPz.out.box; have := HPz.out.pbe; omega
                clear yz y0
                go_wp2_with (at_builtin; refine StpQ.go ?_)
                refine ⟨?_⟩
                refine wpList_pushR rfl (.tmp 96) (.tmp 98) rfl (.slice va2 k vc2) k xs last2 rfl HOw hbs V2.heap.size rfl (by rfl) (by omega) ?_
                intro g5 c5 W5 HO5 HK5
                have HPz5 := hideP (HPz.out.push HO5.out HK5.out)
                have hbx : W5.heap[Wrr.heap.size]? = some (.cells #[.int .i64 d, .slice va2 k vc2] 38 (0, 0)) := HK5.out.heap HPz.out.box (fun e => by have := (HOw.out.lt Wrr.heap.size e).1; have := HPz.out.pbe; omega)
                obtain ⟨⟨z0, z1⟩, zz⟩ := row2 hbx
                have zz1 := zz 1
                have HRz5 : Hid (RdX (W5.setCell ⟨Wrr.heap.size, 1, none⟩ (.slice (some ⟨g5, 0, none⟩) (k + 1) c5)) rb a n c pz false) := hideP ((Kept.setCell W5 ⟨Wrr.heap.size, 1, none⟩ (.slice (some ⟨g5, 0, none⟩) (k + 1) c5)).heap (HK5.out.heap HRz.out (fun e => by have := (HOw.out.lt rb e).1; have := HPz.out.rbl; omega)) (fun e => by have := HPz.out.pbe; have := HPz.out.rbl; simp only at e; omega))
                clear zz z0 hbx HO5 HK5 HOw HRz HPz y1
                go_wp2
                go_roundw
                case rel => exact ⟨k + 1, pz, last2, _, xs ++ [last2], false, by omega, by omega, by omega, by omega, by omega, rfl, by go_num, HPz5, HRz5, HXI2, HKp2, hideP (fun _ => ⟨HRu2.out, by have := HKp1.out; omega⟩), hideP (fun h => (by cases h))⟩
                case measure => simp [intOf]; omega
            · have t1 : ¬ (k : Int) ≤ (fN : Int) := by omega
              have t2 : decide ((k : Int) ≤ (fN : Int)) = false := decide_eq_false t1
              have t3 : decide (k ≤ fN) = false := decide_eq_false hkf
              have HRs : Hid (R = preP (pol PL ++ [⟨d, xs⟩]) (dbs l d (G.drop (i + 1)) (M.drop (i + 1)) pq)) := hideP (by
                rw [HRd.out, HRf1.out, show fN + 1 - k = 0 by omega, dps]
                simp only [preI, Option.map_some, List.append_nil, conX]
                rw [preP_pre])
              have HXLn : Hid (xs.length + pp ≤ pq) := hideP (by
                have h9 := HPz.out.own.1
                unfold is at h9
                rw [List.length_map] at h9
                have := HKp1.out
                omega)
              obtain ⟨⟨y0, y1⟩, yz⟩ := row2 HPz.out.box
              obtain ⟨va2, vc2, rfl⟩ := own_sh HPz.out.own
              obtain ⟨hia, hik, hif⟩ := own_ints HPz.out.own
              have hGz := HG.out.step HPz.out.kept (fun x hx => ⟨hx, by omega⟩)
              have HOw := hideP hGz.own
              have HGz := hideP hGz
              have HAGz := hideP (HAG.out.keep hrb HPz.out.kept)
              have HAMz := hideP (HAM.out.keep hrb HPz.out.kept)
              have HIA := hideP hia
              have HIF := hideP hif
              have HIK := hideP hik
              have hbs : W.heap.size ≤ Wz.heap.size := by have := hGz.kept.size; omega
              clear yz hGz hia hif hik
              go_wp2_with (at_builtin; refine StpQ.go ?_)
              refine ⟨?_⟩
              refine wpList_pushG rfl (.tmp 101) (.tmp 103) rfl (.slice va nn vc) nn (pcs PL) ⟨d, va2, vc2, xs⟩ k HIK.out rfl HOw hbs Wz.heap.size rfl (by rfl) (by omega) ?_
              intro g6 c6 W6 HO6 HK6 HAt6
              have hnew : ∀ x, (Value.slice (some ⟨g6, 0, none⟩) (nn + 1) c6).ownBlock = some x → (Value.slice va nn vc).ownBlock = some x ∨ Wz.heap.size ≤ x := fun x hx => by
                simp [Value.ownBlock] at hx
                subst hx
                exact HAt6.out
              have HG6 : Hid (Gps (fun x => x = rb) W W6 (.slice (some ⟨g6, 0, none⟩) (nn + 1) c6) (nn + 1) (PL ++ [⟨d, va2, vc2, xs⟩])) := hideP (HGz.out.more HO6.out HK6.out HAt6.out (fun g hg => by
                rw [List.mem_singleton] at hg
                subst hg
                exact HIA.out) (fun g hg hne => by
                rw [List.mem_singleton] at hg
                subst hg
                obtain ⟨b9, o9, e9, h9, h10⟩ := HIF.out hne
                refine ⟨b9, o9, e9, by have := HG.out.kept.size; omega, h10, fun hv => ?_⟩
                have := (HG.out.own.lt b9 hv).2
                omega))
              have HR6 : Hid (RdX W6 rb a n c pq false) := hideP (HK6.out.heap HRz.out (fun e => by have := (HOw.out.lt rb e).1; omega))
              have HAG6 := hideP (HAGz.out.grow HK6.out hnew)
              have HAM6 := hideP (HAMz.out.grow HK6.out hnew)
              have HPI6 : Hid (∀ g ∈ PL ++ [(⟨d, va2, vc2, xs⟩ : Pg)], IsInts g.ps) := hideP (fun g hg => by
                rcases List.mem_append.1 hg with h | h
                · exact HPI.out g h
                · rw [List.mem_singleton] at h
                  subst h
                  intro y hy
                  have := HXI.out y hy
                  omega)
              have HPO : Hid (pol (PL ++ [(⟨d, va2, vc2, xs⟩ : Pg)]) = pol PL ++ [⟨d, xs⟩]) := hideP (pol_snoc _ _)
              clear hnew HO6 HK6 HAt6 HGz HAGz HAMz HOw y0 y1
              have HFF : Hid (false = false → R = preP (pol (PL ++ [(⟨d, va2, vc2, xs⟩ : Pg)])) (dbs l d (G.drop (i + 1)) (M.drop (i + 1)) pq) ∧ nn + 1 = i + 1 ∧ tot (pol (PL ++ [(⟨d, va2, vc2, xs⟩ : Pg)])) + r ≤ pq) := hideP (fun _ => ⟨by rw [HPO.out]; exact HRs.out, by rw [HNF.out], by rw [HPO.out, tot_snoc]; have h1 := HTF.out; have h2 := HXLn.out; simp only; omega⟩)
              go_wp2
              go_roundw
              case rel => exact ⟨i + 1, nn + 1, pq, d, _, _, PL ++ [⟨d, va2, vc2, xs⟩], false, by omega, by omega, by omega, by omega, by omega, by omega, by first | rfl | go_num, rfl, by go_num, HG6, HPI6, HR6, HAG6, HAM6, HFF, hideP (fun h => (by cases h))⟩
              case measure => simp [intOf]; omega
        · have g1 : ¬ (i : Int) < (m : Int) := by omega
          have g2 : decide ((i : Int) < (m : Int)) = false := decide_eq_false g1
          have HRX : Hid (R = some (pol PL, pp)) := hideP (by rw [hRf, dbs_end (by rw [HGL.out]; omega)]; simp [preP])
          have HTX := HTF
          obtain rfl : nn = i := HNF.out
          obtain rfl : nn = m := by omega
          clear hRf HF
          go_wp2
          go_ret
          exact ⟨PL, _, _, nn, pp, false, rfl, HG.out, HPI.out, HR.out, by have := HNL.out; omega, by omega, Nat.le_refl _, fun _ => ⟨HRX.out, rfl, by have := HTX.out; omega⟩, fun h => (by cases h)⟩
end Go.Proofs.YtidgofpmnlddaaaGreatDoor
