import Derived.Test.YtjkbongfampgjaaGreatDoorMrg9
namespace Go.Proofs.YtjkbongfampgjaaGreatDoor
open Go.ChangeShapes Go.WideShapes Go.ChangeAt Go.RowKit

theorem fnm_ne {k : Nat} (h : k ≠ 0) : fnm k ≠ 0 := by
  unfold fnm
  rw [if_neg h]
  split <;> decide
theorem tri_mA {W4 : World} {ca ka cc kc cd kd rb sb tb : Nat} {P : List Po} {la : Option Addr} {lc : Nat} {ua ma : Nat} {aa : Bool} {uc mc : Nat} {ac : Bool} {ud md : Nat} {ax : Bool} (V : World) (h : TriC W4 ca ka cc kc cd kd rb sb tb P la lc V ua ma aa uc mc ac ud md ax) : Calls Tryz.prog 10 #[.pointer (some ⟨ca, 0, none⟩)] V fun e w' => e = .returned (.int .i64 (ma : Nat)) ∧ TriC W4 ca ka cc kc cd kd rb sb tb P la lc w' ua ma aa uc mc ac ud md ax := by
  obtain ⟨X, h1, -⟩ := h.stepA
  exact (cmovesS V h1).mono (fun _ _ q => ⟨q.1, by rw [q.2]; exact h⟩)
theorem tri_mC {W4 : World} {ca ka cc kc cd kd rb sb tb : Nat} {P : List Po} {la : Option Addr} {lc : Nat} {ua ma : Nat} {aa : Bool} {uc mc : Nat} {ac : Bool} {ud md : Nat} {ax : Bool} (V : World) (h : TriC W4 ca ka cc kc cd kd rb sb tb P la lc V ua ma aa uc mc ac ud md ax) : Calls Tryz.prog 10 #[.pointer (some ⟨cc, 0, none⟩)] V fun e w' => e = .returned (.int .i64 (mc : Nat)) ∧ TriC W4 ca ka cc kc cd kd rb sb tb P la lc w' ua ma aa uc mc ac ud md ax := by
  obtain ⟨X, h1, -⟩ := h.stepC
  exact (cmovesS V h1).mono (fun _ _ q => ⟨q.1, by rw [q.2]; exact h⟩)
theorem tri_mD {W4 : World} {ca ka cc kc cd kd rb sb tb : Nat} {P : List Po} {la : Option Addr} {lc : Nat} {ua ma : Nat} {aa : Bool} {uc mc : Nat} {ac : Bool} {ud md : Nat} {ax : Bool} (V : World) (h : TriC W4 ca ka cc kc cd kd rb sb tb P la lc V ua ma aa uc mc ac ud md ax) : Calls Tryz.prog 10 #[.pointer (some ⟨cd, 0, none⟩)] V fun e w' => e = .returned (.int .i64 (md : Nat)) ∧ TriC W4 ca ka cc kc cd kd rb sb tb P la lc w' ua ma aa uc mc ac ud md ax := by
  obtain ⟨X, h1, -⟩ := h.stepD
  exact (cmovesS V h1).mono (fun _ _ q => ⟨q.1, by rw [q.2]; exact h⟩)
theorem tri_dA {W4 : World} {ca ka cc kc cd kd rb sb tb : Nat} {P : List Po} {la : Option Addr} {lc : Nat} {ua ma : Nat} {aa : Bool} {uc mc : Nat} {ac : Bool} {ud md : Nat} {ax : Bool} (V : World) (h : TriC W4 ca ka cc kc cd kd rb sb tb P la lc V ua ma aa uc mc ac ud md ax) : Calls Tryz.prog 11 #[.pointer (some ⟨ca, 0, none⟩)] V fun e w' => e = .returned (.int .i64 (docU P ua)) ∧ TriC W4 ca ka cc kc cd kd rb sb tb P la lc w' ua ma aa uc mc ac ud md ax := by
  obtain ⟨X, h1, -⟩ := h.stepA
  exact (cdocS V h1).mono (fun _ _ q => ⟨q.1, by rw [q.2]; exact h⟩)
theorem tri_rd {W4 : World} {ca ka cc kc cd kd rb sb tb : Nat} {P : List Po} {la : Option Addr} {lc : Nat} {ua ma : Nat} {aa : Bool} {uc mc : Nat} {ac : Bool} {ud md : Nat} {ax : Bool} {FL : List Pg} (hP : PsAt W4 la FL) (hp : pol FL = P) (V : World) (h : TriC W4 ca ka cc kc cd kd rb sb tb P la lc V ua ma aa uc mc ac ud md ax) : Calls Tryz.prog 12 #[.agg #[.slice la P.length lc, .int .i64 ((ua : Int) - 1), .int .i64 ((ma : Nat) : Int), .bool aa]] V fun e w' => e = .returned (.int .i64 (docU P ua)) ∧ TriC W4 ca ka cc kc cd kd rb sb tb P la lc w' ua ma aa uc mc ac ud md ax :=
  (rdoc_any V la lc P.length ua ma aa (hP.kept h.kept) hp rfl).mono (fun _ _ q => ⟨q.1, h.later q.2⟩)
theorem rfAt0 {V : World} {b : Nat} {la : Option Addr} {n lc : Nat} (h : V.heap[b]? = some (.cells #[.slice la n lc, .int .i64 (-1), .int .i64 0, .bool false] 35 (0, 0))) : RfAt V b la n lc 0 0 false := by
  have e : (((0 : Nat) : Int) - 1) = -1 := rfl
  unfold RfAt
  rw [e]
  exact h
/-- The three blocks of the document's cursors. -/
def V8 (V : World) (la : Option Addr) (n lc : Nat) : World := ((V.alloc (.cells #[.slice la n lc, .int .i64 (-1), .int .i64 0, .bool false] 35)).alloc (.cells #[.slice la n lc, .int .i64 (-1), .int .i64 0, .bool false] 35)).alloc (.cells #[.slice none 0 0, .int .i64 (-1), .int .i64 0, .bool false] 35)
theorem V8_facts (V : World) (la : Option Addr) (n lc : Nat) : RfAt (V8 V la n lc) V.heap.size la n lc 0 0 false ∧ RfAt (V8 V la n lc) (V.heap.size + 1) la n lc 0 0 false ∧ RfAt (V8 V la n lc) (V.heap.size + 1 + 1) none 0 0 0 0 false ∧ Kept (fun _ => False) V (V8 V la n lc) := by
  obtain ⟨U1, hU1⟩ : ∃ U1, U1 = V.alloc (.cells #[.slice la n lc, .int .i64 (-1), .int .i64 0, .bool false] 35) := ⟨_, rfl⟩
  obtain ⟨U2, hU2⟩ : ∃ U2, U2 = U1.alloc (.cells #[.slice la n lc, .int .i64 (-1), .int .i64 0, .bool false] 35) := ⟨_, rfl⟩
  have k1 : Kept (fun _ => False) V U1 := by rw [hU1]; exact Kept.alloc V _
  have k2 : Kept (fun _ => False) U1 U2 := by rw [hU2]; exact Kept.alloc U1 _
  have k3 := Kept.alloc U2 (.cells #[.slice none 0 0, .int .i64 (-1), .int .i64 0, .bool false] 35)
  have g1 : U1.heap[V.heap.size]? = some (.cells #[.slice la n lc, .int .i64 (-1), .int .i64 0, .bool false] 35 (0, 0)) := by rw [hU1]; exact heap_alloc_new V _
  have g2 : U2.heap[U1.heap.size]? = some (.cells #[.slice la n lc, .int .i64 (-1), .int .i64 0, .bool false] 35 (0, 0)) := by rw [hU2]; exact heap_alloc_new U1 _
  have g3 := heap_alloc_new U2 (.cells #[.slice none 0 0, .int .i64 (-1), .int .i64 0, .bool false] 35)
  have z1 : U1.heap.size = V.heap.size + 1 := by rw [hU1]; simp
  have z2 : U2.heap.size = V.heap.size + 1 + 1 := by rw [hU2]; simp [z1]
  rw [z1] at g2
  rw [z2] at g3
  have e : V8 V la n lc = U2.alloc (.cells #[.slice none 0 0, .int .i64 (-1), .int .i64 0, .bool false] 35) := by unfold V8; rw [hU2, hU1]
  rw [e]
  exact ⟨rfAt0 ((k2.trans k3 (fun _ f => f.elim)).heap g1 (fun f => f)), rfAt0 (k3.heap g2 (fun f => f)), rfAt0 g3, (k1.trans k2 (fun _ f => f.elim)).trans k3 (fun _ f => f.elim)⟩
set_option maxRecDepth 20000 in
set_option maxHeartbeats 16000000 in
theorem plays_walk (L : List Pg) (la : Option Addr) (lc : Nat) (O : List Oc) (oa : Option Addr) (oc : Nat) (ad : Nat → Addr) (W : World) (hP : PsAt W la L) (hI : ∀ g ∈ L, IsInts g.ps) (hl : L.length ≤ 1048576) (hlc : L.length ≤ lc) (ht : tot (pol L) ≤ 1048576) (hO : OcAt W oa O) (hOl : O.length ≤ 1048576) (hE : ErQ W ad) :
    Calls Tryz.prog 3 #[.slice la L.length lc, .slice oa O.length oc] W fun e w' => e = .returned (.bool true) ∧ Kept (fun _ => False) W w' := by
  have CF := hideP (fixed_any ad W hE)
  have CE : Hid (∀ V, Kept (fun _ => False) W V → Calls Tryz.prog 5 #[.slice la L.length lc] V (dePostD L V)) := hideP (fun V k => dencode_any L la lc V (hP.kept k) hI hl hlc ht)
  have HIF : Hid (flts (-1) (pol L) = 0 → gdl (-1) (pol L)) := hideP (fun h => (flts_iff (fun p hp => by
    obtain ⟨g, hg, rfl⟩ := List.mem_map.1 hp
    exact hI g hg)).1 h)
  have HE := hideP hE
  have HO := hideP hO
  have HP := hideP hP
  obtain ⟨P, hPP⟩ : ∃ P, P = pol L := ⟨_, rfl⟩
  have hln : L.length = P.length := by rw [hPP, pol_len]
  have HPP : Hid (pol L = P) := hideP hPP.symm
  rw [← hPP] at ht HIF
  rw [hln] at CE hl ⊢
  have HTL := hideP ht
  obtain ⟨nO, hnO⟩ : ∃ nO, nO = O.length := ⟨_, rfl⟩
  have HNO := hideP hnO
  rw [← hnO] at hOl ⊢
  have HL := hideP hl
  clear hP hI hlc hE hO hPP hln hnO ht
  go_enter Tryz.func3, Tryz.ntmps3
  go_wp2_with (go_at_call 4; refine StpQ.go ?_)
  refine ⟨?_⟩
  refine CF.out.mono ?_
  clear CF
  rintro e W1 ⟨rfl, k1⟩
  have HK1 := hideP k1
  clear k1
  go_wp2_with (go_at_call 5; refine StpQ.go ?_)
  refine ⟨?_⟩
  refine (CE.out W1 HK1.out).mono ?_
  clear CE
  rintro e W4 (⟨hg0, gb, gc, rfl, hG⟩ | ⟨hg0, rfl, k4⟩)
  rotate_left
  · obtain ⟨er, her⟩ : ∃ er, er = fnm (flts (-1) (pol L)) := ⟨_, rfl⟩
    rw [← her]
    have h1 : (er != 0) = true := by rw [bne_iff_ne, her]; exact fnm_ne hg0
    have HKE := hideP (HK1.out.trans k4 (fun _ f => f.elim))
    clear hg0 her k4
    go_wp2
    go_ret
    exact ⟨rfl, HKE.out⟩
  rw [HPP.out] at hg0 hG ⊢
  have hgd := HIF.out hg0
  have hil := img_leS hgd HL.out (by have := HTL.out; omega)
  have HOK : Hid (Okp P) := hideP ⟨hgd, hil, HL.out, by have := HTL.out; omega⟩
  have hB4 := (gro_bytes hG).1
  have k4 := HK1.out.trans hG.kept (fun _ f => f.elim)
  have HE4 := hideP (HE.out.kept k4)
  have HK4 := hideP k4
  have HPs4 := hideP (HP.out.kept k4)
  have CO := hideP (copen_good P (some ⟨gb, 0, none⟩) gc ad W4 hB4 hgd hil HE4.out)
  have HB4 := hideP hB4
  clear hg0 hG hgd hil hB4 k4 HK1 HIF HE HP
  obtain ⟨il, hil⟩ : ∃ il, il = (img P).length := ⟨_, rfl⟩
  rw [← hil] at CO ⊢
  have HILE := hideP hil
  clear hil
  go_wp2_with (go_at_call 6; refine StpQ.go ?_)
  refine ⟨?_⟩
  refine CO.out.mono ?_
  clear CO
  rintro e W5 ⟨ca, ka, X0, rfl, hA5, hca, kx5, k5⟩
  have HA5 := hideP hA5
  have HCA := hideP hca
  have HX5 := hideP kx5
  have HK5 := hideP k5
  have CO := hideP (copen_good P (some ⟨gb, 0, none⟩) gc ad W5 (HB4.out.kept k5) HOK.out.hg HOK.out.hl (HE4.out.kept k5))
  rw [← HILE.out] at CO
  clear hA5 hca kx5 k5 HB4
  go_wp2_with (go_at_call 6; refine StpQ.go ?_)
  refine ⟨?_⟩
  refine CO.out.mono ?_
  clear CO
  rintro e W6 ⟨cc, kc, Y0, rfl, hA6, hcc, ky6, k6⟩
  have HA6 := hideP hA6
  have HCC := hideP hcc
  have HY6 := hideP ky6
  have HK6 := hideP k6
  have CO := hideP (cempty_any ad W6 ((HE4.out.kept HK5.out).kept k6))
  clear hA6 hcc ky6 k6
  go_wp2_with (go_at_call 7; refine StpQ.go ?_)
  refine ⟨?_⟩
  refine CO.out.mono ?_
  clear CO
  rintro e W7 ⟨cd, kd, Z0, rfl, hA7, hcd, kz7, k7⟩
  have HA7 := hideP hA7
  have HCD := hideP hcd
  have HZ7 := hideP kz7
  have HK7 := hideP k7
  clear hA7 hcd kz7 k7 HILE
  have C1 : Hid (∀ V, Kept (fun _ => False) W7 V → Calls Tryz.prog 8 #[.slice la P.length lc] V fun e w' => e = .returned (.agg #[.slice la P.length lc, .int .i64 (-1), .int .i64 0, .bool false]) ∧ Kept (fun _ => False) W7 w') := hideP (fun V k => (ropen_any V la lc P.length).mono (fun _ _ q => ⟨q.1, k.trans q.2 (fun _ f => f.elim)⟩))
  have C0 : Hid (∀ V, Kept (fun _ => False) W7 V → Calls Tryz.prog 8 #[.slice none 0 0] V fun e w' => e = .returned (.agg #[.slice none 0 0, .int .i64 (-1), .int .i64 0, .bool false]) ∧ Kept (fun _ => False) W7 w') := hideP (fun V k => (ropen_any V none 0 0).mono (fun _ _ q => ⟨q.1, k.trans q.2 (fun _ f => f.elim)⟩))
  obtain ⟨n, hn⟩ : ∃ n, n = P.length := ⟨_, rfl⟩
  rw [← hn] at C1 ⊢
  have HN := hideP hn
  have k1 := Kept.refl (fun _ => False) W7
  clear hn hl
  go_wp2_with (first
    | (go_at_call 8; refine (C1.out _ (by assumption)).mono ?_; clear k1; rintro e V1 ⟨rfl, k1⟩)
    | (go_at_call 8; refine (C0.out _ (by assumption)).mono ?_; clear k1; rintro e V1 ⟨rfl, k1⟩))
  clear C1 C0
  obtain ⟨f1, f2, f3, f4⟩ := V8_facts V1 la n lc
  obtain ⟨rb, hrb⟩ : ∃ rb, rb = V1.heap.size := ⟨_, rfl⟩
  have hsz := k1.size
  have kV := k1.trans f4 (fun _ f => f.elim)
  rw [← hrb] at f1 f2 f3 hsz ⊢
  change Code.wp _ _ _ _ (V8 V1 la n lc)
  generalize V8 V1 la n lc = U8 at *
  have HT3 := hideP (tri_start HA5.out HCA.out HX5.out HK5.out HA6.out HCC.out HY6.out HK6.out HA7.out HCD.out HZ7.out HK7.out kV (rb := rb) (sb := rb + 1) (tb := rb + 1 + 1) (la := la) (lc := lc) ⟨hsz, by omega, by omega⟩ (by rw [← HN.out]; exact f1) (by rw [← HN.out]; exact f2) f3)
  clear f1 f2 f3 f4 kV hrb hsz k1 HA5 HCA HX5 HK5 HA6 HCC HY6 HK6 HA7 HCD HZ7 HK7 HTL HL
  obtain ⟨sb, hsb⟩ : ∃ sb, sb = rb + 1 := ⟨_, rfl⟩
  rw [← hsb] at HT3 ⊢
  obtain ⟨tb, htb⟩ : ∃ tb, tb = sb + 1 := ⟨_, rfl⟩
  rw [← htb] at HT3 ⊢
  clear hsb htb
  go_loopw [63] (fun s63 wr => ∃ (i ua ma uc mc ud md : Nat) (aa ac ax : Bool), i ≤ nO ∧ s63 = .int .i64 i ∧ Hid (TriC W4 ca ka cc kc cd kd rb sb tb P la lc wr ua ma aa uc mc ac ud md ax)) (fun s63 _ => nO - (intOf s63).toNat)
  case atStart => exact ⟨0, 0, 0, 0, 0, 0, 0, false, false, false, Nat.zero_le _, rfl, HT3⟩
  case round =>
    rename World => V3
    obtain ⟨i, ua, ma, uc, mc, ud, md, aa, ac, ax, hi, rfl, H3⟩ := hrel
    by_cases hin : i < nO
    · have hii : (i : Int) < (nO : Int) := by omega
      have hiO : i < O.length := by rw [← HNO.out]; exact hin
      obtain ⟨qb, qo, rfl, hoc⟩ := HO.out (by intro e; rw [e] at hiO; simp at hiO)
      obtain ⟨⟨x0, x1, x2⟩, i0, i1, i2⟩ := hoc i hiO
      have kk3 := HK4.out.trans H3.out.kept (fun _ f => f.elim)
      have y0 := kk3.cell x0 (fun f => f)
      have y1 := kk3.cell x1 (fun f => f)
      have y2 := kk3.cell x2 (fun f => f)
      generalize O[i].k = kk at *
      generalize O[i].w = kw at *
      generalize O[i].n = kn at *
      obtain ⟨v, hv⟩ : ∃ v, v = brt 3 kw := ⟨_, rfl⟩
      have b1 := brt_lo (m := 3) (by decide) kw
      have b2 := brt_hi (m := 3) (by decide) kw
      have e3 : (IntKind.u64.wrap kw).tmod 3 = v := by rw [hv, Int.tmod_eq_emod_of_nonneg (by rw [IntKind.wrap_u64]; omega)]; rfl
      rw [← hv] at b1 b2
      have H4 := hideP (H3.out.later (Kept.alloc V3 (.cells #[.int .i64 kk, .int .i64 kw, .int .i64 kn] 38)))
      clear hv hoc x0 x1 x2 kk3 i0 i1 i2 H3
      have hv3 : v = 0 ∨ v = 1 ∨ v = 2 := by omega
      clear b1 b2
      rcases hv3 with rfl | rfl | rfl
      · obtain ⟨X, h1, hkx, hlo, hsz, hst⟩ := H4.out.stepA
        have CS := hideP (step_any W4 _ X ca ka rb P L la lc ad kk kw kn ua ma aa ⟨HPs4.out, HPP.out, HOK.out, HE4.out, hkx⟩ H4.out.ba h1 H4.out.rr H4.out.kept ⟨by have := H4.out.up; omega, by have := H4.out.up; omega, hlo⟩)
        have HST := hideP hst
        clear h1 hkx hlo hsz hst
        go_wp2_with (go_at_call 9; refine StpQ.go ?_)
        refine ⟨?_⟩
        refine CS.out.mono ?_
        clear CS
        rintro e V5 ⟨s, rfl, gs, hcu, hrf, k5⟩
        have H5 := hideP (HST.out V5 s.u s.m s.a hcu hrf k5 gs.1 gs.2)
        clear hcu hrf k5 gs HST
        go_wp2
        go_roundw
        case rel => exact ⟨i + 1, s.u, s.m, uc, mc, ud, md, s.a, ac, ax, by omega, by go_num, H5⟩
        case measure => simp [intOf]; omega
      · obtain ⟨X, h1, hkx, hlo, hsz, hst⟩ := H4.out.stepC
        have CS := hideP (step_any W4 _ X cc kc sb P L la lc ad kk kw kn uc mc ac ⟨HPs4.out, HPP.out, HOK.out, HE4.out, hkx⟩ H4.out.bc h1 H4.out.rs H4.out.kept ⟨by have := H4.out.up; omega, by have := H4.out.up; omega, hlo⟩)
        have HST := hideP hst
        clear h1 hkx hlo hsz hst
        go_wp2_with (go_at_call 9; refine StpQ.go ?_)
        refine ⟨?_⟩
        refine CS.out.mono ?_
        clear CS
        rintro e V5 ⟨s, rfl, gs, hcu, hrf, k5⟩
        have H5 := hideP (HST.out V5 s.u s.m s.a hcu hrf k5 gs.1 gs.2)
        clear hcu hrf k5 gs HST
        go_wp2
        go_roundw
        case rel => exact ⟨i + 1, ua, ma, s.u, s.m, ud, md, aa, s.a, ax, by omega, by go_num, H5⟩
        case measure => simp [intOf]; omega
      · obtain ⟨X, h1, hkx, hlo, hsz, hst⟩ := H4.out.stepD
        have CS := hideP (step_any W4 _ X cd kd tb [] [] none 0 ad kk kw kn ud md ax ⟨fun e => (e rfl).elim, rfl, okp_nil, HE4.out, hkx⟩ H4.out.bd h1 H4.out.rt H4.out.kept ⟨by have := H4.out.up; omega, by have := H4.out.up; omega, hlo⟩)
        have HST := hideP hst
        clear h1 hkx hlo hsz hst
        go_wp2_with (go_at_call 9; refine StpQ.go ?_)
        refine ⟨?_⟩
        refine CS.out.mono ?_
        clear CS
        rintro e V5 ⟨s, rfl, gs, hcu, hrf, k5⟩
        have H5 := hideP (HST.out V5 s.u s.m s.a hcu hrf k5 gs.1 gs.2)
        clear hcu hrf k5 gs HST
        go_wp2
        go_roundw
        case rel => exact ⟨i + 1, ua, ma, uc, mc, s.u, s.m, aa, ac, s.a, by omega, by go_num, H5⟩
        case measure => simp [intOf]; omega
    · have hii : ¬ (i : Int) < (nO : Int) := by omega
      have h3d := H3.out.later (Kept.drew V3)
      have CRd : Hid (∀ V, _ → _) := hideP (fun V h => tri_rd (ca := ca) (ka := ka) (cc := cc) (kc := kc) (cd := cd) (kd := kd) (rb := rb) (sb := sb) (tb := tb) (lc := lc) (ua := ua) (ma := ma) (aa := aa) (uc := uc) (mc := mc) (ac := ac) (ud := ud) (md := md) (ax := ax) HPs4.out HPP.out V h)
      have CDa : Hid (∀ V, _ → _) := hideP (fun V h => tri_dA (W4 := W4) (ca := ca) (ka := ka) (cc := cc) (kc := kc) (cd := cd) (kd := kd) (rb := rb) (sb := sb) (tb := tb) (P := P) (la := la) (lc := lc) (ua := ua) (ma := ma) (aa := aa) (uc := uc) (mc := mc) (ac := ac) (ud := ud) (md := md) (ax := ax) V h)
      generalize docU P ua = dA at *
      go_wp2_with fail
      refine wp_region_held (S := fun V => RfAt V rb la P.length lc ua ma aa ∧ RfAt V sb la P.length lc uc mc ac ∧ RfAt V tb none 0 0 ud md ax) (by kernel_rfl) ?_
      change wpAnyH _ _ _ _ _ _ _ _ (World.drew _)
      generalize V3.drew = V at *
      have hS0 : (fun V => RfAt V rb la P.length lc ua ma aa ∧ RfAt V sb la P.length lc uc mc ac ∧ RfAt V tb none 0 0 ud md ax) V := ⟨h3d.rr, h3d.rs, h3d.rt⟩
      refine takeZ (i := 0) (d := 87) (v := .pointer (some ⟨ca, 0, none⟩)) rfl rfl (by kernel_rfl) (by kernel_rfl) (by kernel_rfl) (fun _ _ _ h => h) (Or.inl ⟨by rfl, fun W hW => ?_⟩) hS0 ?_
      · (go_simp)
      simp only [Act.put, List.setIfInBounds_toArray, List.set_cons_zero, List.set_cons_succ]
      refine takeZ (i := 1) (d := 88) (v := .pointer (some ⟨ca, 0, none⟩)) rfl rfl (by kernel_rfl) (by kernel_rfl) (by kernel_rfl) (fun _ _ _ h => h) (Or.inl ⟨by rfl, fun W hW => ?_⟩) hS0 ?_
      · (go_simp)
      simp only [Act.put, List.setIfInBounds_toArray, List.set_cons_zero, List.set_cons_succ]
      refine takeZ (i := 2) (d := 89) (v := .pointer (some ⟨ca, 0, none⟩)) rfl rfl (by kernel_rfl) (by kernel_rfl) (by kernel_rfl) (fun _ _ _ h => h) (Or.inl ⟨by rfl, fun W hW => ?_⟩) hS0 ?_
      · (go_simp)
      simp only [Act.put, List.setIfInBounds_toArray, List.set_cons_zero, List.set_cons_succ]
      refine takeZ (i := 4) (d := 91) (v := .pointer (some ⟨rb, 2, none⟩)) rfl rfl (by kernel_rfl) (by kernel_rfl) (by kernel_rfl) (fun _ _ _ h => h) (Or.inl ⟨by rfl, fun W hW => ?_⟩) hS0 ?_
      · (go_simp)
      simp only [Act.put, List.setIfInBounds_toArray, List.set_cons_zero, List.set_cons_succ]
      refine takeZ (i := 5) (d := 92) (v := .int .i64 (ma : Nat)) rfl rfl (by kernel_rfl) (by kernel_rfl) (by kernel_rfl) (fun _ _ _ h => h) (Or.inl ⟨by rfl, fun W hW => ?_⟩) hS0 ?_
      · (obtain ⟨d0, d1, d2, d3⟩ := RfAt.cells hW.1; go_simp)
      simp only [Act.put, List.setIfInBounds_toArray, List.set_cons_zero, List.set_cons_succ]
      refine wpAnyH_all (rs := [3]) (by kernel_rfl) (by simp) ?_
      intro i hi
      obtain rfl : i = 3 := by simpa using hi
      unfold wpOp
      go_simp
      refine Or.inl ((tri_mA V h3d).mono ?_)
      rintro e VA ⟨rfl, hVA⟩
      have sVA : (fun V => RfAt V rb la P.length lc ua ma aa ∧ RfAt V sb la P.length lc uc mc ac ∧ RfAt V tb none 0 0 ud md ax) VA := ⟨hVA.rr, hVA.rs, hVA.rt⟩
      refine ⟨sVA, ?_⟩
      refine takeZ (i := 6) (d := 93) (v := .bool true) rfl rfl (by kernel_rfl) (by kernel_rfl) (by kernel_rfl) (fun _ _ _ h => h) (Or.inl ⟨by rfl, fun W hW => ?_⟩) sVA ?_
      · (go_simp)
      simp only [Act.put, List.setIfInBounds_toArray, List.set_cons_zero, List.set_cons_succ]
      refine takeZ (i := 7) (d := 94) (v := .bool true) rfl rfl (by kernel_rfl) (by kernel_rfl) (by kernel_rfl) (fun _ _ _ h => h) (Or.inl ⟨by rfl, fun W hW => ?_⟩) sVA ?_
      · (go_simp)
      simp only [Act.put, List.setIfInBounds_toArray, List.set_cons_zero, List.set_cons_succ]
      refine takeZ (i := 8) (d := 95) (v := .pointer (some ⟨cc, 0, none⟩)) rfl rfl (by kernel_rfl) (by kernel_rfl) (by kernel_rfl) (fun _ _ _ h => h) (Or.inl ⟨by rfl, fun W hW => ?_⟩) sVA ?_
      · (go_simp)
      simp only [Act.put, List.setIfInBounds_toArray, List.set_cons_zero, List.set_cons_succ]
      refine takeZ (i := 9) (d := 96) (v := .pointer (some ⟨cc, 0, none⟩)) rfl rfl (by kernel_rfl) (by kernel_rfl) (by kernel_rfl) (fun _ _ _ h => h) (Or.inl ⟨by rfl, fun W hW => ?_⟩) sVA ?_
      · (go_simp)
      simp only [Act.put, List.setIfInBounds_toArray, List.set_cons_zero, List.set_cons_succ]
      refine takeZ (i := 10) (d := 97) (v := .pointer (some ⟨cc, 0, none⟩)) rfl rfl (by kernel_rfl) (by kernel_rfl) (by kernel_rfl) (fun _ _ _ h => h) (Or.inl ⟨by rfl, fun W hW => ?_⟩) sVA ?_
      · (go_simp)
      simp only [Act.put, List.setIfInBounds_toArray, List.set_cons_zero, List.set_cons_succ]
      refine takeZ (i := 12) (d := 99) (v := .pointer (some ⟨sb, 2, none⟩)) rfl rfl (by kernel_rfl) (by kernel_rfl) (by kernel_rfl) (fun _ _ _ h => h) (Or.inl ⟨by rfl, fun W hW => ?_⟩) sVA ?_
      · (go_simp)
      simp only [Act.put, List.setIfInBounds_toArray, List.set_cons_zero, List.set_cons_succ]
      refine takeZ (i := 13) (d := 100) (v := .int .i64 (mc : Nat)) rfl rfl (by kernel_rfl) (by kernel_rfl) (by kernel_rfl) (fun _ _ _ h => h) (Or.inl ⟨by rfl, fun W hW => ?_⟩) sVA ?_
      · (obtain ⟨d0, d1, d2, d3⟩ := RfAt.cells hW.2.1; go_simp)
      simp only [Act.put, List.setIfInBounds_toArray, List.set_cons_zero, List.set_cons_succ]
      refine wpAnyH_all (rs := [11]) (by kernel_rfl) (by simp) ?_
      intro i hi
      obtain rfl : i = 11 := by simpa using hi
      unfold wpOp
      go_simp
      refine Or.inl ((tri_mC VA hVA).mono ?_)
      rintro e VB ⟨rfl, hVB⟩
      have sVB : (fun V => RfAt V rb la P.length lc ua ma aa ∧ RfAt V sb la P.length lc uc mc ac ∧ RfAt V tb none 0 0 ud md ax) VB := ⟨hVB.rr, hVB.rs, hVB.rt⟩
      refine ⟨sVB, ?_⟩
      refine takeZ (i := 14) (d := 101) (v := .bool true) rfl rfl (by kernel_rfl) (by kernel_rfl) (by kernel_rfl) (fun _ _ _ h => h) (Or.inl ⟨by rfl, fun W hW => ?_⟩) sVB ?_
      · (go_simp)
      simp only [Act.put, List.setIfInBounds_toArray, List.set_cons_zero, List.set_cons_succ]
      refine takeZ (i := 15) (d := 102) (v := .bool true) rfl rfl (by kernel_rfl) (by kernel_rfl) (by kernel_rfl) (fun _ _ _ h => h) (Or.inl ⟨by rfl, fun W hW => ?_⟩) sVB ?_
      · (go_simp)
      simp only [Act.put, List.setIfInBounds_toArray, List.set_cons_zero, List.set_cons_succ]
      refine takeZ (i := 16) (d := 103) (v := .bool true) rfl rfl (by kernel_rfl) (by kernel_rfl) (by kernel_rfl) (fun _ _ _ h => h) (Or.inl ⟨by rfl, fun W hW => ?_⟩) sVB ?_
      · (go_simp)
      simp only [Act.put, List.setIfInBounds_toArray, List.set_cons_zero, List.set_cons_succ]
      refine takeZ (i := 17) (d := 104) (v := .pointer (some ⟨cd, 0, none⟩)) rfl rfl (by kernel_rfl) (by kernel_rfl) (by kernel_rfl) (fun _ _ _ h => h) (Or.inl ⟨by rfl, fun W hW => ?_⟩) sVB ?_
      · (go_simp)
      simp only [Act.put, List.setIfInBounds_toArray, List.set_cons_zero, List.set_cons_succ]
      refine takeZ (i := 18) (d := 105) (v := .pointer (some ⟨cd, 0, none⟩)) rfl rfl (by kernel_rfl) (by kernel_rfl) (by kernel_rfl) (fun _ _ _ h => h) (Or.inl ⟨by rfl, fun W hW => ?_⟩) sVB ?_
      · (go_simp)
      simp only [Act.put, List.setIfInBounds_toArray, List.set_cons_zero, List.set_cons_succ]
      refine takeZ (i := 19) (d := 106) (v := .pointer (some ⟨cd, 0, none⟩)) rfl rfl (by kernel_rfl) (by kernel_rfl) (by kernel_rfl) (fun _ _ _ h => h) (Or.inl ⟨by rfl, fun W hW => ?_⟩) sVB ?_
      · (go_simp)
      simp only [Act.put, List.setIfInBounds_toArray, List.set_cons_zero, List.set_cons_succ]
      refine takeZ (i := 21) (d := 108) (v := .pointer (some ⟨tb, 2, none⟩)) rfl rfl (by kernel_rfl) (by kernel_rfl) (by kernel_rfl) (fun _ _ _ h => h) (Or.inl ⟨by rfl, fun W hW => ?_⟩) sVB ?_
      · (go_simp)
      simp only [Act.put, List.setIfInBounds_toArray, List.set_cons_zero, List.set_cons_succ]
      refine takeZ (i := 22) (d := 109) (v := .int .i64 (md : Nat)) rfl rfl (by kernel_rfl) (by kernel_rfl) (by kernel_rfl) (fun _ _ _ h => h) (Or.inl ⟨by rfl, fun W hW => ?_⟩) sVB ?_
      · (obtain ⟨d0, d1, d2, d3⟩ := RfAt.cells hW.2.2; go_simp)
      simp only [Act.put, List.setIfInBounds_toArray, List.set_cons_zero, List.set_cons_succ]
      refine wpAnyH_all (rs := [20]) (by kernel_rfl) (by simp) ?_
      intro i hi
      obtain rfl : i = 20 := by simpa using hi
      unfold wpOp
      go_simp
      refine Or.inl ((tri_mD VB hVB).mono ?_)
      rintro e VC ⟨rfl, hVC⟩
      have sVC : (fun V => RfAt V rb la P.length lc ua ma aa ∧ RfAt V sb la P.length lc uc mc ac ∧ RfAt V tb none 0 0 ud md ax) VC := ⟨hVC.rr, hVC.rs, hVC.rt⟩
      refine ⟨sVC, ?_⟩
      refine takeZ (i := 23) (d := 110) (v := .bool true) rfl rfl (by kernel_rfl) (by kernel_rfl) (by kernel_rfl) (fun _ _ _ h => h) (Or.inl ⟨by rfl, fun W hW => ?_⟩) sVC ?_
      · (go_simp)
      simp only [Act.put, List.setIfInBounds_toArray, List.set_cons_zero, List.set_cons_succ]
      refine takeZ (i := 24) (d := 111) (v := .bool true) rfl rfl (by kernel_rfl) (by kernel_rfl) (by kernel_rfl) (fun _ _ _ h => h) (Or.inl ⟨by rfl, fun W hW => ?_⟩) sVC ?_
      · (go_simp)
      simp only [Act.put, List.setIfInBounds_toArray, List.set_cons_zero, List.set_cons_succ]
      refine takeZ (i := 25) (d := 112) (v := .bool true) rfl rfl (by kernel_rfl) (by kernel_rfl) (by kernel_rfl) (fun _ _ _ h => h) (Or.inl ⟨by rfl, fun W hW => ?_⟩) sVC ?_
      · (go_simp)
      simp only [Act.put, List.setIfInBounds_toArray, List.set_cons_zero, List.set_cons_succ]
      refine takeZ (i := 26) (d := 113) (v := .pointer (some ⟨ca, 0, none⟩)) rfl rfl (by kernel_rfl) (by kernel_rfl) (by kernel_rfl) (fun _ _ _ h => h) (Or.inl ⟨by rfl, fun W hW => ?_⟩) sVC ?_
      · (go_simp)
      simp only [Act.put, List.setIfInBounds_toArray, List.set_cons_zero, List.set_cons_succ]
      refine takeZ (i := 27) (d := 114) (v := .pointer (some ⟨ca, 0, none⟩)) rfl rfl (by kernel_rfl) (by kernel_rfl) (by kernel_rfl) (fun _ _ _ h => h) (Or.inl ⟨by rfl, fun W hW => ?_⟩) sVC ?_
      · (go_simp)
      simp only [Act.put, List.setIfInBounds_toArray, List.set_cons_zero, List.set_cons_succ]
      refine takeZ (i := 28) (d := 115) (v := .pointer (some ⟨ca, 0, none⟩)) rfl rfl (by kernel_rfl) (by kernel_rfl) (by kernel_rfl) (fun _ _ _ h => h) (Or.inl ⟨by rfl, fun W hW => ?_⟩) sVC ?_
      · (go_simp)
      simp only [Act.put, List.setIfInBounds_toArray, List.set_cons_zero, List.set_cons_succ]
      refine takeZ (i := 30) (d := 117) (v := .agg #[.slice la P.length lc, .int .i64 ((ua : Int) - 1), .int .i64 ((ma : Nat) : Int), .bool aa]) rfl rfl (by kernel_rfl) (by kernel_rfl) (by kernel_rfl) (fun _ _ _ h => h) (Or.inl ⟨by rfl, fun W hW => ?_⟩) sVC ?_
      · (obtain ⟨d0, d1, d2, d3⟩ := RfAt.cells hW.1; go_simp)
      simp only [Act.put, List.setIfInBounds_toArray, List.set_cons_zero, List.set_cons_succ]
      refine wpAnyH_all (rs := [29]) (by kernel_rfl) (by simp) ?_
      intro i hi
      obtain rfl : i = 29 := by simpa using hi
      unfold wpOp
      go_simp
      refine Or.inl ((CDa.out VC hVC).mono ?_)
      rintro e VD ⟨rfl, hVD⟩
      have sVD : (fun V => RfAt V rb la P.length lc ua ma aa ∧ RfAt V sb la P.length lc uc mc ac ∧ RfAt V tb none 0 0 ud md ax) VD := ⟨hVD.rr, hVD.rs, hVD.rt⟩
      refine ⟨sVD, ?_⟩
      refine wpAnyH_all (rs := [31]) (by kernel_rfl) (by simp) ?_
      intro i hi
      obtain rfl : i = 31 := by simpa using hi
      unfold wpOp
      go_simp
      refine Or.inl ((CRd.out VD hVD).mono ?_)
      rintro e VE ⟨rfl, hVE⟩
      have sVE : (fun V => RfAt V rb la P.length lc ua ma aa ∧ RfAt V sb la P.length lc uc mc ac ∧ RfAt V tb none 0 0 ud md ax) VE := ⟨hVE.rr, hVE.rs, hVE.rt⟩
      refine ⟨sVE, ?_⟩
      refine takeZ (i := 32) (d := 119) (v := .bool true) rfl rfl (by kernel_rfl) (by kernel_rfl) (by kernel_rfl) (fun _ _ _ h => h) (Or.inl ⟨by rfl, fun W hW => ?_⟩) sVE ?_
      · (go_simp)
      simp only [Act.put, List.setIfInBounds_toArray, List.set_cons_zero, List.set_cons_succ]
      refine takeZ (i := 33) (d := 120) (v := .bool true) rfl rfl (by kernel_rfl) (by kernel_rfl) (by kernel_rfl) (fun _ _ _ h => h) (Or.inl ⟨by rfl, fun W hW => ?_⟩) sVE ?_
      · (go_simp)
      simp only [Act.put, List.setIfInBounds_toArray, List.set_cons_zero, List.set_cons_succ]
      refine takeZ (i := 34) (d := 4) (v := .bool true) rfl rfl (by kernel_rfl) (by kernel_rfl) (by kernel_rfl) (fun _ _ _ h => h) (Or.inl ⟨by rfl, fun W hW => ?_⟩) sVE ?_
      · (go_simp)
      simp only [Act.put, List.setIfInBounds_toArray, List.set_cons_zero, List.set_cons_succ]
      refine wpAnyH_done (by kernel_rfl) ?_ _
      have HKE := hideP (HK4.out.trans hVE.kept (fun _ f => f.elim))
      clear hS0 sVA sVB sVC sVD sVE h3d hVA hVB hVC hVD hVE
      go_wp2
      go_ret
      exact ⟨rfl, HKE.out⟩
end Go.Proofs.YtjkbongfampgjaaGreatDoor
