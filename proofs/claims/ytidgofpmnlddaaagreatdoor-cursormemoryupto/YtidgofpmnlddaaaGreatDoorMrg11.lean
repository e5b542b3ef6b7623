import Derived.Test.YtidgofpmnlddaaaGreatDoorPdc
import Derived.Test.YtidgofpmnlddaaaGreatDoorMrg8
import Derived.Test.YtidgofpmnlddaaaGreatDoorMrg6
import Derived.Test.YtidgofpmnlddaaaGreatDoorPbb
import Derived.Test.YtidgofpmnlddaaaGreatDoorPda
import Derived.Laws.AppendOwnNone
import Derived.Deep.Upon
namespace Go.Proofs.YtidgofpmnlddaaaGreatDoor
open Go.ChangeShapes Go.WideShapes Go.ChangeAt Go.RowKit

theorem Gro.base {w0 w1 W : World} {e : TypeId} {sz : Nat} {v : Value} {n : Nat} {xs : List Value} (h : Gro w1 W e sz v n xs) (k : Kept (fun _ => False) w0 w1) : Gro w0 W e sz v n xs := by
  refine ⟨⟨h.own.1, ?_⟩, k.trans h.kept (fun _ f => f.elim)⟩
  rcases h.own.2 with q | ⟨g, cap, cur, e1, hg, r⟩
  · exact .inl q
  · exact .inr ⟨g, cap, cur, e1, Nat.le_trans k.size hg, r⟩
theorem apa_new {w0 W W' : World} {e e' : TypeId} {sz sz' : Nat} {u v : Value} {m n : Nat} {ys xs : List Value} (h : Gro w0 W e sz u m ys) (g : Gro W W' e' sz' v n xs) : Apa v u := fun k hk hu => by
  have := (g.own.lt k hk).1
  have := (h.own.lt k hu).2
  omega
theorem gro_ints {w0 W : World} {a : Option Addr} {n c : Nat} {xs : List Int} (h : Gro w0 W 3 1 (.slice a n c) n (is xs)) : IntsAt W a xs ∧ n = xs.length := by
  have hn : n = xs.length := by have := h.own.1; rw [is_length] at this; omega
  rcases h.own.2 with ⟨e1, e2⟩ | ⟨g, cap, cur, e1, hg, hh, hnc, _⟩
  · simp only [Value.slice.injEq] at e1
    obtain ⟨rfl, rfl, rfl⟩ := e1
    exact ⟨fun hne => absurd (List.eq_nil_of_length_eq_zero hn.symm) hne, hn⟩
  · simp only [Value.slice.injEq] at e1
    obtain ⟨rfl, _, rfl⟩ := e1
    refine ⟨fun _ => ⟨g, 0, rfl, fun k hk => ?_⟩, hn⟩
    have q0 := h.own.cells (g := g) rfl k (.int .i64 (xs[k]?.getD 0)) (by unfold is; rw [List.getElem?_map, List.getElem?_eq_getElem hk]; simp)
    have hp : (⟨g, 0, none⟩ : Addr).add k = ⟨g, k, none⟩ := by unfold Addr.add; split <;> simp_all
    rw [hp] at q0
    rw [Nat.zero_add]
    exact q0
/-- Three lists that grow side by side. -/
structure Tri (w0 W : World) (v5 v6 v7 : Value) (X Y Z : List Int) : Prop where
  g5 : Gro w0 W 3 1 v5 X.length (is X)
  g6 : Gro w0 W 3 1 v6 Y.length (is Y)
  g7 : Gro w0 W 5 1 v7 Z.length (bs Z)
  a56 : Apa v5 v6
  a57 : Apa v5 v7
  a67 : Apa v6 v7
theorem Tri.later {w0 W W' : World} {v5 v6 v7 : Value} {X Y Z : List Int} (h : Tri w0 W v5 v6 v7 X Y Z) (k : Kept (fun _ => False) W W') : Tri w0 W' v5 v6 v7 X Y Z := ⟨h.g5.later k, h.g6.later k, h.g7.later k, h.a56, h.a57, h.a67⟩
theorem Tri.push5 {w0 W W' : World} {v5 v6 v7 v : Value} {X Y Z X' : List Int} (h : Tri w0 W v5 v6 v7 X Y Z) (g : Gro w0 W' 3 1 v X'.length (is X')) (s : GStep W W' v5 v) : Tri w0 W' v v6 v7 X' Y Z :=
  ⟨g, (h.g6.other h.g5 s h.a56).1, (h.g7.other h.g5 s h.a57).1, (h.g6.other h.g5 s h.a56).2, (h.g7.other h.g5 s h.a57).2, h.a67⟩
theorem Tri.push6 {w0 W W' : World} {v5 v6 v7 v : Value} {X Y Z X' : List Int} (h : Tri w0 W v5 v6 v7 X Y Z) (g : Gro w0 W' 3 1 v X'.length (is X')) (s : GStep W W' v6 v) : Tri w0 W' v5 v v7 X X' Z :=
  ⟨(h.g5.other h.g6 s h.a56.symm).1, g, (h.g7.other h.g6 s h.a67).1, (h.g5.other h.g6 s h.a56.symm).2.symm, h.a57, (h.g7.other h.g6 s h.a67).2⟩
theorem Tri.push7 {w0 W W' : World} {v5 v6 v7 v : Value} {X Y Z X' : List Int} (h : Tri w0 W v5 v6 v7 X Y Z) (g : Gro w0 W' 5 1 v X'.length (bs X')) (s : GStep W W' v7 v) : Tri w0 W' v5 v6 v X Y X' :=
  ⟨(h.g5.other h.g7 s h.a57.symm).1, (h.g6.other h.g7 s h.a67.symm).1, g, h.a56, (h.g5.other h.g7 s h.a57.symm).2.symm, (h.g6.other h.g7 s h.a67.symm).2.symm⟩
theorem Tri.start (w : World) : Tri w (((w.alloc (.cells #[] 3)).alloc (.cells #[] 3)).alloc (.cells #[] 5)) (.slice (some ⟨w.heap.size, 0, none⟩) 0 0) (.slice (some ⟨w.heap.size + 1, 0, none⟩) 0 0) (.slice (some ⟨w.heap.size + 1 + 1, 0, none⟩) 0 0) [] [] [] := by
  have k1 := Kept.alloc w (.cells #[] 3)
  have k2 := Kept.alloc (w.alloc (.cells #[] 3)) (.cells #[] 3)
  have k3 := Kept.alloc ((w.alloc (.cells #[] 3)).alloc (.cells #[] 3)) (.cells #[] 5)
  have e1 : (w.alloc (.cells #[] 3)).heap.size = w.heap.size + 1 := by simp
  have e2 : ((w.alloc (.cells #[] 3)).alloc (.cells #[] 3)).heap.size = w.heap.size + 1 + 1 := by simp
  have g5 := ((gro_empty w w 3 1 (Kept.refl _ _)).later k2).later k3
  have g6 := (gro_empty w (w.alloc (.cells #[] 3)) 3 1 k1).later k3
  have g7 := gro_empty w ((w.alloc (.cells #[] 3)).alloc (.cells #[] 3)) 5 1 (k1.trans k2 (fun _ f => f.elim))
  rw [e1] at g6
  rw [e2] at g7
  refine ⟨g5, g6, g7, ?_, ?_, ?_⟩ <;> (intro k hk he; simp [Value.ownBlock] at hk he; omega)
theorem gps_snoc (b : Int) (F : List Po) (p : Po) : gps b (F ++ [p]) = gps b F ++ [p.d - 1 - lastd b F] := by rw [gps_append]; rfl
theorem mos_snoc (F : List Po) (p : Po) : mos (F ++ [p]) = mos F ++ [(p.ps.length : Int) - 1] := by rw [mos_append]; rfl
theorem psb_snoc (F : List Po) (p : Po) : psb (F ++ [p]) = psb F ++ risb p.ps 0 := by rw [psb_append]; simp [psb]
theorem lastd_snoc (b : Int) (F : List Po) (p : Po) : lastd b (F ++ [p]) = p.d := by rw [lastd_append]; rfl
set_option maxRecDepth 20000 in
set_option maxHeartbeats 4000000 in
theorem dblk_any (F : List Pg) (a : Option Addr) (c : Nat) (b : Int) (w : World) (hP : PsAt w a F) (hg : gdl b (pol F)) (hb : -1 ≤ b) (hne : F ≠ []) (hl : F.length ≤ 16) (ht : tot (pol F) ≤ 1099511627776) :
    Calls Tryz.prog 41 #[.slice a F.length c, .int .i64 b] w fun e w' => ∃ g c', e = .returned (.slice (some ⟨g, 0, none⟩) (blk b (pol F)).length c') ∧ Gro w w' 5 1 (.slice (some ⟨g, 0, none⟩) (blk b (pol F)).length c') (blk b (pol F)).length (bs (blk b (pol F))) := by
  have HP := hideP hP
  have HGd := hideP hg
  have HTt := hideP ht
  have HT0 := hideP (Tri.start w)
  have hg1 := gps_ints hg hb
  have hm1 := mos_intsG hg
  have HG1 := hideP hg1
  have HM1 := hideP hm1
  have hne' : pol F ≠ [] := by intro e; apply hne; exact List.eq_nil_of_length_eq_zero (by rw [← pol_len, e]; rfl)
  have hpb : 0 < (psb (pol F)).length := by
    have h1 := tot_psb (pol F)
    have h2 := len_tot hg
    have := List.length_pos_iff.2 hne'
    omega
  have hb2 : b ≤ 2147483646 := by have := (gdl_last _ _ hg).2 hne'; omega
  have hpl := psb_le (F := pol F) (fun p hp => (gdl_pos hg p hp).2)
  have hn1 : 0 < F.length := List.length_pos_iff.2 hne
  obtain ⟨n, hn⟩ : ∃ n, n = F.length := ⟨_, rfl⟩
  rw [← hn] at hl hn1 ⊢
  have HN := hideP hn
  clear hP hg ht hn hg1 hm1 hne hne'
  go_enter Tryz.func41, Tryz.ntmps41
  go_wp2
  go_loopw [1, 5, 6, 7, 22] (fun v1 v5 v6 v7 v22 wr => ∃ (j : Nat) (z : Int) (u5 u6 u7 : Value) (Z : List Int), j ≤ n ∧ -1 ≤ z ∧ z ≤ 2147483646 ∧ v22 = .int .i64 j ∧ v1 = .int .i64 z ∧ v5 = u5 ∧ v6 = u6 ∧ v7 = u7 ∧ Hid (z = lastd b (pol (F.take j))) ∧ Hid (Z = psb (pol (F.take j))) ∧ Hid (Tri w wr u5 u6 u7 (gps b (pol (F.take j))) (mos (pol (F.take j))) Z)) (fun _ _ _ _ v22 _ => n - (intOf v22).toNat)
  case atStart =>
    exact ⟨0, b, _, _, _, [], by omega, hb, hb2, rfl, rfl, rfl, rfl, rfl, hideP rfl, hideP rfl, HT0⟩
  case round =>
    obtain ⟨j, z, u5, u6, u7, Z, hj, hz1, hz2, rfl, rfl, rfl, rfl, rfl, HZl, HZ, HT⟩ := hrel
    clear HT0
    by_cases hlt : j < n
    · have hjj : (j : Int) < (n : Int) := by omega
      have hjl : j < F.length := by rw [← HN.out]; exact hlt
      obtain ⟨bl, off, rfl, hc⟩ := (HP.out.kept HT.out.g5.kept) (by intro e; rw [e] at hjl; simp at hjl)
      obtain ⟨x0, x1, -⟩ := hc j hjl
      have HIn : Hid (∀ W, Kept (fun _ => False) w W → IntsAt W F[j].a F[j].ps) := hideP (fun W k => by
        obtain ⟨_, _, _, hc2⟩ := (HP.out.kept k) (by intro e; rw [e] at hjl; simp at hjl)
        exact (hc2 j hjl).2.2)
      have hstep := pol_step hjl
      have hgd1 : Gd1 z ⟨F[j].d, F[j].ps⟩ := by
        have h1 := gdl_take HGd.out (j + 1)
        rw [← pol_take, hstep, gdl_append] at h1
        have h2 := h1.2.1
        rw [← HZl.out] at h2
        exact h2
      have HS : Hid (pol (F.take (j + 1)) = pol (F.take j) ++ [⟨F[j].d, F[j].ps⟩]) := hideP hstep
      have hZ10 : Z.length ≤ 10 * tot (pol (F.take j)) := by
        rw [HZ.out]
        exact psb_le (fun p hp => by
          rw [pol_take] at hp
          exact (gdl_pos HGd.out p (List.mem_of_mem_take hp)).2)
      have hTj : tot (pol (F.take j)) + F[j].ps.length ≤ tot (pol F) := by
        have h1 := tot_take_le (pol F) (j + 1)
        rw [← pol_take, hstep, tot_append] at h1
        simp only [tot] at h1
        omega
      have hTm := HTt.out
      have hXl : (gps b (pol (F.take j))).length = j := by rw [gps_length, pol_len, List.length_take]; omega
      have hYl : (mos (pol (F.take j))).length = j := by rw [mos_length, pol_len, List.length_take]; omega
      clear hc hstep
      generalize F[j] = en at *
      obtain ⟨d, pa, pc, ps⟩ := en
      simp only at x0 x1 HIn hgd1 HS hTj
      have hd0 := hgd1.lo
      have hd1 := hgd1.hi
      have hdz := hgd1.up
      have hpn0 : 0 < ps.length := List.length_pos_iff.2 hgd1.ne
      have HRi := hideP hgd1.ri
      simp only at hd0 hd1 hdz
      obtain ⟨X, hX⟩ : ∃ X, X = gps b (pol (F.take j)) := ⟨_, rfl⟩
      obtain ⟨Y, hY⟩ : ∃ Y, Y = mos (pol (F.take j)) := ⟨_, rfl⟩
      rw [← hX] at HT hXl
      rw [← hY] at HT hYl
      have HX := hideP hX
      have HY := hideP hY
      obtain ⟨pn, hpn⟩ : ∃ pn, pn = ps.length := ⟨_, rfl⟩
      rw [← hpn] at x1 hTj hpn0
      have HPn := hideP hpn
      obtain ⟨gq, hgq⟩ : ∃ gq : Int, gq = d - z - 1 := ⟨_, rfl⟩
      have hgq2 : d - z - 1 = gq := hgq.symm
      obtain ⟨pm, hpm⟩ : ∃ pm : Nat, pn = pm + 1 := ⟨pn - 1, by omega⟩
      have hpm2 : (pn : Int) - 1 = (pm : Int) := by omega
      have HGq := hideP hgq
      have HPm := hideP hpm
      have kA := Kept.alloc wr (.cells #[.int .i64 d, .slice pa pn pc] 38)
      have HGA := hideP (heap_alloc_new wr (.cells #[.int .i64 d, .slice pa pn pc] 38))
      have HTA := hideP (HT.out.later kA)
      have hgr : -1 ≤ gq ∧ gq ≤ 2147483647 := by omega
      have hno5 : ¬ u5.ownBlock = some wr.heap.size := fun e => by have := (HT.out.g5.own.lt _ e).2; omega
      have hno6 : ¬ u6.ownBlock = some wr.heap.size := fun e => by have := (HT.out.g6.own.lt _ e).2; omega
      have HN5 := hideP hno5
      have HN6 := hideP hno6
      clear hX hY hpn hgd1 hgq hpm kA hno5 hno6
      go_wp2_with (at_builtin; refine StpQ.go ?_)
      refine ⟨?_⟩
      refine wpList_pushN rfl (.tmp 26) (.tmp 32) rfl _ X.length X gq rfl (hideP HTA.out.g5) _ (by simp) rfl (by omega) ?_
      intro g7 c7 W7 HG7 HS7
      have HT7 := hideP (HTA.out.push5 (X' := X ++ [gq]) (by rw [List.length_append]; exact HG7.out) HS7.out)
      have HGA7 := hideP (HS7.out.kept.heap HGA.out HN5.out)
      have y0 : W7.cell? ⟨wr.heap.size, 0, none⟩ = some (.int .i64 d) := by rw [cell_of_row _ _ _ _ _ _ HGA7.out]; rfl
      have y1 : W7.cell? ⟨wr.heap.size, 1, none⟩ = some (.slice pa pn pc) := by rw [cell_of_row _ _ _ _ _ _ HGA7.out]; rfl
      clear HG7 HS7 HTA HGA x0 x1
      go_wp2_with (at_builtin; refine StpQ.go ?_)
      refine ⟨?_⟩
      refine wpList_pushN rfl (.tmp 34) (.tmp 39) rfl _ Y.length Y (pm : Int) rfl (hideP HT7.out.g6) _ rfl rfl (by omega) ?_
      intro g8 c8 W8 HG8 HS8
      have HT8 := hideP (HT7.out.push6 (X' := Y ++ [(pm : Int)]) (by rw [List.length_append]; exact HG8.out) HS8.out)
      have HGA8 := hideP (HS8.out.kept.heap HGA7.out HN6.out)
      have y0 : W8.cell? ⟨wr.heap.size, 0, none⟩ = some (.int .i64 d) := by rw [cell_of_row _ _ _ _ _ _ HGA8.out]; rfl
      have y1 : W8.cell? ⟨wr.heap.size, 1, none⟩ = some (.slice pa pn pc) := by rw [cell_of_row _ _ _ _ _ _ HGA8.out]; rfl
      clear HG8 HS8 HT7 HGA7
      go_wp2
      go_loopw [7, 10, 46] (fun v7 v10 v46 wr2 => ∃ (i : Nat) (q : Int) (t7 : Value) (Z2 : List Int), i ≤ pn ∧ -1 ≤ q ∧ v46 = .int .i64 i ∧ v10 = .int .i64 q ∧ v7 = t7 ∧ Hid (q = (nxt (ps.take i) 0 : Int) - 1) ∧ Hid (Z2 = Z ++ risb (ps.take i) 0) ∧ Hid (Tri w wr2 (.slice (some ⟨g7, 0, none⟩) (X.length + 1) c7) (.slice (some ⟨g8, 0, none⟩) (Y.length + 1) c8) t7 (X ++ [gq]) (Y ++ [(pm : Int)]) Z2)) (fun _ _ v46 _ => pn - (intOf v46).toNat)
      case atStart => exact ⟨0, -1, _, Z, by omega, by omega, rfl, rfl, rfl, hideP rfl, hideP (by simp [risb]), HT8⟩
      case round =>
        obtain ⟨i, q, t7, Z2, hi, hq1, rfl, rfl, rfl, HQ, HZ2, HT9⟩ := hrel
        clear HT8 y0 y1 HGA8
        by_cases hli : i < pn
        · have hii : (i : Int) < (pn : Int) := by omega
          have hil : i < ps.length := by rw [← HPn.out]; exact hli
          obtain ⟨ib, io, rfl, hc⟩ := (HIn.out wr HT9.out.g5.kept).get (k := i) hil
          have hx := HRi.out.mem (ps[i]?.getD 0) (by rw [List.getElem?_eq_getElem hil]; exact List.getElem_mem hil)
          have hnx : (nxt (ps.take i) 0 : Int) ≤ ps[i]?.getD 0 := by
            rw [List.getElem?_eq_getElem hil]
            exact nxt_le (fun y hy => (HRi.out.mem y hy).1) HRi.out.rise hil
          have HZ3 : Hid (Z ++ risb (ps.take (i + 1)) 0 = Z2 ++ uvb ((ps[i]?.getD 0).toNat - nxt (ps.take i) 0)) := hideP (by
            rw [List.take_add_one, List.getElem?_eq_getElem hil]
            simp only [Option.toList_some, Option.getD_some]
            rw [risb_snoc, HZ2.out, List.append_assoc])
          have HQ3 : Hid (((nxt (ps.take (i + 1)) 0 : Nat) : Int) - 1 = ((ps[i]?.getD 0).toNat : Int)) := hideP (by
            rw [List.take_add_one, List.getElem?_eq_getElem hil]
            simp only [Option.toList_some, Option.getD_some]
            rw [nxt_snoc]
            omega)
          have hrl : (risb (ps.take i) 0).length ≤ 10 * i := by
            have := risb_length (ps.take i) 0 (fun y hy => (HRi.out.mem y (List.mem_of_mem_take hy)).2)
            rw [List.length_take] at this
            omega
          have hZl : Z2.length ≤ 10995116300000 := by
            rw [HZ2.out, List.length_append]
            omega
          have hqx := HQ.out
          generalize ps[i]?.getD 0 = x at *
          obtain ⟨m, hm⟩ : ∃ m : Nat, m = x.toNat - nxt (ps.take i) 0 := ⟨_, rfl⟩
          rw [← hm] at HZ3
          have hm63 : m < 9223372036854775808 := by omega
          have HMx : Hid (wrap64 (wrap64 (x - q) - 1) = (m : Int)) := hideP (by unfold wrap64; omega)
          have HQ4 : Hid (x = ((nxt (ps.take (i + 1)) 0 : Nat) : Int) - 1) := hideP (by rw [HQ3.out]; omega)
          have CN := hideP (dnum_any m wr hm63)
          have hu10 := uvb_le10P m (by omega)
          have hu1 := uvb_pos m
          obtain ⟨U, hU⟩ : ∃ U, U = uvb m := ⟨_, rfl⟩
          rw [← hU] at CN HZ3 hu10 hu1
          clear hm hqx hU hnx hrl
          have hmx := HMx.out
          go_wp2_with (first
            | (go_at_call 42; refine CN.out.mono ?_; clear CN; rintro e W9 ⟨g9, c9, rfl, hG9⟩; have HT10 := hideP (HT9.out.later hG9.kept); have HB9 := hideP (gro_bytes hG9).1; clear hG9)
            | (at_builtin; refine StpQ.go ?_))
          clear hmx
          refine ⟨?_⟩
          refine wpList_catB rfl (.tmp 50) (.tmp 55) rfl _ Z2.length Z2 U rfl (hideP HT10.out.g7) (some ⟨g9, 0, none⟩) U.length c9 rfl rfl HB9 (by omega) (by omega) ?_
          intro g11 c11 W11 HG11 HS11
          have HT11 := hideP (HT10.out.push7 (X' := Z2 ++ U) (by rw [List.length_append]; exact HG11.out) HS11.out)
          clear HG11 HS11 HT10 HB9 HT9
          go_wp2
          go_roundw
          case rel => exact ⟨i + 1, x, _, Z2 ++ U, by omega, by omega, by go_num, rfl, rfl, HQ4, hideP HZ3.out.symm, HT11⟩
          case measure => simp [intOf]; omega
        · have hii : ¬ (i : Int) < (pn : Int) := by omega
          have hTf : Tri w wr (.slice (some ⟨g7, 0, none⟩) (j + 1) c7) (.slice (some ⟨g8, 0, none⟩) (j + 1) c8) u7 (gps b (pol (F.take (j + 1)))) (mos (pol (F.take (j + 1)))) Z2 := by
            have h := HT9.out
            rw [hXl, hYl] at h
            rw [HS.out, gps_snoc, mos_snoc, ← HX.out, ← HY.out, ← HZl.out]
            simp only
            rw [show d - 1 - z = gq by rw [HGq.out]; omega, show (ps.length : Int) - 1 = (pm : Int) by rw [← HPn.out]; omega]
            exact h
          have HTf := hideP hTf
          have HZf : Hid (Z2 = psb (pol (F.take (j + 1)))) := hideP (by
            rw [HS.out, psb_snoc, ← HZ.out, HZ2.out, List.take_of_length_le (by have := HPn.out; omega)])
          have HLf : Hid (d = lastd b (pol (F.take (j + 1)))) := hideP (by rw [HS.out, lastd_snoc])
          clear hTf
          go_wp2
          go_roundw
          case rel => exact ⟨j + 1, d, _, _, _, Z2, by omega, by omega, by omega, by go_num, rfl, rfl, rfl, rfl, HLf, HZf, HTf⟩
          case measure => simp [intOf]; omega
    · have hjj : ¬ (j : Int) < (n : Int) := by omega
      have hall : F.take j = F := List.take_of_length_le (by have := HN.out; omega)
      rw [hall] at HT HZ
      have HZ0 := hideP HZ.out
      obtain ⟨X, hX⟩ : ∃ X, X = gps b (pol F) := ⟨_, rfl⟩
      obtain ⟨Y, hY⟩ : ∃ Y, Y = mos (pol F) := ⟨_, rfl⟩
      have hXl : X.length = n := by rw [hX, gps_length, pol_len, HN.out]
      have hYl : Y.length = n := by rw [hY, mos_length, pol_len, HN.out]
      have HB : Hid (blk b (pol F) = (packed X ++ packed Y) ++ Z) := hideP (by rw [hX, hY, HZ.out]; rfl)
      rw [← hX, ← hY] at HT
      rw [← hX] at HG1
      rw [← hY] at HM1
      rw [← HZ.out] at hpb hpl
      have hZ40 : Z.length ≤ 10995116277760 := by have := HTt.out; omega
      obtain ⟨a5, c5, h5⟩ := HT.out.g5.shape
      obtain ⟨a6, c6, h6⟩ := HT.out.g6.shape
      obtain ⟨a7, c7, h7⟩ := HT.out.g7.shape
      subst h5 h6 h7
      have CP5 := dpk_any X a5 c5 wr (gro_ints HT.out.g5).1 (fun x hx => (HG1.out x hx).1) (fun x hx => by have := HG1.out x hx; omega) (by omega) (by intro e; rw [e] at hXl; simp at hXl; omega)
      have CP6 : Hid (∀ W, Kept (fun _ => False) wr W → Calls Tryz.prog 62 #[.slice a6 Y.length c6] W fun e w' => ∃ g c', e = .returned (.tuple #[.slice (some ⟨g, 0, none⟩) (packed Y).length c', .int .i64 0]) ∧ Gro W w' 5 1 (.slice (some ⟨g, 0, none⟩) (packed Y).length c') (packed Y).length (bs (packed Y))) := hideP (fun W k =>
        dpk_any Y a6 c6 W ((gro_ints HT.out.g6).1.kept k) (fun x hx => (HM1.out x hx).1) (fun x hx => by have := HM1.out x hx; omega) (by omega) (by intro e; rw [e] at hYl; simp at hYl; omega))
      have hp5 : (packed X).length ≤ 1000 := by
        have h1 := orl_bits X (fun x hx => (HG1.out x hx).1) (fun x hx => by have := HG1.out x hx; omega)
        have h2 := packed_length X
        have h3 := uvb_le10P X.length (by omega)
        rw [uvb_length] at h3
        have h4 : X.length * bitLen (orl X) ≤ 16 * 63 := Nat.mul_le_mul (by omega) h1
        split at h2 <;> omega
      have hp6 : (packed Y).length ≤ 1000 ∧ 0 < (packed Y).length := by
        have h1 := orl_bits Y (fun x hx => (HM1.out x hx).1) (fun x hx => by have := HM1.out x hx; omega)
        have h2 := packed_length Y
        have h3 := uvb_le10P Y.length (by omega)
        have h5 := uvb_pos Y.length
        rw [uvb_length] at h3 h5
        have h4 : Y.length * bitLen (orl Y) ≤ 16 * 63 := Nat.mul_le_mul (by omega) h1
        split at h2 <;> omega
      obtain ⟨PX, hPX⟩ : ∃ PX, PX = packed X := ⟨_, rfl⟩
      obtain ⟨PY, hPY⟩ : ∃ PY, PY = packed Y := ⟨_, rfl⟩
      rw [← hPX] at CP5 HB hp5
      rw [← hPY] at CP6 HB hp6
      rw [hXl] at CP5
      rw [hYl] at CP6
      have hT2 := HT.out
      rw [hXl, hYl] at hT2 ⊢
      have HCP5 := hideP CP5
      clear CP5 HG1 HM1 hX hY hPX hPY hall hT2
      go_wp2_with (first
        | (go_at_call 62; refine HCP5.out.mono ?_; clear HCP5; rintro e W9 ⟨g9, c9, rfl, hG9⟩; have HG9 := hideP hG9; have CP6b := hideP (CP6.out W9 hG9.kept); clear hG9 CP6)
        | (go_at_call 62; refine CP6b.out.mono ?_; clear CP6b; rintro e W10 ⟨g10, c10, rfl, hG10⟩; have HG10 := hideP hG10; clear hG10)
        | (at_builtin; refine StpQ.go ?_))
      refine ⟨?_⟩
      have HG9b := hideP ((HG9.out.later HG10.out.kept).base HT.out.g7.kept)
      have HA7 := hideP (apa_new HT.out.g7 HG9.out)
      have H7b := hideP ((HT.out.g7.later HG9.out.kept).later HG10.out.kept)
      have HB10 := hideP (gro_bytes HG10.out).1
      refine wpList_catB rfl (.tmp 70) (.tmp 71) rfl _ PX.length PX PY rfl HG9b (some ⟨g10, 0, none⟩) PY.length c10 rfl rfl HB10 hp6.2 (by omega) ?_
      intro g12 c12 W12 HG12 HS12
      have HB7 := hideP (gro_bytes (H7b.out.other HG9b.out HS12.out HA7.out).1).1
      go_wp2_with (at_builtin; refine StpQ.go ?_)
      refine ⟨?_⟩
      refine wpList_catB rfl (.tmp 73) (.tmp 74) rfl _ (PX.length + PY.length) (PX ++ PY) Z rfl HG12 a7 Z.length c7 rfl rfl HB7 hpb (by omega) ?_
      intro g13 c13 W13 HG13 HS13
      go_wp2
      go_ret
      rw [HB.out, List.length_append, List.length_append]
      exact ⟨g13, c13, rfl, HG13.out⟩
end Go.Proofs.YtidgofpmnlddaaaGreatDoor
namespace Go.Proofs.YtidgofpmnlddaaaGreatDoor
open Go.ChangeShapes Go.WideShapes Go.ChangeAt Go.RowKit

theorem wpList_pushK {w0 W : World} {ops : Array Oper} {rest : List Oper} {o : Oper} {act : Act} {Q : Exit → Act → World → Prop} (hgd : o.guard = none) (s x : Operand)
    (ho : o.op = .call { callee := .builtin .append, args := #[s, x], argTypes := #[57, 57] }) (v : Value) (n : Nat) (xs : List Value) (e1 e2 e3 e4 : Int) (hs : act.eval s = v) (hG : Hid (Gro w0 W 80 4 v n xs)) (b : Nat) (hbb : b = W.heap.size) (hx : act.eval x = .slice (some ⟨b, 0, none⟩) 1 1) (hb : n ≤ 1099511627776)
    (h : ∀ g c' W', Hid (Gro w0 W' 80 4 (.slice (some ⟨g, 0, none⟩) (n + 1) c') (n + 1) (xs ++ [.int .i64 e1, .int .i64 e2, .int .i64 e3, .int .i64 e4])) → Hid (GStep W W' v (.slice (some ⟨g, 0, none⟩) (n + 1) c')) → wpList Tryz.prog ops Q rest (act.put o.dst (.slice (some ⟨g, 0, none⟩) (n + 1) c')) W') : wpList Tryz.prog ops Q (o :: rest) act (W.alloc (.cells #[.int .i64 e1, .int .i64 e2, .int .i64 e3, .int .i64 e4] 80)) := by
  subst hbb
  obtain ⟨i0, hi, hz0, hz1, hz2⟩ := info_partsP Tryz.infoSk
  refine wpList_catX hgd s x 57 ho 80 i0 (.agg #[.int .i64 0, .int .i64 0, .int .i64 0, .int .i64 0]) 4 32 Tryz.underlying57 hi hz0 hz1 hz2 rfl (by decide) v n xs [.int .i64 e1, .int .i64 e2, .int .i64 e3, .int .i64 e4] hs (hideP (hG.out.later (Kept.alloc W _))) ⟨W.heap.size, 0, none⟩ 1 1 hx rfl (row_news W [.int .i64 e1, .int .i64 e2, .int .i64 e3, .int .i64 e4] 80) (by intro u hu; simp at hu; rcases hu with rfl | rfl | rfl | rfl <;> rfl) (by decide) (by omega) (by unfold maxLen; omega) ?_
  intro g c' W' hG2 hS
  exact h g c' W' hG2 (hideP (GStep.ahead (Kept.alloc W _) hS.out))
theorem gro_skips {w0 W : World} {a : Option Addr} {n c : Nat} {S : List Sk} (h : Gro w0 W 80 4 (.slice a n c) n (scs 0 S)) : SkAt W a S 0 ∧ n = S.length := by
  have hn : n = S.length := by have := h.own.1; rw [scs_length] at this; omega
  refine ⟨fun hne => ?_, hn⟩
  have h0 : 0 < n := by rw [hn]; exact List.length_pos_iff.2 hne
  obtain ⟨g, rfl, _, hc⟩ := h.cell h0
  refine ⟨g, 0, rfl, fun k hk => ?_⟩
  simp only [Nat.zero_add]
  have q := fun j hj => hc (k * 4 + j) _ (by rw [scs_at S 0 k j hk hj]; exact List.getElem?_eq_getElem (by simpa using hj))
  have q0 := q 0 (by decide)
  have q1 := q 1 (by decide)
  have q2 := q 2 (by decide)
  have q3 := q 3 (by decide)
  simp only [List.getElem_cons_zero, List.getElem_cons_succ, Nat.zero_add, Nat.add_zero] at q0 q1 q2 q3
  exact ⟨q0, q1, q2, q3⟩
theorem skl_next : ∀ (k : Nat) (L : List Po) (b : Int), skl b (chp (k + 1) L) = skl b (chp k L) ++ [⟨bbN b L (k + 1), (blN L k).length, (blk (bbN b L k) (blN L k)).length⟩]
  | 0, L, b => by
    rw [bbN_succ, bbN_zero]
    simp [chp, skl, blN]
  | k + 1, L, b => by
    rw [chp, skl, skl_next k (L.drop 16), chp, skl, List.cons_append, bbN_step b L (k + 1), bbN_step b L k, blN_step]
/-- What skips leaves. -/
def skPost (P : List Po) (w : World) (e : Ending) (w' : World) : Prop := ∃ (a4 a5 : Option Addr) (c4 c5 : Nat), e = .returned (.tuple #[.slice a4 (nbp P.length) c4, .slice a5 (bkb (-1) (chp (nbp P.length) P)).length c5]) ∧ Gro w w' 80 4 (.slice a4 (nbp P.length) c4) (nbp P.length) (scs 0 (skl (-1) (chp (nbp P.length) P))) ∧ Gro w w' 5 1 (.slice a5 (bkb (-1) (chp (nbp P.length) P)).length c5) (bkb (-1) (chp (nbp P.length) P)).length (bs (bkb (-1) (chp (nbp P.length) P))) ∧ Apa (.slice a4 (nbp P.length) c4) (.slice a5 (bkb (-1) (chp (nbp P.length) P)).length c5)
theorem pol_cut {L : List Pg} {P : List Po} {k f : Nat} (hP : P = pol L) (hf : f = (blN P k).length) : pol ((L.drop (16 * k)).take f) = blN P k := by
  have h1 := blN_len P k
  rw [hP] at hf h1 ⊢
  rw [hf, h1]
  unfold blN
  simp only [pol, List.map_take, List.map_drop, List.length_map]
  apply List.ext_getElem?
  intro i
  rw [List.getElem?_take, List.getElem?_take]
  by_cases hi : i < 16
  · rw [if_pos hi]
    by_cases hi2 : i < min 16 (L.length - 16 * k)
    · rw [if_pos hi2]
    · rw [if_neg hi2, List.getElem?_eq_none (by rw [List.length_drop, List.length_map]; omega)]
  · rw [if_neg hi, if_neg (by omega)]
set_option maxRecDepth 20000 in
set_option maxHeartbeats 4000000 in
theorem dskips_any (L : List Pg) (a : Option Addr) (c : Nat) (w : World) (hP : PsAt w a L) (hg : gdl (-1) (pol L)) (hl : L.length ≤ 67108864) (hlc : L.length ≤ c) (ht : tot (pol L) ≤ 67108864) :
    Calls Tryz.prog 23 #[.slice a L.length c] w (skPost (pol L) w) := by
  obtain ⟨P, hPe⟩ : ∃ P, P = pol L := ⟨_, rfl⟩
  rw [← hPe] at hg ht ⊢
  have HP := hideP hP
  have HPe := hideP hPe
  have HGd := hideP hg
  have HTt := hideP ht
  have k1 := Kept.alloc w (.cells #[] 80)
  have g4 := (gro_empty w w 80 4 (Kept.refl _ _)).later (Kept.alloc (w.alloc (.cells #[] 80)) (.cells #[] 5))
  have g5 := gro_empty w (w.alloc (.cells #[] 80)) 5 1 k1
  rw [show (w.alloc (.cells #[] 80)).heap.size = w.heap.size + 1 by simp] at g5
  have HA0 : Hid (Apa (.slice (some ⟨w.heap.size, 0, none⟩) 0 0) (.slice (some ⟨w.heap.size + 1, 0, none⟩) 0 0)) := hideP (by intro k hk he; simp [Value.ownBlock] at hk he; omega)
  have HG4 := hideP g4
  have HG5 := hideP g5
  have hPn : P.length = L.length := by rw [hPe, pol_len]
  obtain ⟨n, hn⟩ : ∃ n, n = L.length := ⟨_, rfl⟩
  rw [← hn] at hl hlc hPn ⊢
  have HN := hideP hn
  have HPn := hideP hPn
  unfold skPost
  rw [hPn]
  obtain ⟨m, hm⟩ : ∃ m, m = nbp n := ⟨_, rfl⟩
  rw [← hm]
  have HM := hideP hm
  have hm1 : m ≤ 4194304 := by rw [hm]; unfold nbp; omega
  have HBl : Hid (∀ k, k ≤ m → (bkb (-1) (chp k P)).length ≤ 3000000000) := hideP (fun k hk => by
    have := (bkb_le (m := k) HGd.out (by omega) (by have := HTt.out; omega)).1
    have := HTt.out
    omega)
  clear hP hg ht k1 g4 g5 hn hPn hm hPe
  go_enter Tryz.func23, Tryz.ntmps23
  go_wp2
  go_loopw [4, 5, 6, 7] (fun v4 v5 v6 v7 wr => ∃ (k x7 : Nat) (z : Int) (u4 u5 : Value) (Z : List Int), k ≤ m ∧ v7 = .int .i64 x7 ∧ v6 = .int .i64 z ∧ v4 = u4 ∧ v5 = u5 ∧ Hid (x7 = 16 * k) ∧ Hid (z = bbN (-1) P k) ∧ Hid (Z = bkb (-1) (chp k P)) ∧ Hid (Gro w wr 80 4 u4 k (scs 0 (skl (-1) (chp k P)))) ∧ Hid (Gro w wr 5 1 u5 Z.length (bs Z)) ∧ Hid (Apa u4 u5)) (fun _ _ _ v7 _ => 16 * m - (intOf v7).toNat)
  case atStart => exact ⟨0, 0, -1, _, _, [], by omega, rfl, rfl, rfl, rfl, hideP rfl, hideP (bbN_zero _ _).symm, hideP rfl, HG4, HG5, HA0⟩
  case round =>
    obtain ⟨k, x7, z, u4, u5, Z, hk, rfl, rfl, rfl, rfl, HX7, HZ, HZb, HG4, HG5, HA⟩ := hrel
    obtain ⟨a4, c4, h4⟩ := HG4.out.shape
    obtain ⟨a5, c5, h5⟩ := HG5.out.shape
    subst h4 h5
    by_cases hlt : k < m
    · have h16 : 16 * k < n := by have := HM.out; unfold nbp at this; omega
      have hx7 : x7 < n := by rw [HX7.out]; exact h16
      have hjj : (x7 : Int) < (n : Int) := by omega
      obtain ⟨lb, lo, hla, hc⟩ := (HP.out.kept HG4.out.kept) (by intro e; have := HN.out; rw [e] at this; simp at this; omega)
      subst hla
      have hbl := blN_len P k
      rw [HPn.out] at hbl
      obtain ⟨f, hf⟩ : ∃ f, f = (blN P k).length := ⟨_, rfl⟩
      rw [← hf] at hbl
      have hf0 : 0 < f := by omega
      have hf16 : f ≤ 16 := by omega
      obtain ⟨to, hto⟩ : ∃ to, to = x7 + f := ⟨_, rfl⟩
      have hton : to ≤ n := by rw [hto, HX7.out]; omega
      have hmn : (to : Int) = if (n : Int) < (x7 : Int) + 16 then (n : Int) else (x7 : Int) + 16 := by
        have := HX7.out
        split <;> omega
      obtain ⟨t1, ht1⟩ : ∃ t1, to = t1 + 1 := ⟨to - 1, by omega⟩
      have hs1 : (to : Int) - 1 = (t1 : Int) := by omega
      have hs2 : (to : Int) - (x7 : Int) = (f : Int) := by omega
      have hs3 : to - x7 = f := by omega
      have h7t : (x7 : Int) ≤ (to : Int) := by omega
      have htc : (to : Int) ≤ (c : Int) := by omega
      have ht1n : (t1 : Int) < (n : Int) := by omega
      have hcut := pol_cut HPe.out hf
      have CB := dblk_any ((L.drop x7).take f) (some ⟨lb, lo + x7 * 2, none⟩) (c - x7) z wr ((HP.out.kept HG4.out.kept).cut x7 f) (by rw [HX7.out, hcut, HZ.out]; exact gdl_blN HGd.out k) (by rw [HZ.out]; exact (bbN_ge HGd.out k).1) (by intro e; have := congrArg List.length e; rw [List.length_take, List.length_drop] at this; simp at this; have := HN.out; omega) (by rw [List.length_take]; omega) (by
        rw [HX7.out, hcut]
        have h1 := tot_dropN' P k
        have := HTt.out
        omega)
      rw [show ((L.drop x7).take f).length = f by rw [List.length_take, List.length_drop]; have := HN.out; omega, HX7.out, hcut, HZ.out, ← HX7.out] at CB
      have hd1 : (L[t1]'(by have := HN.out; omega)).d = bbN (-1) P (k + 1) := by
        rw [bbN_succ, lastd_get (blN P k) _ (by rw [← hf]; omega)]
        have h2 := pol_get (L := (L.drop x7).take f) (k := f - 1) (by rw [List.length_take, List.length_drop]; have := HN.out; omega) (by rw [pol_len, List.length_take, List.length_drop]; have := HN.out; omega)
        have h3 : ∀ (A B : List Po) (i j : Nat) (hi : i < A.length) (hj : j < B.length), A = B → i = j → A[i].d = B[j].d := by
          intro A B i j hi hj e1 e2
          subst e1 e2
          rfl
        rw [h3 (blN P k) (pol ((L.drop x7).take f)) _ (f - 1) (by rw [← hf]; omega) (by rw [pol_len, List.length_take, List.length_drop]; have := HN.out; omega) (by rw [HX7.out, hcut]) (by rw [← hf]), h2]
        simp only [Pg.po, List.getElem_take, List.getElem_drop]
        congr 2
        omega
      have y0 := (hc t1 (by have := HN.out; omega)).1
      rw [hd1] at y0
      have HY : Hid (∀ W, Kept (fun _ => False) w W → W.cell? ⟨lb, lo + t1 * 2, none⟩ = some (.int .i64 (bbN (-1) P (k + 1)))) := hideP (fun W kw => by
        obtain ⟨lb', lo', e, hc2⟩ := (HP.out.kept kw) (by intro e; have := HN.out; rw [e] at this; simp at this; omega)
        cases e
        have := (hc2 t1 (by have := HN.out; omega)).1
        rw [hd1] at this
        exact this)
      have HF := hideP hf
      have HMn := hideP hmn
      obtain ⟨b1, hb1⟩ : ∃ b1, b1 = bbN (-1) P (k + 1) := ⟨_, rfl⟩
      rw [← hb1] at HY y0
      obtain ⟨BK, hBK⟩ : ∃ BK, BK = blk (bbN (-1) P k) (blN P k) := ⟨_, rfl⟩
      have hBKl : BK.length ≤ 3000000000 ∧ 0 < BK.length := by
        have h1 := blk_le (gdl_blN HGd.out k) (bbN_ge HGd.out k).1 (by rw [← hf]; exact hf16)
        have h2 := tot_dropN' P k
        have h3 := HTt.out
        have h4 := blk_pos (gdl_blN HGd.out k) (by intro e; rw [e] at hf; simp at hf; omega)
        rw [hBK]
        omega
      have HZn : Hid (Z ++ BK = bkb (-1) (chp (k + 1) P)) := hideP (by rw [bkb_next, HZb.out, hBK])
      have HSn : Hid (scs 0 (skl (-1) (chp (k + 1) P)) = scs 0 (skl (-1) (chp k P)) ++ [.int .i64 b1, .int .i64 (f : Int), .int .i64 (Z.length : Int), .int .i64 (BK.length : Int)]) := hideP (by
        rw [skl_next, scs_snoc, szs_skl, Nat.zero_add, ← HZb.out, ← hb1, ← hBK, ← hf])
      have HB1 := hideP hb1
      rw [← HZ.out, show blk z (blN P k) = BK by rw [hBK, HZ.out]] at CB
      have hZl := HBl.out k hk
      rw [← HZb.out] at hZl
      have HCB := hideP CB
      have hz1 : -1 ≤ z ∧ z ≤ 2147483646 := by rw [HZ.out]; exact bbN_ge HGd.out k
      clear hmn CB hcut hd1 hc hf hb1 hBK hto ht1 hbl y0
      go_wp2_with (first
        | (refine wpList_minP rfl _ _ rfl ((x7 : Int) + 16) (n : Int) (to : Int) rfl rfl HMn.out ?_)
        | (go_at_call 41; refine HCB.out.mono ?_; clear HCB; rintro e W9 ⟨g9, c9, rfl, hG9⟩; have HG9 := hideP hG9; have y0 := HY.out W9 (HG4.out.kept.trans hG9.kept (fun _ f => f.elim)); clear hG9)
        | (at_builtin; refine StpQ.go ?_))
      refine ⟨?_⟩
      have HG9b := hideP (HG9.out.base HG4.out.kept)
      have HA94 := hideP (apa_new HG4.out HG9.out).symm
      have HG4b := hideP (HG4.out.later HG9.out.kept)
      have HG5b := hideP (HG5.out.later HG9.out.kept)
      refine wpList_pushK rfl (.tmp 35) (.tmp 45) rfl _ k (scs 0 (skl (-1) (chp k P))) b1 (f : Int) (Z.length : Int) (BK.length : Int) rfl HG4b _ rfl rfl (by omega) ?_
      intro g11 c11 W11 HG11 HS11
      have o9 := HG9b.out.other HG4b.out HS11.out HA94.out
      have o5 := HG5b.out.other HG4b.out HS11.out HA.out
      have HB9 := hideP (gro_bytes o9.1).1
      have HG5c := hideP o5.1
      have HAc := hideP o5.2
      clear o9 o5 y0
      go_wp2_with (at_builtin; refine StpQ.go ?_)
      refine ⟨?_⟩
      refine wpList_catB rfl (.tmp 47) (.tmp 48) rfl _ Z.length Z BK rfl HG5c (some ⟨g9, 0, none⟩) BK.length c9 rfl rfl HB9 hBKl.2 (by omega) ?_
      intro g12 c12 W12 HG12 HS12
      have o4 := HG11.out.other HG5c.out HS12.out HAc.out.symm
      have HG4f : Hid (Gro w W12 80 4 (.slice (some ⟨g11, 0, none⟩) (k + 1) c11) (k + 1) (scs 0 (skl (-1) (chp (k + 1) P)))) := hideP (by rw [HSn.out]; exact o4.1)
      have HG5f : Hid (Gro w W12 5 1 (.slice (some ⟨g12, 0, none⟩) (Z.length + BK.length) c12) (Z ++ BK).length (bs (Z ++ BK))) := hideP (by rw [List.length_append]; exact HG12.out)
      have HAf := hideP o4.2.symm
      clear o4
      go_wp2
      go_roundw
      case rel => exact ⟨k + 1, x7 + 16, b1, _, _, Z ++ BK, by omega, by go_num, rfl, rfl, rfl, hideP (by have := HX7.out; omega), HB1, HZn, HG4f, HG5f, HAf⟩
      case measure => simp [intOf]; have := HX7.out; have := HM.out; unfold nbp at this; omega
    · have hkm : k = m := by omega
      subst hkm
      have hx7 : ¬ (x7 : Int) < (n : Int) := by have := HX7.out; have := HM.out; unfold nbp at this; omega
      have HZf := HZb.out
      subst HZf
      go_wp2
      go_ret2
      exact ⟨a4, a5, c4, c5, rfl, HG4.out, HG5.out, HA.out⟩
end Go.Proofs.YtidgofpmnlddaaaGreatDoor
namespace Go.Proofs.YtidgofpmnlddaaaGreatDoor
open Go.ChangeShapes Go.WideShapes Go.ChangeAt Go.RowKit

set_option maxRecDepth 20000 in
set_option maxHeartbeats 2000000 in
theorem dtot_any (L : List Pg) (a : Option Addr) (c : Nat) (w : World) (h : PsAt w a L) (hl : L.length ≤ 1099511627776) (ht : tot (pol L) ≤ 1099511627776) :
    Calls Tryz.prog 43 #[.slice a L.length c] w fun e w' => e = .returned (.int .i64 ((tot (pol L) : Nat) : Int)) ∧ Kept (fun _ => False) w w' := by
  have HP := hideP h
  obtain ⟨nl, hnl⟩ : ∃ nl, nl = L.length := ⟨_, rfl⟩
  rw [← hnl] at hl ⊢
  have HNL := hideP hnl
  obtain ⟨T, hT⟩ : ∃ T, T = tot (pol L) := ⟨_, rfl⟩
  rw [← hT] at ht ⊢
  have HT := hideP hT
  clear h hnl hT
  go_enter Tryz.func43, Tryz.ntmps43
  go_wp2
  go_loopw [3, 8] (fun v3 v8 wr => ∃ (j s : Nat), j ≤ nl ∧ s ≤ T ∧ v8 = .int .i64 j ∧ v3 = .int .i64 s ∧ Hid (s = tot (pol (L.take j))) ∧ Hid (Kept (fun _ => False) w wr)) (fun _ v8 _ => nl - (intOf v8).toNat)
  case atStart => exact ⟨0, 0, by omega, by omega, rfl, rfl, hideP rfl, hideP (Kept.refl _ _)⟩
  case round =>
    obtain ⟨j, s, hj, hs, rfl, rfl, HS, HK⟩ := hrel
    by_cases hlt : j < nl
    · have hjj : (j : Int) < (nl : Int) := by omega
      have hjl : j < L.length := by rw [← HNL.out]; exact hlt
      obtain ⟨bl, off, rfl, hc⟩ := (HP.out.kept HK.out) (by intro e; rw [e] at hjl; simp at hjl)
      obtain ⟨x0, x1, -⟩ := hc j hjl
      have h2 : s + L[j].ps.length = tot (pol (L.take (j + 1))) := by rw [pol_step hjl, tot_append, ← HS.out]; simp [tot]
      have h3 : s + L[j].ps.length ≤ T := by
        rw [h2, pol_take, HT.out]
        exact tot_take_le _ _
      have HS2 := hideP h2
      clear h2 hc HS
      generalize L[j] = en at *
      obtain ⟨d, pa, pc, ps⟩ := en
      simp only at x0 x1 h3 HS2
      generalize ps.length = n at *
      have HK2 := hideP (HK.out.trans (Kept.alloc wr (.cells #[.int .i64 d, .slice pa n pc] 38)) (fun _ f => f.elim))
      go_wp2
      go_roundw
      case rel => exact ⟨j + 1, s + n, by omega, h3, by go_num, by go_num, HS2, HK2⟩
      case measure => simp [intOf]; omega
    · have hjj : ¬ (j : Int) < (nl : Int) := by omega
      have HE : Hid (s = T) := hideP (by rw [HS.out, HT.out, List.take_of_length_le (by have := HNL.out; omega)])
      go_wp2
      go_ret
      exact ⟨by rw [← HE.out]; rfl, HK.out⟩
/-- The document's number of a fault. -/
def fnm (k : Nat) : Int := if k = 0 then 0 else if k = 3 then 4 else 8
theorem any_head {l : List Int} {j : Nat} {f : Int → Bool} (h : (l.take j).any f = false) (hj : j < l.length) (hx : f (l[j]?.getD 0) = false) : (l.take (j + 1)).any f = false := by
  rw [any_snoc f hj, h, hx]
  rfl
set_option maxRecDepth 20000 in
set_option maxHeartbeats 2000000 in
theorem dgood_any (d : Int) (a : Option Addr) (c : Nat) (ps : List Int) (b : Int) (w : World) (hA : IntsAt w a ps) (hl : ps.length ≤ 1099511627776) :
    Calls Tryz.prog 40 #[.agg #[.int .i64 d, .slice a ps.length c], .int .i64 b] w fun e w' => e = .returned (.int .i64 (fnm (flt b ⟨d, ps⟩))) ∧ Kept (fun _ => False) w w' := by
  have K0 := Kept.alloc w (.cells #[.int .i64 d, .slice a ps.length c] 38)
  have HA := hideP (hA.kept K0)
  have HK := hideP K0
  obtain ⟨V, hV⟩ : ∃ V, V = fnm (flt b ⟨d, ps⟩) := ⟨_, rfl⟩
  rw [← hV]
  unfold flt at hV
  simp only at hV
  clear hA K0
  by_cases h1 : d < 0
  · rw [if_pos (.inl h1)] at hV
    have HV : Hid (V = 8) := hideP hV
    clear hV
    go_enter Tryz.func40, Tryz.ntmps40
    go_wp2
    go_ret
    exact ⟨by rw [HV.out]; rfl, HK.out⟩
  by_cases h2 : 2147483647 ≤ d
  · rw [if_pos (.inr (by omega))] at hV
    have HV : Hid (V = 8) := hideP hV
    clear hV
    go_enter Tryz.func40, Tryz.ntmps40
    go_wp2
    go_ret
    exact ⟨by rw [HV.out]; rfl, HK.out⟩
  rw [if_neg (by omega)] at hV
  by_cases h3 : d ≤ b
  · rw [if_pos h3] at hV
    have HV : Hid (V = 4) := hideP hV
    clear hV
    go_enter Tryz.func40, Tryz.ntmps40
    go_wp2
    go_ret
    exact ⟨by rw [HV.out]; rfl, HK.out⟩
  rw [if_neg h3] at hV
  by_cases h4 : ps = []
  · rw [if_pos (.inl h4)] at hV
    have HV : Hid (V = 8) := hideP hV
    subst h4
    rw [List.length_nil] at *
    clear hV
    go_enter Tryz.func40, Tryz.ntmps40
    go_wp2
    go_ret
    exact ⟨by rw [HV.out]; rfl, HK.out⟩
  have hp : 0 < ps.length := List.length_pos_iff.2 h4
  have HV : Hid (V = if ps.any (fun x => decide (x < 0)) = true then 8 else if riseB ps = true then 0 else 4) := hideP (by
    rw [hV]
    by_cases h5 : ps.any (fun x => decide (x < 0)) = true
    · rw [if_pos (.inr h5), if_pos h5]; rfl
    · rw [if_neg (by intro h; exact h.elim h4 h5), if_neg h5]
      split <;> rfl)
  clear hV h4
  obtain ⟨n, hn⟩ : ∃ n, n = ps.length := ⟨_, rfl⟩
  rw [← hn] at hp hl HK HA ⊢
  have HN := hideP hn
  have hn0 : ((n : Int) == 0) = false := by rw [beq_eq_false_iff_ne]; omega
  have gP := heap_alloc_new w (.cells #[.int .i64 d, .slice a n c] 38)
  have HG := hideP gP
  clear hn gP
  go_enter Tryz.func40, Tryz.ntmps40
  go_wp2
  generalize w.alloc (.cells #[.int .i64 d, .slice a n c] 38) = W0 at *
  go_loop [27] (fun v27 => ∃ j : Nat, j ≤ n ∧ v27 = .int .i64 j ∧ Hid ((ps.take j).any (fun x => decide (x < 0)) = false)) (fun v27 => n - (intOf v27).toNat)
  case atStart => exact ⟨0, by omega, rfl, hideP rfl⟩
  case round =>
    obtain ⟨j, hj, rfl, HJ⟩ := hrel
    by_cases hlt : j < n
    · have hjj : (j : Int) < (n : Int) := by omega
      have hjl : j < ps.length := by rw [← HN.out]; exact hlt
      obtain ⟨ab, ao, rfl, hc⟩ := HA.out.get (k := j) hjl
      obtain ⟨x, hx⟩ : ∃ x, x = ps[j]?.getD 0 := ⟨_, rfl⟩
      have HX := hideP hx
      rw [← hx] at hc
      clear hx
      by_cases hx0 : x < 0
      · have HE : Hid (V = 8) := hideP (by
          rw [HV.out, if_pos]
          rw [List.any_eq_true]
          exact ⟨x, by rw [HX.out, List.getElem?_eq_getElem hjl]; exact List.getElem_mem hjl, by simpa using hx0⟩)
        go_wp2
        go_ret
        exact ⟨by rw [HE.out]; rfl, HK.out⟩
      · have HJ2 := hideP (any_head (f := fun x => decide (x < 0)) HJ.out hjl (by rw [← HX.out]; simpa using hx0))
        go_wp2
        go_round
        case rel => exact ⟨j + 1, by omega, by go_num, HJ2⟩
        case measure => simp [intOf]; omega
    · have hjj : ¬ (j : Int) < (n : Int) := by omega
      have HV2 : Hid (V = if riseB ps = true then 0 else 4) := hideP (by
        rw [HV.out, if_neg]
        have h1 := HJ.out
        rw [List.take_of_length_le (by have := HN.out; omega)] at h1
        rw [h1]
        simp)
      go_wp2
      have x1 : W0.cell? ⟨w.heap.size, 1, none⟩ = some (.slice a n c) := by rw [cell_of_row _ _ _ _ _ _ HG.out]; rfl
      go_loopw [7] (fun v7 wr => (∃ m, wr = W0.drewN m) ∧ ∃ k : Nat, k + 1 ≤ n ∧ v7 = .int .i64 ((k : Int) + 1) ∧ Hid (∀ j, j < k → ps[j]?.getD 0 < ps[j + 1]?.getD 0)) (fun v7 _ => n + 1 - (intOf v7).toNat)
      case atStart => exact ⟨⟨0, rfl⟩, 0, by omega, rfl, hideP (fun j hj => by omega)⟩
      case round =>
        obtain ⟨⟨m, rfl⟩, k, hk, rfl, HR⟩ := hrel
        by_cases hlt : k + 1 < n
        · have hkk : (k : Int) + 1 < (n : Int) := by omega
          obtain ⟨ab, ao, rfl, hc⟩ := HA.out.get (k := k) (by rw [← HN.out]; omega)
          obtain ⟨ab', ao', e, hc'⟩ := HA.out.get (k := k + 1) (by rw [← HN.out]; exact hlt)
          cases e
          obtain ⟨x, hx⟩ : ∃ x, x = ps[k]?.getD 0 := ⟨_, rfl⟩
          obtain ⟨y, hy⟩ : ∃ y, y = ps[k + 1]?.getD 0 := ⟨_, rfl⟩
          rw [← hx] at hc
          rw [← hy] at hc'
          have HX := hideP hx
          have HY := hideP hy
          clear hx hy
          by_cases hle : y ≤ x
          · have HE : Hid (V = 4) := hideP (by
              rw [HV2.out, if_neg]
              intro hr
              have := (riseB_iff ps).1 hr k (by rw [← HN.out]; exact hlt)
              rw [← HX.out, ← HY.out] at this
              omega)
            go_wp2_with fail
            go_quiet (fail)
            go_wp2
            go_ret
            exact ⟨by rw [HE.out]; rfl, HK.out.trans ((Kept.drewN W0 m).trans (Kept.drewN _ _) (fun _ f => f.elim)) (fun _ f => f.elim)⟩
          · have HR2 : Hid (∀ j, j < k + 1 → ps[j]?.getD 0 < ps[j + 1]?.getD 0) := hideP (fun j hj => by
              by_cases e : j = k
              · subst e; rw [← HX.out, ← HY.out]; omega
              · exact HR.out j (by omega))
            go_wp2_with fail
            go_quiet (fail)
            go_wp2
            go_roundw
            case rel => exact ⟨⟨m + nq, rfl⟩, k + 1, by omega, by go_num, HR2⟩
            case measure => simp [intOf]; omega
        · have hkk : ¬ (k : Int) + 1 < (n : Int) := by omega
          have HE : Hid (V = 0) := hideP (by
            rw [HV2.out, if_pos]
            rw [riseB_iff]
            intro j hj
            exact HR.out j (by have := HN.out; omega))
          go_wp2
          go_ret
          exact ⟨by rw [HE.out]; rfl, HK.out.trans (Kept.drewN W0 m) (fun _ f => f.elim)⟩
set_option maxRecDepth 20000 in
set_option maxHeartbeats 2000000 in
theorem dcheck_any (L : List Pg) (a : Option Addr) (c : Nat) (w : World) (hP : PsAt w a L) (hl : L.length ≤ 1099511627776) (ht : tot (pol L) ≤ 1099511627776) :
    Calls Tryz.prog 22 #[.slice a L.length c] w fun e w' => e = .returned (.int .i64 (fnm (flts (-1) (pol L)))) ∧ Kept (fun _ => False) w w' := by
  have HP := hideP hP
  have HT := hideP ht
  obtain ⟨nl, hnl⟩ : ∃ nl, nl = L.length := ⟨_, rfl⟩
  rw [← hnl] at hl ⊢
  have HNL := hideP hnl
  obtain ⟨V, hV⟩ : ∃ V, V = fnm (flts (-1) (pol L)) := ⟨_, rfl⟩
  rw [← hV]
  have HV := hideP hV
  clear hP ht hnl hV
  go_enter Tryz.func22, Tryz.ntmps22
  go_wp2
  go_loopw [3, 9] (fun v3 v9 wr => ∃ (j : Nat) (z : Int), j ≤ nl ∧ v9 = .int .i64 j ∧ v3 = .int .i64 z ∧ Hid (flts (-1) (pol L) = flts z (pol (L.drop j))) ∧ Hid (Kept (fun _ => False) w wr)) (fun _ v9 _ => nl - (intOf v9).toNat)
  case atStart => exact ⟨0, -1, by omega, rfl, rfl, hideP rfl, hideP (Kept.refl _ _)⟩
  case round =>
    obtain ⟨j, z, hj, rfl, rfl, HF, HK⟩ := hrel
    by_cases hlt : j < nl
    · have hjj : (j : Int) < (nl : Int) := by omega
      have hjl : j < L.length := by rw [← HNL.out]; exact hlt
      obtain ⟨bl, off, rfl, hc⟩ := (HP.out.kept HK.out) (by intro e; rw [e] at hjl; simp at hjl)
      obtain ⟨x0, x1, x2⟩ := hc j hjl
      have q5 : L[j].ps.length ≤ 1099511627776 := Nat.le_trans (tot_mem (pol_at hjl)) HT.out
      have HS := hideP (flts_step hjl z)
      clear hc
      generalize L[j] = en at *
      obtain ⟨d, pa, pc, ps⟩ := en
      simp only at x0 x1 x2 q5 HS
      have kA := Kept.alloc wr (.cells #[.int .i64 d, .slice pa ps.length pc] 38)
      have gA := heap_alloc_new wr (.cells #[.int .i64 d, .slice pa ps.length pc] 38)
      have CG := dgood_any d pa pc ps z _ (x2.kept kA) q5
      have HKA := hideP (HK.out.trans kA (fun _ f => f.elim))
      obtain ⟨F, hF⟩ : ∃ F, F = flt z ⟨d, ps⟩ := ⟨_, rfl⟩
      rw [← hF] at CG HS
      have HGA := hideP gA
      have HCG := hideP CG
      have hor := flt_or z ⟨d, ps⟩
      rw [← hF] at hor
      clear CG kA gA x2 hF
      generalize ps.length = n at *
      by_cases h0 : F = 0
      · subst h0
        have HF2 : Hid (flts (-1) (pol L) = flts d (pol (L.drop (j + 1)))) := hideP (by rw [HF.out, HS.out, if_pos rfl])
        rw [show fnm 0 = 0 from rfl] at HCG
        go_wp2_with (go_at_call 40; refine HCG.out.mono ?_; clear HCG; rintro e W5 ⟨rfl, k5⟩; have HK5 := hideP (HKA.out.trans k5 (fun _ f => f.elim)); have y0 : W5.cell? ⟨wr.heap.size, 0, none⟩ = some (.int .i64 d) := (by rw [cell_of_row _ _ _ _ _ _ (k5.heap HGA.out (fun f => f))]; rfl); clear k5)
        go_roundw
        case rel => exact ⟨j + 1, d, by omega, by go_num, rfl, HF2, HK5⟩
        case measure => simp [intOf]; omega
      · have HE : Hid (V = fnm F) := hideP (by rw [HV.out, HF.out, HS.out, if_neg h0])
        obtain ⟨q, hq⟩ : ∃ q, q = fnm F := ⟨_, rfl⟩
        rw [← hq] at HCG HE
        have hqn : (q != 0) = true := by
          rw [hq]
          rcases hor with e | e | e
          · exact absurd e h0
          · rw [e]; rfl
          · rw [e]; rfl
        clear hq
        go_wp2_with (go_at_call 40; refine HCG.out.mono ?_; clear HCG; rintro e W5 ⟨rfl, k5⟩; have HK5 := hideP (HKA.out.trans k5 (fun _ f => f.elim)); clear k5)
        go_ret
        exact ⟨by rw [HE.out]; rfl, HK5.out⟩
    · have hjj : ¬ (j : Int) < (nl : Int) := by omega
      have HE : Hid (V = 0) := hideP (by rw [HV.out, HF.out, List.drop_of_length_le (by have := HNL.out; omega)]; rfl)
      go_wp2
      go_ret
      exact ⟨by rw [HE.out]; rfl, HK.out⟩
end Go.Proofs.YtidgofpmnlddaaaGreatDoor
namespace Go.Proofs.YtidgofpmnlddaaaGreatDoor
open Go.ChangeShapes Go.WideShapes Go.ChangeAt Go.RowKit

theorem skb_next (k : Nat) (L : List Po) (b : Int) : skb b (chp (k + 1) L) = skb b (chp k L) ++ (uvb (bbN b L (k + 1) - 1 - bbN b L k).toNat ++ uvb (blk (bbN b L k) (blN L k)).length) := by
  rw [chp_snoc, skb_snoc, lasB_chp]
  rw [bbN_succ]
  rfl
set_option maxRecDepth 20000 in
set_option maxHeartbeats 4000000 in
theorem dhead_any (L : List Pg) (a : Option Addr) (c : Nat) (a4 : Option Addr) (c4 : Nat) (w : World) (hP : PsAt w a L) (hS : SkAt w a4 (skl (-1) (chp (nbp L.length) (pol L))) 0) (hg : gdl (-1) (pol L)) (hl : L.length ≤ 67108864) (ht : tot (pol L) ≤ 67108864) :
    Calls Tryz.prog 24 #[.slice a L.length c, .slice a4 (nbp L.length) c4] w fun e w' => ∃ g c', e = .returned (.slice (some ⟨g, 0, none⟩) (hdl (pol L)) c') ∧ Gro w w' 5 1 (.slice (some ⟨g, 0, none⟩) (hdl (pol L)) c') (hdl (pol L)) (bs ((uvb L.length ++ uvb (tot (pol L))) ++ skb (-1) (chp (nbp L.length) (pol L)))) := by
  have hPn : (pol L).length = L.length := pol_len L
  have hH : hdl (pol L) = ((uvb L.length ++ uvb (tot (pol L))) ++ skb (-1) (chp (nbp L.length) (pol L))).length := by unfold hdl; rw [hPn]
  have CN1 := hideP (dnum_any L.length w (by omega))
  have CT : Hid (∀ W, Kept (fun _ => False) w W → Calls Tryz.prog 43 #[.slice a L.length c] W fun e w' => e = .returned (.int .i64 ((tot (pol L) : Nat) : Int)) ∧ Kept (fun _ => False) W w') := hideP (fun W k => dtot_any L a c W (hP.kept k) (by omega) (by omega))
  obtain ⟨P, hPe⟩ : ∃ P, P = pol L := ⟨_, rfl⟩
  rw [← hPe] at hS hg ht hPn hH CT ⊢
  obtain ⟨n, hn⟩ : ∃ n, n = L.length := ⟨_, rfl⟩
  rw [← hn] at hS hl hPn hH CN1 CT ⊢
  obtain ⟨T, hT⟩ : ∃ T, T = tot P := ⟨_, rfl⟩
  rw [← hT] at ht hH CT ⊢
  have CN2 : Hid (∀ W, Calls Tryz.prog 42 #[.int .i64 T] W fun e w' => ∃ g c, e = .returned (.slice (some ⟨g, 0, none⟩) (uvb T).length c) ∧ Gro W w' 5 1 (.slice (some ⟨g, 0, none⟩) (uvb T).length c) (uvb T).length (bs (uvb T))) := hideP (fun W => dnum_any T W (by omega))
  obtain ⟨m, hm⟩ : ∃ m, m = nbp n := ⟨_, rfl⟩
  have hm1 : m ≤ 4194304 := by rw [hm]; unfold nbp; omega
  rw [← hm] at hS hH ⊢
  have HSk : Hid (∀ W k, Kept (fun _ => False) w W → k < m → ∃ b off, a4 = some ⟨b, off, none⟩ ∧ W.cell? ⟨b, off + k * 4, none⟩ = some (.int .i64 (bbN (-1) P (k + 1))) ∧ W.cell? ⟨b, off + k * 4 + 1, none⟩ = some (.int .i64 ((blN P k).length : Nat)) ∧ W.cell? ⟨b, off + k * 4 + 2, none⟩ = some (.int .i64 ((szs ((skl (-1) (chp m P)).take k) : Nat) : Int)) ∧ W.cell? ⟨b, off + k * 4 + 3, none⟩ = some (.int .i64 ((blk (bbN (-1) P k) (blN P k)).length : Nat))) := hideP (fun W k kw hk => by
    have hkl : k < (skl (-1) (chp m P)).length := by rw [skl_len]; exact hk
    obtain ⟨b, off, e, hc⟩ := (hS.kept kw) (by intro e; rw [e] at hkl; simp at hkl)
    have e2 := skl_get k m P (-1) hk
    rw [List.getElem?_eq_getElem hkl, Option.some.injEq] at e2
    obtain ⟨q0, q1, q2, q3⟩ := hc k hkl
    rw [e2] at q0 q1 q3
    rw [Nat.zero_add] at q2
    exact ⟨b, off, e, q0, q1, q2, q3⟩)
  have HGd := hideP hg
  have HM := hideP hm
  have HPn := hideP hPn
  have HH := hideP hH
  have hu1 := uvb_le10P n (by omega)
  have hu2 := uvb_le10P T (by omega)
  have hu3 := uvb_pos T
  obtain ⟨U1, hU1⟩ : ∃ U1, U1 = uvb n := ⟨_, rfl⟩
  obtain ⟨U2, hU2⟩ : ∃ U2, U2 = uvb T := ⟨_, rfl⟩
  have HBl : Hid (∀ k, k ≤ m → ((U1 ++ U2) ++ skb (-1) (chp k P)).length ≤ 3000000000) := hideP (fun k hk => by
    have := (bkb_le (m := k) hg (by omega) (by omega)).2
    rw [List.length_append, List.length_append, hU1, hU2]
    omega)
  have HBk : Hid (∀ k, (blk (bbN (-1) P k) (blN P k)).length ≤ 3000000000) := hideP (fun k => by
    have h1 := blk_le (gdl_blN hg k) (bbN_ge hg k).1 (by rw [blN_len]; omega)
    have h2 := tot_dropN' P k
    omega)
  rw [← hU1] at CN1 hu1 HH ⊢
  rw [← hU2] at CN2 hu2 hu3 HH ⊢
  rw [HH.out]
  obtain ⟨R, hR⟩ : ∃ R, R = (U1 ++ U2) ++ skb (-1) (chp m P) := ⟨_, rfl⟩
  rw [← hR]
  have HR := hideP hR
  clear hR
  clear hP hS hg hPe hn hT hm hPn hH hU1 hU2
  go_enter Tryz.func24, Tryz.ntmps24
  go_wp2_with (first
    | (go_at_call 42; refine CN1.out.mono ?_; clear CN1; rintro e W1 ⟨g1, c1, rfl, hG1⟩; have HG1 := hideP hG1; have CT1 := hideP (CT.out W1 hG1.kept); clear hG1 CT)
    | (go_at_call 43; refine CT1.out.mono ?_; clear CT1; rintro e W2 ⟨rfl, k2⟩; have HG2 := hideP (HG1.out.later k2); clear k2 HG1)
    | (go_at_call 42; refine (CN2.out _).mono ?_; clear CN2; rintro e W3 ⟨g3, c3, rfl, hG3⟩; have HG3 := hideP (HG2.out.later hG3.kept); have HB3 := hideP (gro_bytes hG3).1; clear hG3 HG2)
    | (at_builtin; refine StpQ.go ?_))
  refine ⟨?_⟩
  refine wpList_catB rfl (.tmp 11) (.tmp 14) rfl _ U1.length U1 U2 rfl HG3 (some ⟨g3, 0, none⟩) U2.length c3 rfl rfl HB3 (by omega) (by omega) ?_
  intro g5 c5 W5 HG5 _
  have HG6 : Hid (Gro w W5 5 1 (.slice (some ⟨g5, 0, none⟩) (U1.length + U2.length) c5) (U1 ++ U2).length (bs (U1 ++ U2))) := hideP (by rw [List.length_append]; exact HG5.out)
  clear HG5 HG3 HB3
  go_wp2
  go_loopw [5, 6, 18] (fun v5 v6 v18 wr => ∃ (k : Nat) (z : Int) (u5 : Value) (Z : List Int), k ≤ m ∧ -1 ≤ z ∧ z ≤ 2147483646 ∧ v18 = .int .i64 k ∧ v6 = .int .i64 z ∧ v5 = u5 ∧ Hid (z = bbN (-1) P k) ∧ Hid (Z = (U1 ++ U2) ++ skb (-1) (chp k P)) ∧ Hid (Gro w wr 5 1 u5 Z.length (bs Z)) ∧ Hid (∃ g c, u5 = .slice (some ⟨g, 0, none⟩) Z.length c)) (fun _ _ v18 _ => m - (intOf v18).toNat)
  case atStart => exact ⟨0, -1, _, U1 ++ U2, by omega, by omega, by omega, rfl, rfl, rfl, hideP (bbN_zero _ _).symm, hideP (by simp [chp, skb]), HG6, hideP ⟨g5, c5, by rw [List.length_append]⟩⟩
  case round =>
    obtain ⟨k, z, u5, Z, hk, hz1, hz2, rfl, rfl, rfl, HZ, HZb, HG, HSh⟩ := hrel
    clear HG6
    obtain ⟨ga, gc, hu5⟩ := HSh.out
    subst hu5
    by_cases hlt : k < m
    · have hkk : (k : Int) < (m : Int) := by omega
      obtain ⟨sb, so, rfl, q0, q1, q2, q3⟩ := HSk.out wr k HG.out.kept hlt
      have hb1 := bbN_ge HGd.out (k + 1)
      have hbz : z < bbN (-1) P (k + 1) := by
        have h1 := (gdl_last _ _ (gdl_blN HGd.out k)).2 (by
          intro e
          have h2 := blN_len P k
          rw [e] at h2
          have := HPn.out
          have h3 := HM.out
          unfold nbp at h3
          simp at h2
          omega)
        rw [HZ.out, bbN_succ]
        exact h1.1
      have HZn : Hid ((U1 ++ U2) ++ skb (-1) (chp (k + 1) P) = (Z ++ uvb (bbN (-1) P (k + 1) - 1 - z).toNat) ++ uvb (blk (bbN (-1) P k) (blN P k)).length) := hideP (by
        rw [skb_next, HZb.out, HZ.out]
        simp only [List.append_assoc])
      have hBk := HBk.out k
      have hZl := HBl.out k hk
      rw [← HZb.out] at hZl
      obtain ⟨b1, hb1e⟩ : ∃ b1, b1 = bbN (-1) P (k + 1) := ⟨_, rfl⟩
      rw [← hb1e] at q0 hb1 hbz HZn
      have HB1 := hideP hb1e
      generalize (blk (bbN (-1) P k) (blN P k)).length = zz at *
      generalize szs ((skl (-1) (chp m P)).take k) = at0 at *
      generalize (blN P k).length = f at *
      obtain ⟨m1, hm1e⟩ : ∃ m1 : Nat, m1 = (b1 - 1 - z).toNat := ⟨_, rfl⟩
      rw [← hm1e] at HZn
      have hmx : b1 - z - 1 = (m1 : Int) := by omega
      have hml : m1 ≤ 2147483647 := by omega
      have kA := Kept.alloc wr (.cells #[.int .i64 b1, .int .i64 (f : Int), .int .i64 (at0 : Int), .int .i64 (zz : Int)] 80)
      have HGA := hideP (skO_new wr b1 (f : Int) (at0 : Int) (zz : Int))
      have HGw := hideP (HG.out.later kA)
      have CA := hideP (dnum_any m1 (wr.alloc (.cells #[.int .i64 b1, .int .i64 (f : Int), .int .i64 (at0 : Int), .int .i64 (zz : Int)] 80)) (by omega))
      have CB : Hid (∀ W, Calls Tryz.prog 42 #[.int .i64 zz] W fun e w' => ∃ g c, e = .returned (.slice (some ⟨g, 0, none⟩) (uvb zz).length c) ∧ Gro W w' 5 1 (.slice (some ⟨g, 0, none⟩) (uvb zz).length c) (uvb zz).length (bs (uvb zz))) := hideP (fun W => dnum_any zz W (by omega))
      have hv1 := uvb_le10P m1 (by omega)
      have hv2 := uvb_le10P zz (by omega)
      have hv3 := uvb_pos m1
      have hv4 := uvb_pos zz
      have HNo : Hid (ga < wr.heap.size) := hideP (HG.out.own.lt ga rfl).2
      obtain ⟨V1, hV1⟩ : ∃ V1, V1 = uvb m1 := ⟨_, rfl⟩
      obtain ⟨V2, hV2⟩ : ∃ V2, V2 = uvb zz := ⟨_, rfl⟩
      rw [← hV1] at CA HZn hv1 hv3
      rw [← hV2] at CB HZn hv2 hv4
      clear hb1e hm1e kA hV1 hV2
      go_wp2_with (first
        | (go_at_call 42; refine CA.out.mono ?_; clear CA; rintro e W7 ⟨g7, c7, rfl, hG7⟩; have HG8 := hideP (HGw.out.later hG7.kept); have HB7 := hideP (gro_bytes hG7).1; have HGA7 := hideP (hG7.kept.heap HGA.out (fun f => f)); clear hG7)
        | (at_builtin; refine StpQ.go ?_))
      refine ⟨?_⟩
      refine wpList_catB rfl (.tmp 22) (.tmp 28) rfl (.slice (some ⟨ga, 0, none⟩) Z.length gc) Z.length Z V1 rfl HG8 (some ⟨g7, 0, none⟩) V1.length c7 rfl rfl HB7 (by omega) (by omega) ?_
      intro g9 c9 W9 HG9 HS9
      have HGA9 := hideP (HS9.out.kept.heap HGA7.out (fun e => by simp [Value.ownBlock] at e; have := HNo.out; omega))
      have HNo9 : Hid (¬ g9 = wr.heap.size) := hideP (fun e => by
        rcases HS9.out.new g9 rfl with q | q
        · simp [Value.ownBlock] at q
          have := HNo.out
          omega
        · have h1 : wr.heap.size < W7.heap.size := by
            rcases Nat.lt_or_ge wr.heap.size W7.heap.size with h | h
            · exact h
            · have := HGA7.out
              rw [Array.getElem?_eq_none h] at this
              cases this
          omega)
      obtain ⟨⟨y0, y1, y2, y3⟩, -⟩ := skO_cells HGA9.out
      clear q0 q1 q2 q3
      go_wp2_with (first
        | (go_at_call 42; refine (CB.out _).mono ?_; clear CB; rintro e W10 ⟨g10, c10, rfl, hG10⟩; have HG11 := hideP (HG9.out.later hG10.kept); have HB10 := hideP (gro_bytes hG10).1; have HGA10 := hideP (hG10.kept.heap HGA9.out (fun f => f)); clear hG10)
        | (at_builtin; refine StpQ.go ?_))
      refine ⟨?_⟩
      refine wpList_catB rfl (.tmp 30) (.tmp 33) rfl (.slice (some ⟨g9, 0, none⟩) (Z.length + V1.length) c9) (Z.length + V1.length) (Z ++ V1) V2 rfl HG11 (some ⟨g10, 0, none⟩) V2.length c10 rfl rfl HB10 (by omega) (by omega) ?_
      intro g12 c12 W12 HG12 HS12
      have HGA12 := hideP (HS12.out.kept.heap HGA10.out (fun e => by simp [Value.ownBlock] at e; exact HNo9.out e))
      obtain ⟨⟨y0, y1, y2, y3⟩, -⟩ := skO_cells HGA12.out
      have HGf : Hid (Gro w W12 5 1 (.slice (some ⟨g12, 0, none⟩) (Z.length + V1.length + V2.length) c12) ((Z ++ V1) ++ V2).length (bs ((Z ++ V1) ++ V2))) := hideP (by rw [List.length_append, List.length_append]; exact HG12.out)
      go_wp2
      go_roundw
      case rel => exact ⟨k + 1, b1, _, (Z ++ V1) ++ V2, by omega, by omega, by omega, by go_num, rfl, rfl, HB1, hideP HZn.out.symm, HGf, hideP ⟨g12, c12, by rw [List.length_append, List.length_append]⟩⟩
      case measure => simp [intOf]; omega
    · have hkk : ¬ (k : Int) < (m : Int) := by omega
      obtain rfl : k = m := by omega
      have hZ : R = Z := by rw [HZb.out, HR.out]
      subst hZ
      go_wp2
      go_ret
      exact ⟨ga, gc, rfl, HG.out⟩
end Go.Proofs.YtidgofpmnlddaaaGreatDoor
namespace Go.Proofs.YtidgofpmnlddaaaGreatDoor
open Go.ChangeShapes Go.WideShapes Go.ChangeAt Go.RowKit

theorem own_capP {w : World} {base n c : Nat} {e : TypeId} {sz : Nat} {a : Option Addr} {xs : List Value} (h : w.ownsRow base e sz (.slice a n c) n xs) : n ≤ c := by
  rcases h.2 with ⟨e1, e2⟩ | ⟨g, cap, cur, e1, hg, hh, hnc, _⟩
  · simp only [Value.slice.injEq] at e1
    omega
  · simp only [Value.slice.injEq] at e1
    obtain ⟨_, _, rfl⟩ := e1
    exact hnc
theorem CallsArg8 {P : Program} {f : Nat} {a : Option Addr} {m n c : Nat} {w : World} {R : Ending → World → Prop} (h : m = n) (hc : Calls P f #[.slice a n c] w R) : Calls P f #[.slice a m c] w R := by rw [h]; exact hc
theorem wpOp_in {P : Program} {ops : Array Oper} {Q : Exit → Act → World → Prop} {i : Nat} {o : Oper} {K : Act → World → Prop} {a : Act} {w : World} (hi : ops[i]? = some o) (hgd : o.guard = none) (h : o.wp P a w K Q) : wpOp P ops Q i K a w := by
  have hw : Region.wanted o (yielded ops a.tmps) = true := by simp [Region.wanted, hgd]
  unfold wpOp
  rw [hi]
  simp only
  rw [if_pos hw]
  exact .inl h
theorem img_le {L : List Po} (hg : gdl (-1) L) (hl : L.length ≤ 1048576) (ht : tot L ≤ 1048576) : (img L).length ≤ 500000000 := by
  have h1 := bkb_le (m := nbp L.length) hg (by omega) (by omega)
  have u1 := uvb_le10P L.length (by omega)
  have u2 := uvb_le10P (tot L) (by omega)
  have hn : nbp L.length ≤ 65537 := by unfold nbp; omega
  unfold img
  rw [List.length_append, List.length_append, List.length_append]
  omega
theorem img_pos (L : List Po) : 0 < (img L).length := by
  have := uvb_pos L.length
  unfold img
  rw [List.length_append, List.length_append]
  omega
theorem bytesAt_own {W : World} {base g n c : Nat} {X : List Int} (h : W.ownsRow base 5 1 (.slice (some ⟨g, 0, none⟩) n c) n (bs X)) : BytesAt W (some ⟨g, 0, none⟩) X := by
  obtain ⟨a', c', e', h', -⟩ := bytes_of_own h
  simp only [Value.slice.injEq, true_and] at e'
  exact e'.1 ▸ h'
theorem BytesAt.headP {w : World} {a : Option Addr} {l : List Int} (h : BytesAt w a l) (n : Nat) : BytesAt w a (l.take n) := by
  intro hne
  have hl : l ≠ [] := by intro e; rw [e] at hne; simp at hne
  obtain ⟨b, off, e, hc⟩ := h hl
  refine ⟨b, off, e, fun k hk => ?_⟩
  rw [List.length_take] at hk
  rw [hc k (by omega), List.getElem?_take, if_pos (by omega)]
theorem conv_at (a : Option Addr) (n c : Nat) (W : World) (B : List Int) (hn : n = B.length) (h : BytesAt W a B) : (convert 26 9 (.slice a n c)).run Tryz.prog W = .ok (.string (strOfNums B)) W := by
  subst hn
  by_cases hne : B = []
  · subst hne
    cases a with
    | none => exact run_convert_bytes_nil W 26 5 Tryz.underlying26 Tryz.underlying5 0 c 9 Tryz.underlying9
    | some ad =>
      have hl : (loadCells ad 0).run Tryz.prog W = .ok (([] : List Int).map (Value.int .u8)).toArray W := by
        have := run_loadCells_list (P := Tryz.prog) W ad [] (fun j v hj => by simp at hj)
        simpa using this
      show (convert 26 9 (.slice (some ad) 0 c)).run Tryz.prog W = _
      rw [run_convert_bytes_string W 26 9 5 _ 0 c Tryz.underlying26 Tryz.underlying5 Tryz.underlying9, run_bytesToString W _ 0 c [] hl]
      rfl
  · obtain ⟨b, off, rfl, hc⟩ := h hne
    refine run_convert_bytes_arg W 26 5 Tryz.underlying26 Tryz.underlying5 b off B.length c B rfl (fun i hi => ?_) 9 Tryz.underlying9
    simpa [List.getD] using hc i hi
end Go.Proofs.YtidgofpmnlddaaaGreatDoor
namespace Go.Proofs.YtidgofpmnlddaaaGreatDoor
open Go.ChangeShapes Go.WideShapes Go.ChangeAt Go.RowKit

/-- 'append(s, x...)' of nothing. -/
theorem wpList_cat0 {w0 W : World} {ops : Array Oper} {rest : List Oper} {o : Oper} {act : Act} {Q : Exit → Act → World → Prop} (hgd : o.guard = none) (s x : Operand)
    (ho : o.op = .call { callee := .builtin .append, args := #[s, x], argTypes := #[26, 26] }) (v : Value) (n : Nat) (xs : List Int) (hs : act.eval s = v) (hG : Hid (Gro w0 W 5 1 v n (bs xs))) (a : Option Addr) (c : Nat) (hx : act.eval x = .slice a 0 c)
    (h : wpList Tryz.prog ops Q rest (act.put o.dst v) W) : wpList Tryz.prog ops Q (o :: rest) act W := by
  obtain ⟨i0, hi, hz0, hz1, hz2⟩ := info_partsP Tryz.infoB
  obtain ⟨sa, sc, rfl⟩ := hG.out.shape
  refine wpList_plain hgd fun K hK => ?_
  have hrun := run_append_nothing (P := Tryz.prog) W 26 26 o.type 5 i0 Tryz.underlying26 hi sa n sc (gro_bytes hG.out).2.2 (.slice a 0 c) ⟨.inl ⟨_, Tryz.underlying26⟩, fun _ => rfl, by cases a <;> simp [Builtin.firstCells, loadCells, loadCellsFrom], by cases a <;> simp [Builtin.firstCells, loadCells, loadCellsFrom], by simp, by simp⟩
  unfold Oper.wp
  simp [execOp, ho, resolve, invoke, builtin, hs, hx, hrun, Result.andThen]
  exact hK _ _ h
theorem img_leW {L : List Po} (hg : gdl (-1) L) (hl : L.length ≤ 67108864) (ht : tot L ≤ 67108864) : (img L).length ≤ 4000000000 := by
  have h1 := bkb_le (m := nbp L.length) hg (by omega) (by omega)
  have u1 := uvb_le10P L.length (by omega)
  have u2 := uvb_le10P (tot L) (by omega)
  have hn : nbp L.length ≤ 4194305 := by unfold nbp; omega
  unfold img
  rw [List.length_append, List.length_append, List.length_append]
  omega
/-- What the document's Encode leaves. -/
def dePostD (L : List Pg) (w : World) (e : Ending) (w' : World) : Prop :=
  (flts (-1) (pol L) = 0 ∧ ∃ g c, e = .returned (.tuple #[.slice (some ⟨g, 0, none⟩) (img (pol L)).length c, .int .i64 0]) ∧ Gro w w' 5 1 (.slice (some ⟨g, 0, none⟩) (img (pol L)).length c) (img (pol L)).length (bs (img (pol L))))
  ∨ (flts (-1) (pol L) ≠ 0 ∧ e = .returned (.tuple #[.slice none 0 0, .int .i64 (fnm (flts (-1) (pol L)))]) ∧ Kept (fun _ => False) w w')
set_option maxRecDepth 20000 in
set_option maxHeartbeats 4000000 in
theorem dencode_any (L : List Pg) (a : Option Addr) (c : Nat) (w : World) (hP : PsAt w a L) (hI : ∀ g ∈ L, IsInts g.ps) (hl : L.length ≤ 67108864) (hlc : L.length ≤ c) (ht : tot (pol L) ≤ 67108864) :
    Calls Tryz.prog 5 #[.slice a L.length c] w (dePostD L w) := by
  have CC := dcheck_any L a c w hP (by omega) (by omega)
  have hfi := flts_iff (L := pol L) (b := -1) (fun p hp => by
    obtain ⟨g, hgm, rfl⟩ := List.mem_map.1 hp
    exact hI g hgm)
  unfold dePostD
  have hor := flts_or (pol L) (-1)
  obtain ⟨F, hF⟩ : ∃ F, F = flts (-1) (pol L) := ⟨_, rfl⟩
  rw [← hF] at CC hfi hor ⊢
  by_cases h0 : F = 0
  · have hg := hfi.1 h0
    subst h0
    rw [show fnm 0 = 0 from rfl] at CC
    have CS : Hid (∀ W, Kept (fun _ => False) w W → Calls Tryz.prog 23 #[.slice a L.length c] W (skPost (pol L) W)) := hideP (fun W k => dskips_any L a c W (hP.kept k) hg hl hlc ht)
    have CH : Hid (∀ W a4 c4, Kept (fun _ => False) w W → SkAt W a4 (skl (-1) (chp (nbp L.length) (pol L))) 0 → Calls Tryz.prog 24 #[.slice a L.length c, .slice a4 (nbp L.length) c4] W fun e w' => ∃ g c', e = .returned (.slice (some ⟨g, 0, none⟩) (hdl (pol L)) c') ∧ Gro W w' 5 1 (.slice (some ⟨g, 0, none⟩) (hdl (pol L)) c') (hdl (pol L)) (bs ((uvb L.length ++ uvb (tot (pol L))) ++ skb (-1) (chp (nbp L.length) (pol L))))) := hideP (fun W a4 c4 k hs => dhead_any L a c a4 c4 W (hP.kept k) hs hg hl ht)
    unfold skPost at CS
    have hIm : img (pol L) = ((uvb L.length ++ uvb (tot (pol L))) ++ skb (-1) (chp (nbp L.length) (pol L))) ++ bkb (-1) (chp (nbp L.length) (pol L)) := by unfold img; rw [pol_len]; simp only [List.append_assoc]
    have hil := img_leW hg (by rw [pol_len]; exact hl) ht
    have hHd : hdl (pol L) = ((uvb L.length ++ uvb (tot (pol L))) ++ skb (-1) (chp (nbp L.length) (pol L))).length := by unfold hdl; rw [pol_len]
    rw [pol_len] at CS
    obtain ⟨IM, hIM⟩ : ∃ IM, IM = img (pol L) := ⟨_, rfl⟩
    rw [← hIM] at hIm hil ⊢
    obtain ⟨HD, hHD⟩ : ∃ HD, HD = (uvb L.length ++ uvb (tot (pol L))) ++ skb (-1) (chp (nbp L.length) (pol L)) := ⟨_, rfl⟩
    rw [← hHD] at hIm CH hHd
    obtain ⟨BB, hBB⟩ : ∃ BB, BB = bkb (-1) (chp (nbp L.length) (pol L)) := ⟨_, rfl⟩
    rw [← hBB] at hIm CS
    rw [hHd] at CH
    obtain ⟨S, hS⟩ : ∃ S, S = skl (-1) (chp (nbp L.length) (pol L)) := ⟨_, rfl⟩
    rw [← hS] at CH CS
    generalize nbp L.length = m at *
    have HIm := hideP hIm
    have HCC := hideP CC
    have hll : HD.length + BB.length ≤ 4000000000 := by rw [hIm, List.length_append] at hil; exact hil
    generalize L.length = n at *
    clear CC hfi hor hF hP hI hg hIm hHd hIM hHD hBB hS hil
    go_enter Tryz.func5, Tryz.ntmps5
    go_wp2_with (first
      | (go_at_call 22; refine HCC.out.mono ?_; clear HCC; rintro e W1 ⟨rfl, k1⟩; have HK1 := hideP k1; have CS1 := hideP (CS.out W1 k1); clear k1 CS)
      | (go_at_call 23; refine CS1.out.mono ?_; clear CS1; rintro e W2 ⟨a4, a5, c4, c5, rfl, hG4, hG5, hA⟩; have HK2 := hideP (HK1.out.trans hG4.kept (fun _ f => f.elim)); have HG5 := hideP hG5; have CH2 := hideP (CH.out W2 a4 c4 HK2.out (gro_skips hG4).1); clear hG4 hG5 hA CH)
      | (go_at_call 24; refine CH2.out.mono ?_; clear CH2; rintro e W3 ⟨g3, c3, rfl, hG3⟩; have HG3 := hideP (hG3.base HK2.out); have HB5 := hideP (gro_bytes (HG5.out.later hG3.kept)).1; clear hG3)
      | (at_builtin; refine StpQ.go ?_))
    refine ⟨?_⟩
    by_cases hb0 : BB = []
    · subst hb0
      refine wpList_cat0 rfl (.tmp 19) (.tmp 20) rfl _ HD.length HD rfl HG3 a5 c5 rfl ?_
      go_wp2
      go_ret2
      refine .inl ⟨by first | rfl | trivial, g3, c3, ?_, ?_⟩
      · rw [HIm.out, List.append_nil]; rfl
      · rw [HIm.out, List.append_nil]; exact HG3.out
    · have hbl : 0 < BB.length := List.length_pos_iff.2 hb0
      refine wpList_catB rfl (.tmp 19) (.tmp 20) rfl (.slice (some ⟨g3, 0, none⟩) HD.length c3) HD.length HD BB rfl HG3 a5 BB.length c5 rfl rfl HB5 hbl (by omega) ?_
      intro g5 c6 W5 HG6 _
      go_wp2
      go_ret2
      refine .inl ⟨by first | rfl | trivial, g5, c6, ?_, ?_⟩
      · rw [HIm.out, List.length_append]; rfl
      · rw [HIm.out, List.length_append]; exact HG6.out
  · have HCC := hideP CC
    have hfn : fnm F = 4 ∨ fnm F = 8 := by
      rcases hor with e | e | e
      · exact absurd e h0
      · rw [e]; exact .inl rfl
      · rw [e]; exact .inr rfl
    have hq : (fnm F != 0) = true := by rcases hfn with e | e <;> rw [e] <;> rfl
    clear CC hfi hor hF hP hI hfn
    generalize L.length = n at *
    go_enter Tryz.func5, Tryz.ntmps5
    generalize fnm F = q at *
    go_wp2_with (go_at_call 22; refine HCC.out.mono ?_; clear HCC; rintro e W1 ⟨rfl, k1⟩; have HK1 := hideP k1; clear k1)
    go_ret2
    exact .inr ⟨h0, rfl, HK1.out⟩
end Go.Proofs.YtidgofpmnlddaaaGreatDoor
