import Derived.Test.YtidgofpmnlddaaaGreatDoorPhc
import Derived.Test.YtidgofpmnlddaaaGreatDoorShg
import Derived.Test.YtidgofpmnlddaaaGreatDoorMrg5
import Derived.Shelf.SlSortCmp.NoneTotal
namespace Go.Proofs.YtidgofpmnlddaaaGreatDoor
open Go.ChangeShapes Go.WideShapes Go.ChangeAt Go.RowKit

/-- A spot's two cells. -/
def enS (x : Int × Nat) : List Value := [.int .i64 x.1, .int .i64 (x.2 : Nat)]
def sv (L : List (Int × Nat)) : List Value := L.flatMap enS
theorem sv_len (L : List (Int × Nat)) : (sv L).length = L.length * 2 := by
  induction L with
  | nil => rfl
  | cons x L ih => unfold sv at ih ⊢; rw [List.flatMap_cons, List.length_append, ih, List.length_cons]; simp only [enS, List.length_cons, List.length_nil]; omega
theorem sv_app (L : List (Int × Nat)) (x : Int × Nat) : sv (L ++ [x]) = sv L ++ enS x := by simp [sv]
theorem sv_get : ∀ (L : List (Int × Nat)) (k : Nat) (h : k < L.length), (sv L)[k * 2]? = some (.int .i64 L[k].1) ∧ (sv L)[k * 2 + 1]? = some (.int .i64 (L[k].2 : Nat))
  | x :: L, 0, _ => ⟨rfl, rfl⟩
  | x :: L, k + 1, h => by
    have := sv_get L k (by simpa using h)
    rw [show (k + 1) * 2 = k * 2 + 2 by omega]
    exact this
/-- cmp.Compare of two places. -/
def cfS (x y : Int × Nat) : Int := Lib.compareInt x.1 y.1
theorem ltS (x y : Int × Nat) : ltOf cfS x y = decide (x.1 < y.1) := by
  unfold ltOf cfS Lib.compareInt
  by_cases h : x.1 < y.1
  · simp [h]
  · by_cases h2 : x.1 > y.1 <;> simp [h, h2]
theorem swoS : Sort.SWO (ltOf cfS) := ⟨fun x => by rw [ltS]; simp, fun x y z h1 h2 => by rw [ltS] at *; simp at *; omega, fun x y z h1 h2 => by rw [ltS] at *; simp at *; omega⟩
set_option maxHeartbeats 1000000 in
theorem closureS (x y : Int × Nat) (W : World) : Calls Tryz.prog 60 #[.agg #[.int .i64 x.1, .int .i64 (x.2 : Nat)], .agg #[.int .i64 y.1, .int .i64 (y.2 : Nat)]] W fun e w' => e = .returned (.int .i64 (cfS x y)) ∧ ∃ q os', w' = Sort.grow (W.drewN q) os' := by
  have hcon := fun W' => AnyG.cmp_Compare_int Tryz.cmpInt x.1 y.1 W'
  change ∀ W', Calls Tryz.prog 61 _ _ _ at hcon
  unfold cfS
  generalize Lib.compareInt x.1 y.1 = r at hcon ⊢
  go_enter Tryz.func60, Tryz.ntmps60
  go_wp2_with (go_at_call 61; refine (hcon _).mono ?_; rintro e w' ⟨rfl, rfl⟩)
  go_ret
  exact ⟨rfl, 0, _, by rw [Sort.alloc_eq_grow, Sort.alloc_eq_grow, Sort.grow_grow]; rfl⟩
theorem cmpLaysS (blk off size : Nat) (w : World) : CmpLays Tryz.prog 60 #[] enS 2 cfS blk off size w := fun _ _ _ _ x y => closureS x y _
theorem kept_sort (enc : Int × Nat → List Value) (k : Nat) (w : World) (blk off n : Nat) (d : Array (Int × Nat)) (os : Array Obj) : Kept (fun i => i = blk) w (sortWorldK enc k w blk off n d os) := by
  refine ⟨rfl, rfl, rfl, size_sortWorldK_c enc k w blk off n d os, fun i hi hne => ?_⟩
  unfold sortWorldK
  simp only [Sort.grow, Sort.putRowK, Sort.putRow, Sort.mapBlock, Sort.ahead]
  rw [Array.getElem?_append_left (by simpa using hi), Array.getElem?_modify, if_neg (fun e => hne e.symm)]
theorem Gro.frozen {w0 w : World} {e : TypeId} {sz g c n : Nat} {xs : List Value} (h : Gro w0 w e sz (.slice (some ⟨g, 0, none⟩) n c) n xs) (k : Nat) : w.frozen? ⟨g, k, none⟩ = false := by
  rcases h.own.2 with ⟨e1, e2⟩ | ⟨g', cap, cur, e1, hg, hh, hn, hm, hs, ht⟩
  · cases e1
  · simp only [Value.slice.injEq, Option.some.injEq, Addr.mk.injEq, and_true, true_and] at e1
    obtain ⟨rfl, rfl⟩ := e1
    simp [World.frozen?, hh]
theorem Gro.holds {w0 w : World} {e : TypeId} {g c n : Nat} {L : List (Int × Nat)} (h : Gro w0 w e 2 (.slice (some ⟨g, 0, none⟩) n c) n (sv L)) : Sort.HoldsK enS 2 w g 0 L.toArray := by
  intro j hj
  rw [Sort.size_flatK, List.size_toArray] at hj
  refine ⟨?_, h.frozen _⟩
  rw [Sort.get_flatK _ _ _ _ (by rw [List.size_toArray]; exact hj), Nat.zero_add]
  have hk : j / 2 < L.length := by omega
  have hg := sv_get L (j / 2) hk
  have e1 : L.toArray[j / 2]! = L[j / 2] := by simp [hk]
  rw [e1]
  rcases Nat.mod_two_eq_zero_or_one j with q | q
  · rw [q]
    have := hg.1
    rw [show j / 2 * 2 = j by omega] at this
    exact h.at this
  · rw [q]
    have := hg.2
    rw [show j / 2 * 2 + 1 = j by omega] at this
    exact h.at this
theorem holds_spots {w : World} {g : Nat} {d : Array (Int × Nat)} (h : Sort.HoldsK enS 2 w g 0 d) : SpAt w (some ⟨g, 0, none⟩) d.toList := by
  intro _
  refine ⟨g, 0, rfl, fun k hk => ?_⟩
  have hk2 : k < d.size := by simpa using hk
  have h0 := (h.cell (i := k) (c := 0) hk2 (by decide)).1
  have h1 := (h.cell (i := k) (c := 1) hk2 (by decide)).1
  have e : d[k]! = d.toList[k] := by simp [hk2]
  rw [e] at h0 h1
  exact ⟨h0, h1⟩
set_option maxHeartbeats 1000000 in
/-- slices.SortFunc over spots that are not none. -/
theorem sort_spots {w0 w : World} {e : TypeId} {g c : Nat} {L : List (Int × Nat)} (h : Gro w0 w e 2 (.slice (some ⟨g, 0, none⟩) L.length c) L.length (sv L)) (hl : L.length ≤ 1099511627776) :
    Calls Tryz.prog 59 #[.slice (some ⟨g, 0, none⟩) L.length c, .func (.func 60) #[] #[]] w fun e w' => e = .returned (.tuple #[]) ∧ ∃ L2 : List (Int × Nat), L2 = (Sort.pdq (ltOf cfS) L.toArray 0 L.length (Lib.bitLen L.length) true true).toList ∧ L2.Perm L ∧ L2.Pairwise (fun x y => x.1 ≤ y.1) ∧ SpAt w' (some ⟨g, 0, none⟩) L2 ∧ Kept (fun i => i = g) w w' := by
  have eg : ∀ args w, (callFunc 60 args).run Tryz.prog w = .ok (.enter 60 args) w := enters_of Tryz.func60 (by kernel_rfl) rfl
  have hH := h.holds
  have hblk : g < w.heap.size := (h.own.lt g rfl).2
  have hcon := AnyQ.slices_SortFunc_eq Tryz.sortSpot 2 Tryz.isAgg100 Tryz.sizeOf100 enS (fun _ => rfl) (fun x v hv => by simp [enS] at hv; rcases hv with rfl | rfl <;> rfl) cfS swoS 60 #[] g 0 c L.toArray w eg (cmpLaysS g 0 L.toArray.size w) hH hblk (by rw [List.size_toArray]; omega)
  rw [List.size_toArray] at hcon
  refine hcon.mono ?_
  rintro e w' ⟨rfl, n, os, rfl⟩
  obtain ⟨hp, hs⟩ := Sort.pdq_sorts (ltOf cfS) swoS L.toArray 0 L.toArray.size (Lib.bitLen L.length) true true (Nat.zero_le _) (Nat.le_refl _) (Or.inl rfl)
  rw [List.size_toArray] at hp hs
  obtain ⟨D, hD⟩ : ∃ D, D = Sort.pdq (ltOf cfS) L.toArray 0 L.length (Lib.bitLen L.length) true true := ⟨_, rfl⟩
  rw [← hD] at hp hs ⊢
  have hsz : D.size = L.length := by have := hp.1; rwa [List.size_toArray] at this
  refine ⟨rfl, D.toList, rfl, ?_, ?_, holds_spots (holdsK_sortWorldK_c enS 2 w g 0 L.toArray D n os hH hblk (by rw [List.size_toArray]; exact hsz)), kept_sort ..⟩
  · have h3 := hp.2.2
    have e1 : D.extract 0 L.length = D := by rw [← hsz]; exact Array.extract_size
    have e2 : L.toArray.extract 0 L.length = L.toArray := by rw [show L.length = L.toArray.size by simp]; exact Array.extract_size
    rw [e1, e2] at h3
    simpa using h3
  · rw [List.pairwise_iff_getElem]
    intro i j hi hj hij
    have h4 := hs i j (Nat.zero_le _) hij (by simpa [hsz] using hj)
    rw [ltS] at h4
    have hj' : j < D.size := by simpa using hj
    have hi' : i < D.size := by simpa using hi
    simp [hi', hj'] at h4
    simpa using h4
end Go.Proofs.YtidgofpmnlddaaaGreatDoor
namespace Go.Proofs.YtidgofpmnlddaaaGreatDoor
open Go.ChangeShapes Go.WideShapes Go.ChangeAt Go.RowKit

theorem Tryz.infoSp : (Tryz.prog.info? 100).map (fun i => (i.zero, i.size, i.bytes)) = some (some (.agg #[.int .i64 0, .int .i64 0]), 2, 16) := by kernel_rfl
theorem enS_one (x : Int × Nat) : ∀ u ∈ enS x, u.oneCell' = true := by
  intro u hu
  simp [enS] at hu
  rcases hu with rfl | rfl <;> rfl
/-- What spotsOf leaves. -/
def soPost (W : World) (S : List (Int × Nat)) (e : Ending) (w' : World) : Prop := ∃ g c, ∃ L2 : List (Int × Nat), e = .returned (.slice (some ⟨g, 0, none⟩) L2.length c) ∧ L2 = (Sort.pdq (ltOf cfS) S.toArray 0 S.length (Lib.bitLen S.length) true true).toList ∧ L2.Perm S ∧ L2.Pairwise (fun x y => x.1 ≤ y.1) ∧ SpAt w' (some ⟨g, 0, none⟩) L2 ∧ Kept (fun _ => False) W w'
set_option maxRecDepth 20000 in
set_option maxHeartbeats 8000000 in
theorem spotsOf_some (L : List Il) (O : List Int) (a oa : Option Addr) (c oc : Nat) (W : World) (hL : LiAt W a L) (hO : IntsAt W oa O) (hlo : L.length = O.length) (hll : L.length ≤ 1099511627776) (hin : ∀ x ∈ L, InL x.l) (hio : InL O) (htl : ∀ k, k ≤ L.length → (spk L O k).length ≤ 1099511627776) (hne : spk L O L.length ≠ []) :
    Calls Tryz.prog 39 #[.slice a L.length c, .slice oa O.length oc] W (soPost W (spk L O L.length)) := by
  have HL := hideP hL
  have HO := hideP hO
  have HIN := hideP hin
  have HIO := hideP hio
  have HTL := hideP htl
  have HNE := hideP hne
  rw [← hlo]
  obtain ⟨n, hn⟩ : ∃ n, n = L.length := ⟨_, rfl⟩
  have HN := hideP hn
  have HLO := hideP hlo
  rw [← hn] at hll ⊢
  clear hL hO hin hio htl hne hlo hn
  go_enter Tryz.func39, Tryz.ntmps39
  go_wp2
  go_loopw [5, 12] (fun s5 s12 wr => ∃ (k m : Nat), k ≤ n ∧ s12 = .int .i64 k ∧ Hid (m = (spk L O k).length) ∧ Hid (Gro W wr 100 2 s5 m (sv (spk L O k)))) (fun _ s12 _ => n - (intOf s12).toNat)
  case atStart => exact ⟨0, 0, by omega, rfl, hideP rfl, hideP (gro_nil W _ _)⟩
  case round =>
    obtain ⟨k, m, hk, rfl, HM, HG⟩ := hrel
    by_cases hlt : k < n
    · have hkl : k < L.length := by rw [← HN.out]; exact hlt
      have hko : k < O.length := by rw [← HLO.out]; exact hkl
      obtain ⟨b, off, rfl, hc⟩ := HL.out (by intro e; rw [e] at hkl; simp at hkl)
      obtain ⟨ob, oo, rfl, ho⟩ := HO.out (by intro e; rw [e] at hko; simp at hko)
      obtain ⟨x, hx⟩ : ∃ x, x = L[k] := ⟨_, rfl⟩
      obtain ⟨z0, z1⟩ := hc k hkl
      rw [← hx] at z0 z1
      have y0 := HG.out.kept.cell z0 (fun f => f)
      have HZ1 := hideP z1
      have HX := hideP hx
      have HOC := hideP (ho k hko)
      have hob := HIO.out.at hko
      obtain ⟨o, hoo⟩ : ∃ o, o = O[k]?.getD 0 := ⟨_, rfl⟩
      rw [← hoo] at HOC hob
      obtain ⟨ho1, ho2⟩ := hob
      have HOO := hideP hoo
      have HXI : Hid (InL x.l) := hideP (HIN.out x (by rw [hx]; exact List.getElem_mem hkl))
      have hkk : (k : Int) < (n : Int) := by omega
      obtain ⟨xl, hxl⟩ : ∃ xl, xl = x.l.length := ⟨_, rfl⟩
      rw [← hxl] at y0
      have HXL := hideP hxl
      have HSP : Hid (spk L O (k + 1) = spk L O k ++ spw o k x.l) := hideP (by rw [spk, List.getElem?_eq_getElem hkl, ← hx, ← hoo])
      have hxlb : m + xl ≤ 1099511627776 := by
        have h1 := HTL.out (k + 1) hkl
        rw [HSP.out, List.length_append, spw, List.length_map, ← HM.out, ← HXL.out] at h1
        exact h1
      have HTL2 := hideP hxlb
      have hxlb : xl ≤ 1099511627776 := by omega
      generalize x.a = xa at *
      generalize x.c = xc at *
      clear z0 z1 hx hc ho hoo hxl
      go_wp2
      go_loopw [5, 19] (fun s5 s19 w2 => ∃ (j m2 : Nat), j ≤ xl ∧ Hid (m2 = m + j) ∧ s19 = .int .i64 j ∧ Hid (Gro W w2 100 2 s5 m2 (sv (spk L O k ++ spw o k (x.l.take j))))) (fun _ s19 _ => xl - (intOf s19).toNat)
      case atStart => exact ⟨0, m, by omega, hideP (by omega), rfl, by rw [List.take_zero, spw, List.map_nil, List.append_nil]; exact HG⟩
      case round =>
        obtain ⟨j, m2, hj, HM2, rfl, HG2⟩ := hrel
        by_cases hjl : j < xl
        · have hjx : j < x.l.length := by rw [← HXL.out]; exact hjl
          obtain ⟨xb, xo, rfl, hxc⟩ := HZ1.out (by intro e; rw [e] at hjx; simp at hjx)
          have y1 := HG2.out.kept.cell (hxc j hjx) (fun f => f)
          have y2 := HG2.out.kept.cell HOC.out (fun f => f)
          obtain ⟨hp1, hp2⟩ := HXI.out.at hjx
          have HST := hideP (spw_take o k x.l j hjx)
          obtain ⟨p, hp⟩ : ∃ p, p = x.l[j]?.getD 0 := ⟨_, rfl⟩
          rw [← hp] at y1 hp1 hp2 HST
          have hjj : (j : Int) < (xl : Int) := by omega
          clear hxc hp
          obtain ⟨sa, sc, rfl⟩ := HG2.out.shape
          go_wp2_with (at_builtin; refine StpQ.go ?_)
          refine ⟨?_⟩
          obtain ⟨i0, hi, hz0, hz1, hz2⟩ := info_partsP Tryz.infoSp
          refine wpList_push rfl (.tmp 23) (.tmp 32) 75 rfl 100 i0 (.agg #[.int .i64 0, .int .i64 0]) 2 16 Tryz.underlying75 hi hz0 hz1 hz2 rfl (by decide) (.slice sa m2 sc) m2 (sv (spk L O k ++ spw o k (x.l.take j))) (enS (p - o, k)) rfl HG2 rfl rfl (enS_one _) (hideP (by have := HTL2.out; have := HM2.out; omega)) (hideP (by have := HTL2.out; have := HM2.out; unfold maxLen; omega)) ?_
          intro a' c' W5 HG5
          have HG6 : Hid (Gro W W5 100 2 (.slice a' (m2 + 1) c') (m2 + 1) (sv (spk L O k ++ spw o k (x.l.take (j + 1))))) := hideP (by
            rw [HST.out, ← List.append_assoc, sv_app]
            exact HG5.out)
          clear HG5
          go_wp2
          go_roundw
          case rel => exact ⟨j + 1, m2 + 1, by omega, hideP (by have := HM2.out; omega), by go_num, HG6⟩
          case measure => simp [intOf]; omega
        · obtain rfl : j = xl := by omega
          have h6 := HG2.out
          rw [List.take_of_length_le (by rw [HXL.out]; exact Nat.le_refl _), ← HSP.out] at h6
          have HG6 := hideP h6
          clear h6
          have HM6 : Hid (m2 = (spk L O (k + 1)).length) := hideP (by rw [HSP.out, List.length_append, spw, List.length_map, ← HM.out, ← HXL.out]; exact HM2.out)
          go_wp2
          go_roundw
          case rel => exact ⟨k + 1, m2, by omega, by go_num, HM6, HG6⟩
          case measure => simp [intOf]; omega
    · obtain rfl : k = n := by omega
      obtain ⟨S, hS⟩ : ∃ S, S = spk L O k := ⟨_, rfl⟩
      have hne := HNE.out
      rw [← HN.out, ← hS] at hne
      have hg := HG.out
      have hm := HM.out
      rw [← hS] at hg hm
      have hmp : 0 < m := by rw [hm]; exact List.length_pos_iff.2 hne
      obtain ⟨sa, sc, rfl⟩ := hg.shape
      obtain ⟨g, rfl, -, -⟩ := hg.cell hmp
      subst hm
      have CS := hideP (sort_spots hg (by
        have h1 := HTL.out k (by rw [← HN.out]; exact Nat.le_refl _)
        rw [hS]; exact h1))
      have HGK := hideP hg.kept
      have HGW := hideP ((hg.own.lt g rfl).1)
      have HSS := hideP hS
      clear hg hS hne HG HM
      obtain ⟨sl, hsl⟩ : ∃ sl, sl = S.length := ⟨_, rfl⟩
      rw [← hsl] at CS hmp ⊢
      have HSL := hideP hsl
      clear hsl
      go_wp2_with (go_at_call 59; refine StpQ.go ?_)
      refine ⟨?_⟩
      refine CS.out.mono ?_
      clear CS
      rintro e W2 ⟨rfl, L2, h1, h2, h3, h4, h5⟩
      have H1 := hideP h1
      have H2 := hideP h2
      have H3 := hideP h3
      have H4 := hideP h4
      have H5 := hideP (HGK.out.trans h5 (fun i hi => .inr (by rw [hi]; exact HGW.out)))
      clear h1 h2 h3 h4 h5
      go_wp2
      go_ret
      have hl2 : L2.length = sl := by rw [H2.out.length_eq, HSL.out]
      rw [← HSS.out]
      exact ⟨g, sc, L2, by rw [hl2]; rfl, by rw [← HSL.out]; exact H1.out, H2.out, H3.out, H4.out, H5.out⟩
set_option maxRecDepth 20000 in
set_option maxHeartbeats 8000000 in
theorem phraseFreq_some (L : List Il) (O : List Int) (a oa : Option Addr) (c oc : Nat) (sl : Int) (W : World) (hL : LiAt W a L) (hO : IntsAt W oa O) (hlo : L.length = O.length) (hll : L.length ≤ 1048576) (hin : ∀ x ∈ L, InL x.l) (hlx : ∀ x ∈ L, x.l.length ≤ 1048576) (hio : InL O) (hsl : 0 ≤ sl ∧ sl ≤ 2147483647) (htl : ∀ k, k ≤ L.length → (spk L O k).length ≤ 1099511627776) (hne : spk L O L.length ≠ []) :
    Calls Tryz.prog 21 #[.slice a L.length c, .slice oa O.length oc, .int .i64 sl] W fun e w' => ∃ L2 : List (Int × Nat), L2 = (Sort.pdq (ltOf cfS) (spk L O L.length).toArray 0 (spk L O L.length).length (Lib.bitLen (spk L O L.length).length) true true).toList ∧ L2.Perm (spk L O L.length) ∧ L2.Pairwise (fun x y => x.1 ≤ y.1) ∧ e = .returned (.int .i64 (cbg L2 L.length sl : Nat)) ∧ Kept (fun _ => False) W w' := by
  have CK := hideP (fun W' (k : Kept (fun _ => False) W W') => keepLimits_in O oa oc W' (hO.kept k) (by omega) hio)
  have CS := hideP (spotsOf_some L O a oa c oc W hL hO hlo (by omega) hin hio htl hne)
  have CC := hideP (fun W' L2 (a2 : Option Addr) (c2 : Nat) (hS : SpAt W' a2 L2) (hp : L2.Perm (spk L O L.length)) => countBegins_any L2 a2 c2 L.length sl W' hS (by rw [hp.length_eq]; exact htl _ (Nat.le_refl _)) (by omega) (fun x hx => spk_word L O _ x (hp.mem_iff.1 hx)) (fun x hx => spk_at L O hin hio _ x (hp.mem_iff.1 hx)) (by omega))
  have HL := hideP hL
  have HIN := hideP hin
  have HLX := hideP hlx
  obtain ⟨s1, s2⟩ := hsl
  have e1 : decide (sl < 0) = false := decide_eq_false (by omega)
  have e2 : decide (2147483647 < sl) = false := decide_eq_false (by omega)
  have e3 : ¬ sl < 0 := by omega
  have e4 : ¬ 2147483647 < sl := by omega
  rw [← hlo] at CK CS ⊢
  obtain ⟨n, hn⟩ : ∃ n, n = L.length := ⟨_, rfl⟩
  have HN := hideP hn
  rw [← hn] at CK CS CC hll ⊢
  clear hL hO hin hlx hio htl hne hlo hn
  go_enter Tryz.func21, Tryz.ntmps21
  go_wp2_with (go_at_call 37; refine (CK.out _ (Kept.refl _ _)).mono ?_; clear CK; rintro e W1 ⟨rfl, rfl⟩)
  go_loopw [29] (fun s29 wr => ∃ k : Nat, k ≤ n ∧ s29 = .int .i64 k ∧ wr = W1) (fun s29 _ => n - (intOf s29).toNat)
  case atStart => exact ⟨0, by omega, rfl, rfl⟩
  case round =>
    obtain ⟨k, hk, rfl, rfl⟩ := hrel
    by_cases hlt : k < n
    · have hkl : k < L.length := by rw [← HN.out]; exact hlt
      obtain ⟨b, off, rfl, hc⟩ := HL.out (by intro e; rw [e] at hkl; simp at hkl)
      obtain ⟨z0, z1⟩ := hc k hkl
      have hm := List.getElem_mem hkl
      have CX := hideP (keepLimits_in L[k].l L[k].a L[k].c wr z1 (by have := HLX.out _ hm; omega) (HIN.out _ hm))
      generalize L[k].l.length = xl at *
      generalize L[k].a = xa at *
      generalize L[k].c = xc at *
      have hkk : (k : Int) < (n : Int) := by omega
      clear z1 hc hm
      go_wp2_with (go_at_call 37; refine CX.out.mono ?_; clear CX; rintro e W2 ⟨rfl, rfl⟩)
      go_roundw
      case rel => exact ⟨k + 1, by omega, by go_num, trivial⟩
      case measure => simp [intOf]; omega
    · obtain rfl : k = n := by omega
      go_wp2_with (go_at_call 39; refine StpQ.go ?_)
      refine ⟨?_⟩
      refine CS.out.mono ?_
      clear CS
      rintro e W2 ⟨g, c2, L2, rfl, h1, h2, h3, h4, k2⟩
      have CC2 := hideP (CC.out W2 L2 _ c2 h4 h2)
      have H1 := hideP h1
      have H2 := hideP h2
      have H3 := hideP h3
      have HK2 := hideP k2
      clear h1 h2 h3 h4 k2 CC
      obtain ⟨l2, hl2⟩ : ∃ l2, l2 = L2.length := ⟨_, rfl⟩
      rw [← hl2] at CC2 ⊢
      clear hl2
      go_wp2_with (go_at_call 38; refine StpQ.go ?_)
      refine ⟨?_⟩
      refine CC2.out.mono ?_
      clear CC2
      rintro e W3 ⟨rfl, k3⟩
      have HK3 := hideP (HK2.out.trans k3 (fun _ f => f.elim))
      clear k3
      go_wp2
      go_ret
      exact ⟨L2, H1.out, H2.out, H3.out, rfl, HK3.out⟩
end Go.Proofs.YtidgofpmnlddaaaGreatDoor
namespace Go.Proofs.YtidgofpmnlddaaaGreatDoor
open Go.ChangeShapes Go.WideShapes Go.ChangeAt Go.RowKit

/-- The spots from the place i up to the place e. -/
def seg (L : List (Int × Nat)) (i e : Nat) : List (Int × Nat) := (L.take e).drop i
theorem seg_snoc {L : List (Int × Nat)} {i e : Nat} (hi : i ≤ e) (he : e < L.length) : seg L i (e + 1) = seg L i e ++ [L[e]] := by
  unfold seg
  rw [List.take_succ_eq_append_getElem he, List.drop_append_of_le_length (by rw [List.length_take]; omega)]
theorem seg_cons {L : List (Int × Nat)} {i e : Nat} (hi : i < e) (he : e ≤ L.length) : seg L i e = L[i] :: seg L (i + 1) e := by
  unfold seg
  have hl : i < (L.take e).length := by rw [List.length_take]; omega
  rw [List.drop_eq_getElem_cons hl]
  simp
theorem seg_mem {L : List (Int × Nat)} {i e : Nat} {y : Int × Nat} : y ∈ seg L i e ↔ ∃ j, ∃ hj : j < L.length, i ≤ j ∧ j < e ∧ L[j] = y := by
  unfold seg
  rw [List.mem_iff_getElem]
  constructor
  · rintro ⟨k, hk, rfl⟩
    rw [List.length_drop, List.length_take] at hk
    exact ⟨i + k, by omega, by omega, by omega, by simp⟩
  · rintro ⟨j, hj, h1, h2, rfl⟩
    refine ⟨j - i, by rw [List.length_drop, List.length_take]; omega, ?_⟩
    simp only [List.getElem_drop, List.getElem_take]
    congr 1
    omega
/-- How many spots of a word. -/
def cnw (L : List (Int × Nat)) (w : Nat) : Nat := L.countP (fun y => decide (y.2 = w))
theorem cnw_pos {L : List (Int × Nat)} {w : Nat} : 0 < cnw L w ↔ ∃ y ∈ L, y.2 = w := by
  unfold cnw
  rw [List.countP_pos_iff]
  simp
/-- A count over the words, where one word's answer changes. -/
theorem cntr (p q : Nat → Bool) (x : Nat) (h : ∀ w, w ≠ x → p w = q w) : ∀ wd, x < wd → (((List.range wd).countP q : Nat) : Int) + (if p x then 1 else 0) = (((List.range wd).countP p : Nat) : Int) + (if q x then 1 else 0)
  | 0, hx => by omega
  | n + 1, hx => by
    rw [List.range_succ, List.countP_append, List.countP_append]
    simp only [List.countP_singleton]
    by_cases e : x = n
    · subst e
      have hs : (List.range x).countP q = (List.range x).countP p := List.countP_congr (fun w hw => by rw [h w (by have := List.mem_range.1 hw; omega)])
      rw [hs]
      cases p x <;> cases q x <;> simp
    · have ih := cntr p q x h n (by omega)
      rw [h n (fun e' => e e'.symm)]
      generalize (if p x = true then (1 : Int) else 0) = a at *
      generalize (if q x = true then (1 : Int) else 0) = b at *
      split <;> omega
/-- What the window is after i rounds. -/
structure Wk (L : List (Int × Nat)) (wd : Nat) (sl : Int) (i : Nat) (s : Wn) : Prop where
  en : s.en ≤ L.length
  lo : i ≤ s.en
  len : s.ins.length = wd
  ins : ∀ w, w < wd → (s.ins[w]?).getD 0 = ((cnw (seg L i s.en) w : Nat) : Int)
  met : s.met = (((List.range wd).countP (fun w => decide (0 < cnw (seg L i s.en) w)) : Nat) : Int)
  up : ∀ j (hj : j < L.length), j < s.en → ∀ k (hk : k < L.length), i ≤ k → L[j].1 ≤ L[k].1 + sl
theorem set_getD {l : List Int} {k w : Nat} {v : Int} (hk : k < l.length) : ((l.set k v)[w]?).getD 0 = if w = k then v else (l[w]?).getD 0 := by
  by_cases e : w = k
  · subst e
    rw [if_pos rfl, List.getElem?_set_self hk]
    rfl
  · rw [if_neg e, List.getElem?_set_ne (fun h => e h.symm)]
theorem cnw_snoc (L : List (Int × Nat)) (x : Int × Nat) (w : Nat) : cnw (L ++ [x]) w = cnw L w + if x.2 = w then 1 else 0 := by
  unfold cnw
  rw [List.countP_append, List.countP_singleton]
  simp
theorem cnw_cons (L : List (Int × Nat)) (x : Int × Nat) (w : Nat) : cnw (x :: L) w = cnw L w + if x.2 = w then 1 else 0 := by
  unfold cnw
  rw [List.countP_cons]
  simp
theorem wk_zero (L : List (Int × Nat)) (wd : Nat) (sl : Int) : Wk L wd sl 0 ⟨List.replicate wd 0, 0, 0⟩ := by
  have hc : ∀ w, cnw (seg L 0 0) w = 0 := fun w => by simp [seg, cnw]
  refine ⟨Nat.zero_le _, Nat.le_refl _, by simp, fun w hw => ?_, ?_, fun j hj h => by simp at h⟩
  · rw [hc]
    simp [hw]
  · simp [hc]
/-- A spot comes in. -/
theorem Wk.come {L : List (Int × Nat)} {wd : Nat} {sl : Int} {i : Nat} {s : Wn} (h : Wk L wd sl i s) (he : s.en < L.length) (hw : (L[s.en]).2 < wd) (hle : ∀ k (hk : k < L.length), i ≤ k → L[s.en].1 ≤ L[k].1 + sl) : Wk L wd sl i ⟨s.ins.set (L[s.en]).2 ((s.ins[(L[s.en]).2]?).getD 0 + 1), if (s.ins[(L[s.en]).2]?).getD 0 = 0 then s.met + 1 else s.met, s.en + 1⟩ := by
  have hs := seg_snoc h.lo he
  have hi := h.ins _ hw
  obtain ⟨x, hx⟩ : ∃ x, x = L[s.en] := ⟨_, rfl⟩
  rw [← hx] at hs hi hw ⊢
  have hc : ∀ w, cnw (seg L i (s.en + 1)) w = cnw (seg L i s.en) w + if x.2 = w then 1 else 0 := fun w => by rw [hs, cnw_snoc]
  refine ⟨he, by have := h.lo; simp only; omega, by rw [List.length_set]; exact h.len, fun w hw' => ?_, ?_, fun j hj hje k hk hik => ?_⟩
  · simp only
    rw [set_getD (by rw [h.len]; exact hw), hc]
    by_cases e : w = x.2
    · rw [if_pos e, if_pos e.symm, hi, e]
      omega
    · rw [if_neg e, if_neg (fun h => e h.symm), h.ins w hw']
      rfl
  · simp only
    have hm := cntr (fun w => decide (0 < cnw (seg L i s.en) w)) (fun w => decide (0 < cnw (seg L i (s.en + 1)) w)) x.2 (fun w hne => by
      simp only [hc w, if_neg (show ¬ x.2 = w from fun h => hne h.symm), Nat.add_zero]) wd hw
    have hq : decide (0 < cnw (seg L i (s.en + 1)) x.2) = true := by rw [hc]; simp
    simp only [hq, if_true] at hm
    have hmet := h.met
    by_cases e : cnw (seg L i s.en) x.2 = 0
    · have hp : decide (0 < cnw (seg L i s.en) x.2) = false := by simp [e]
      rw [hp] at hm
      rw [if_pos (by rw [hi, e]; rfl), hmet]
      simp at hm
      omega
    · have hp : decide (0 < cnw (seg L i s.en) x.2) = true := by simp; omega
      rw [hp] at hm
      rw [if_neg (by rw [hi]; omega), hmet]
      simp at hm
      omega
  · simp only at hje
    rcases Nat.lt_or_ge j s.en with q | q
    · exact h.up j hj q k hk hik
    · obtain rfl : j = s.en := by omega
      exact hle k hk hik
/-- The first spot goes out. -/
theorem Wk.go {L : List (Int × Nat)} {wd : Nat} {sl : Int} {i : Nat} {s : Wn} (h : Wk L wd sl i s) (hi : i < L.length) (hie : i < s.en) (hw : (L[i]).2 < wd) : Wk L wd sl (i + 1) ⟨s.ins.set (L[i]).2 ((s.ins[(L[i]).2]?).getD 0 - 1), if (s.ins[(L[i]).2]?).getD 0 - 1 = 0 then s.met - 1 else s.met, s.en⟩ := by
  have hs := seg_cons hie h.en
  have hin := h.ins _ hw
  obtain ⟨x, hx⟩ : ∃ x, x = L[i] := ⟨_, rfl⟩
  rw [← hx] at hs hin hw ⊢
  have hc : ∀ w, cnw (seg L i s.en) w = cnw (seg L (i + 1) s.en) w + if x.2 = w then 1 else 0 := fun w => by rw [hs, cnw_cons]
  refine ⟨h.en, hie, by rw [List.length_set]; exact h.len, fun w hw' => ?_, ?_, fun j hj hje k hk hik => h.up j hj hje k hk (by omega)⟩
  · simp only
    rw [set_getD (by rw [h.len]; exact hw)]
    by_cases e : w = x.2
    · have := hc x.2
      rw [if_pos rfl] at this
      rw [if_pos e, hin, e]
      omega
    · have := hc w
      rw [if_neg (fun h => e h.symm)] at this
      rw [if_neg e, h.ins w hw']
      omega
  · simp only
    have hm := cntr (fun w => decide (0 < cnw (seg L (i + 1) s.en) w)) (fun w => decide (0 < cnw (seg L i s.en) w)) x.2 (fun w hne => by
      simp only [hc w, if_neg (show ¬ x.2 = w from fun h => hne h.symm), Nat.add_zero]) wd hw
    have h1 := hc x.2
    rw [if_pos rfl] at h1
    have hq : decide (0 < cnw (seg L i s.en) x.2) = true := by rw [h1]; simp
    simp only [hq, if_true] at hm
    have hmet := h.met
    by_cases e : cnw (seg L (i + 1) s.en) x.2 = 0
    · have hp : decide (0 < cnw (seg L (i + 1) s.en) x.2) = false := by simp [e]
      rw [hp] at hm
      rw [if_pos (by rw [hin]; omega), hmet]
      simp at hm
      omega
    · have hp : decide (0 < cnw (seg L (i + 1) s.en) x.2) = true := by simp; omega
      rw [hp] at hm
      rw [if_neg (by rw [hin]; omega), hmet]
      simp at hm
      omega
/-- The window is widened as far as it goes. -/
theorem Wk.wide {L : List (Int × Nat)} {wd : Nat} {sl : Int} {i : Nat} (hi : i < L.length) (hwd : ∀ y ∈ L, y.2 < wd) (hso : ∀ j k (hj : j < L.length) (hk : k < L.length), j ≤ k → L[j].1 ≤ L[k].1) : ∀ (f : Nat) (s : Wn), f = L.length - s.en → Wk L wd sl i s → Wk L wd sl i (inn L (L[i].1 + sl) f s) ∧ ((inn L (L[i].1 + sl) f s).en = L.length ∨ ∃ he : (inn L (L[i].1 + sl) f s).en < L.length, L[i].1 + sl < L[(inn L (L[i].1 + sl) f s).en].1)
  | 0, s, hf, h => ⟨h, .inl (by have := h.en; simp only [inn]; omega)⟩
  | f + 1, s, hf, h => by
    have he : s.en < L.length := by omega
    obtain ⟨r, hr⟩ : ∃ r, r = inn L (L[i].1 + sl) (f + 1) s := ⟨_, rfl⟩
    rw [← hr]
    rw [inn, List.getElem?_eq_getElem he] at hr
    simp only at hr
    by_cases hle : L[s.en].1 ≤ L[i].1 + sl
    · rw [if_pos hle] at hr
      subst hr
      exact Wk.wide hi hwd hso f _ (by simp only; omega) (h.come he (hwd _ (List.getElem_mem he)) (fun k hk hik => by have := hso i k hi hk hik; omega))
    · rw [if_neg hle] at hr
      subst hr
      exact ⟨h, .inr ⟨he, by omega⟩⟩
/-- From a place b on, up to sl further, each word has a spot. -/
def okv (L : List (Int × Nat)) (wd : Nat) (sl b : Int) : Bool := (List.range wd).all (fun w => L.any (fun y => decide (y.2 = w) && (decide (b ≤ y.1) && decide (y.1 ≤ b + sl))))
theorem okv_iff {L : List (Int × Nat)} {wd : Nat} {sl b : Int} : okv L wd sl b = true ↔ ∀ w, w < wd → ∃ y ∈ L, y.2 = w ∧ b ≤ y.1 ∧ y.1 ≤ b + sl := by
  unfold okv
  rw [List.all_eq_true]
  constructor
  · intro h w hw
    have := h w (List.mem_range.2 hw)
    rw [List.any_eq_true] at this
    obtain ⟨y, hy, hd⟩ := this
    simp only [Bool.and_eq_true, decide_eq_true_eq] at hd
    exact ⟨y, hy, hd.1, hd.2.1, hd.2.2⟩
  · intro h w hw
    obtain ⟨y, hy, h1, h2, h3⟩ := h w (List.mem_range.1 hw)
    rw [List.any_eq_true]
    exact ⟨y, hy, by simp only [Bool.and_eq_true, decide_eq_true_eq]; exact ⟨h1, h2, h3⟩⟩
/-- The unlike places from which on each word has a spot, among the first i spots. -/
def cvt (L : List (Int × Nat)) (wd : Nat) (sl : Int) : Nat → Nat
  | 0 => 0
  | i + 1 => match L[i]? with
    | none => cvt L wd sl i
    | some x => if fre L i x && okv L wd sl x.1 then cvt L wd sl i + 1 else cvt L wd sl i
theorem out_wk {L : List (Int × Nat)} {wd : Nat} {sl : Int} (hsl : 0 ≤ sl) (hwd : ∀ y ∈ L, y.2 < wd) (hso : ∀ j k (hj : j < L.length) (hk : k < L.length), j ≤ k → L[j].1 ≤ L[k].1) : ∀ i, i ≤ L.length → Wk L wd sl i (out L wd sl i).1 ∧ (out L wd sl i).2 = cvt L wd sl i
  | 0, _ => ⟨wk_zero L wd sl, rfl⟩
  | i + 1, hi => by
    obtain ⟨h1, h2⟩ := out_wk hsl hwd hso i (by omega)
    have hil : i < L.length := by omega
    rw [out, cvt, List.getElem?_eq_getElem hil]
    simp only
    obtain ⟨hw, hend⟩ := Wk.wide hil hwd hso _ (out L wd sl i).1 rfl h1
    obtain ⟨s, hs⟩ : ∃ s, s = inn L (L[i].1 + sl) (L.length - (out L wd sl i).1.en) (out L wd sl i).1 := ⟨_, rfl⟩
    rw [← hs] at hw hend ⊢
    have hie : i < s.en := by
      rcases hend with q | ⟨he, q⟩
      · omega
      · rcases Nat.lt_or_ge i s.en with e | e
        · exact e
        · have := hso s.en i he hil e
          omega
    refine ⟨hw.go hil hie (hwd _ (List.getElem_mem hil)), ?_⟩
    rw [h2]
    by_cases hf : fre L i L[i] = true
    · have hiff : decide (s.met = wd) = okv L wd sl L[i].1 := by
        rw [Bool.eq_iff_iff, decide_eq_true_eq, okv_iff, hw.met]
        have hcl : (((List.range wd).countP (fun w => decide (0 < cnw (seg L i s.en) w)) : Nat) : Int) = (wd : Int) ↔ ∀ w, w < wd → 0 < cnw (seg L i s.en) w := by
          have e := List.countP_eq_length (p := fun w => decide (0 < cnw (seg L i s.en) w)) (l := List.range wd)
          rw [List.length_range] at e
          constructor
          · intro h w hw'
            have := (e.1 (by omega)) w (List.mem_range.2 hw')
            exact of_decide_eq_true this
          · intro h
            have := e.2 (fun w hw' => decide_eq_true (h w (List.mem_range.1 hw')))
            omega
        rw [hcl]
        constructor
        · intro h w hw'
          obtain ⟨y, hy, e⟩ := cnw_pos.1 (h w hw')
          obtain ⟨j, hj, hij, hje, rfl⟩ := seg_mem.1 hy
          exact ⟨L[j], List.getElem_mem hj, e, hso i j hil hj hij, hw.up j hj hje i hil (Nat.le_refl _)⟩
        · intro h w hw'
          obtain ⟨y, hy, e, hy1, hy2⟩ := h w hw'
          obtain ⟨j, hj, rfl⟩ := List.mem_iff_getElem.1 hy
          refine cnw_pos.2 ⟨L[j], seg_mem.2 ⟨j, hj, ?_, ?_, rfl⟩, e⟩
          · rcases Nat.lt_or_ge j i with q | q
            · unfold fre at hf
              rw [Bool.or_eq_true, decide_eq_true_eq, decide_eq_true_eq] at hf
              rcases hf with hf | hf
              · omega
              · rw [List.getElem?_eq_getElem (show i - 1 < L.length by omega)] at hf
                simp only [Option.getD_some] at hf
                have h3 := hso j (i - 1) hj (by omega) (by omega)
                have h4 := hso (i - 1) i (by omega) hil (by omega)
                omega
            · exact q
          · rcases hend with q | ⟨he, q⟩
            · omega
            · rcases Nat.lt_or_ge j s.en with e' | e'
              · exact e'
              · have := hso s.en j he hj e'
                omega
      rw [hiff]
    · have hf' : fre L i L[i] = false := by simpa using hf
      rw [hf']
      simp
/-- What countBegins counts: the unlike places from which on each word has a spot. -/
theorem cbg_eq {L : List (Int × Nat)} {wd : Nat} {sl : Int} (hsl : 0 ≤ sl) (hwd : ∀ y ∈ L, y.2 < wd) (hso : ∀ j k (hj : j < L.length) (hk : k < L.length), j ≤ k → L[j].1 ≤ L[k].1) : cbg L wd sl = cvt L wd sl L.length := (out_wk hsl hwd hso L.length (Nat.le_refl _)).2
end Go.Proofs.YtidgofpmnlddaaaGreatDoor
namespace Go.Proofs.YtidgofpmnlddaaaGreatDoor
open Go.ChangeShapes Go.WideShapes Go.ChangeAt Go.RowKit

/-- The unlike places of the first i spots. -/
def dvs (L : List (Int × Nat)) : Nat → List Int
  | 0 => []
  | i + 1 => match L[i]? with
    | none => dvs L i
    | some x => if fre L i x then dvs L i ++ [x.1] else dvs L i
theorem cvt_eq (L : List (Int × Nat)) (wd : Nat) (sl : Int) : ∀ i, cvt L wd sl i = (dvs L i).countP (okv L wd sl)
  | 0 => rfl
  | i + 1 => by
    rw [cvt, dvs]
    cases L[i]? with
    | none => exact cvt_eq L wd sl i
    | some x =>
      simp only
      rw [cvt_eq L wd sl i]
      cases fre L i x with
      | false => simp
      | true =>
        simp only [Bool.true_and, if_true]
        rw [List.countP_append, List.countP_singleton]
        cases okv L wd sl x.1 <;> simp
theorem dvs_mem {L : List (Int × Nat)} (hso : ∀ j k (hj : j < L.length) (hk : k < L.length), j ≤ k → L[j].1 ≤ L[k].1) : ∀ i, i ≤ L.length → (∀ b, b ∈ dvs L i ↔ ∃ j, ∃ hj : j < L.length, j < i ∧ L[j].1 = b) ∧ Rsg (dvs L i)
  | 0, _ => ⟨fun b => by simp [dvs], List.Pairwise.nil⟩
  | i + 1, hi => by
    obtain ⟨h1, h2⟩ := dvs_mem hso i (by omega)
    have hil : i < L.length := by omega
    rw [dvs, List.getElem?_eq_getElem hil]
    simp only
    by_cases hf : fre L i L[i] = true
    · rw [if_pos hf]
      have hlt : ∀ j (hj : j < L.length), j < i → L[j].1 < L[i].1 := by
        intro j hj hji
        unfold fre at hf
        rw [Bool.or_eq_true, decide_eq_true_eq, decide_eq_true_eq] at hf
        rcases hf with hf | hf
        · omega
        · rw [List.getElem?_eq_getElem (show i - 1 < L.length by omega)] at hf
          simp only [Option.getD_some] at hf
          have h3 := hso j (i - 1) hj (by omega) (by omega)
          have h4 := hso (i - 1) i (by omega) hil (by omega)
          omega
      refine ⟨fun b => ?_, ?_⟩
      · rw [List.mem_append, h1, List.mem_singleton]
        constructor
        · rintro (⟨j, hj, hji, e⟩ | e)
          · exact ⟨j, hj, by omega, e⟩
          · exact ⟨i, hil, by omega, e.symm⟩
        · rintro ⟨j, hj, hji, e⟩
          rcases Nat.lt_or_ge j i with q | q
          · exact .inl ⟨j, hj, q, e⟩
          · obtain rfl : j = i := by omega
            exact .inr e.symm
      · unfold Rsg
        rw [List.pairwise_append]
        refine ⟨h2, List.pairwise_singleton _ _, fun a ha b hb => ?_⟩
        rw [List.mem_singleton] at hb
        subst hb
        obtain ⟨j, hj, hji, rfl⟩ := (h1 a).1 ha
        exact hlt j hj hji
    · rw [if_neg hf]
      have hf' : ∃ h : i - 1 < L.length, 0 < i ∧ L[i - 1].1 = L[i].1 := by
        unfold fre at hf
        rw [Bool.or_eq_true, decide_eq_true_eq, decide_eq_true_eq] at hf
        have h0 : ¬ i = 0 := fun e => hf (.inl e)
        refine ⟨by omega, by omega, ?_⟩
        apply Decidable.byContradiction
        intro hne
        apply hf
        right
        rw [List.getElem?_eq_getElem (show i - 1 < L.length by omega)]
        exact hne
      obtain ⟨hp, h0, he⟩ := hf'
      refine ⟨fun b => ?_, h2⟩
      rw [h1]
      constructor
      · rintro ⟨j, hj, hji, e⟩
        exact ⟨j, hj, by omega, e⟩
      · rintro ⟨j, hj, hji, e⟩
        rcases Nat.lt_or_ge j i with q | q
        · exact ⟨j, hj, q, e⟩
        · obtain rfl : j = i := by omega
          exact ⟨j - 1, hp, by omega, by rw [he, e]⟩
/-- What countBegins counts, told by the unlike places alone, whatever the order of like ones. -/
theorem cbg_all {L : List (Int × Nat)} {wd : Nat} {sl : Int} (hsl : 0 ≤ sl) (hwd : ∀ y ∈ L, y.2 < wd) (hso : ∀ j k (hj : j < L.length) (hk : k < L.length), j ≤ k → L[j].1 ≤ L[k].1) {A : List Int} (hA : Rsg A) (hm : ∀ b, b ∈ A ↔ ∃ y ∈ L, y.1 = b) : cbg L wd sl = A.countP (okv L wd sl) := by
  rw [cbg_eq hsl hwd hso, cvt_eq]
  obtain ⟨h1, h2⟩ := dvs_mem hso L.length (Nat.le_refl _)
  rw [rsg_eq h2 hA (fun b => by
    rw [h1, hm]
    constructor
    · rintro ⟨j, hj, _, rfl⟩
      exact ⟨L[j], List.getElem_mem hj, rfl⟩
    · rintro ⟨y, hy, rfl⟩
      obtain ⟨j, hj, rfl⟩ := List.mem_iff_getElem.1 hy
      exact ⟨j, hj, hj, rfl⟩)]
end Go.Proofs.YtidgofpmnlddaaaGreatDoor
namespace Go.Proofs.YtidgofpmnlddaaaGreatDoor
open Go.ChangeShapes Go.WideShapes Go.ChangeAt Go.RowKit

def inl (l : List Int) : Bool := l.all (fun x => decide (0 ≤ x) && decide (x ≤ 2147483646))
theorem inl_iff {l : List Int} : inl l = true ↔ InL l := by
  unfold inl InL
  rw [List.all_eq_true]
  constructor
  · intro h x hx
    have := h x hx
    simp only [Bool.and_eq_true, decide_eq_true_eq] at this
    exact this
  · intro h x hx
    have := h x hx
    simp only [Bool.and_eq_true, decide_eq_true_eq]
    exact this
set_option maxRecDepth 20000 in
set_option maxHeartbeats 4000000 in
/-- keepLimits at any list. -/
theorem keepLimits_any (l : List Int) (a : Option Addr) (c : Nat) (W : World) (h : IntsAt W a l) (hl : l.length ≤ 1099511627776) :
    Calls Tryz.prog 37 #[.slice a l.length c] W fun e w' => e = .returned (.bool (inl l)) ∧ w' = W := by
  by_cases hi : InL l
  · rw [inl_iff.2 hi]
    exact keepLimits_in l a c W h hl hi
  have hB : inl l = false := by
    cases q : inl l with
    | false => rfl
    | true => exact absurd (inl_iff.1 q) hi
  rw [hB]
  have HI := hideP hi
  have HA := hideP h
  obtain ⟨n, hn⟩ : ∃ n, n = l.length := ⟨_, rfl⟩
  have HN := hideP hn
  rw [← hn] at hl ⊢
  clear h hi hn hB
  go_enter Tryz.func37, Tryz.ntmps37
  go_wp2
  go_loopw [7] (fun s7 wr => ∃ k : Nat, k ≤ n ∧ s7 = .int .i64 k ∧ wr = W ∧ Hid (∀ j (hj : j < l.length), j < k → 0 ≤ l[j] ∧ l[j] ≤ 2147483646)) (fun s7 _ => n - (intOf s7).toNat)
  case atStart => exact ⟨0, by omega, rfl, rfl, hideP (fun j hj h => by omega)⟩
  case round =>
    obtain ⟨k, hk, rfl, rfl, HJ⟩ := hrel
    by_cases hlt : k < n
    · have hkl : k < l.length := by rw [← HN.out]; exact hlt
      obtain ⟨b, off, rfl, hc⟩ := HA.out (by intro e; rw [e] at hkl; simp at hkl)
      have y0 := hc k hkl
      rw [List.getElem?_eq_getElem hkl, Option.getD_some] at y0
      obtain ⟨x, hx⟩ : ∃ x, x = l[k] := ⟨_, rfl⟩
      rw [← hx] at y0
      have HX := hideP hx
      have hkk : (k : Int) < (n : Int) := by omega
      clear hc hx
      by_cases h1 : x < 0
      · have e1 : decide (x < 0) = true := decide_eq_true h1
        go_wp2
        go_ret
        exact ⟨rfl, rfl⟩
      · have e1 : decide (x < 0) = false := decide_eq_false h1
        by_cases h2 : 2147483646 < x
        · have e2 : decide (2147483646 < x) = true := decide_eq_true h2
          go_wp2
          go_ret
          exact ⟨rfl, rfl⟩
        · have e2 : decide (2147483646 < x) = false := decide_eq_false h2
          have HJ2 : Hid (∀ j (hj : j < l.length), j < k + 1 → 0 ≤ l[j] ∧ l[j] ≤ 2147483646) := hideP (fun j hj hjk => by
            rcases Nat.lt_or_ge j k with q | q
            · exact HJ.out j hj q
            · obtain rfl : j = k := by omega
              rw [← HX.out]
              omega)
          go_wp2
          go_roundw
          case rel => exact ⟨k + 1, by omega, by go_num, by first | rfl | trivial, HJ2⟩
          case measure => simp [intOf]; omega
    · exact absurd (fun x hx => by
        obtain ⟨j, hj, rfl⟩ := List.mem_iff_getElem.1 hx
        exact HJ.out j hj (by have := HN.out; omega)) HI.out
theorem spk_nil {L : List Il} {O : List Int} : ∀ {n : Nat}, spk L O n = [] → ∀ k (hk : k < L.length), k < n → L[k].l = []
  | 0, _, k, _, hn => by omega
  | n + 1, h, k, hk, hn => by
    rw [spk] at h
    obtain ⟨h1, h2⟩ := List.append_eq_nil_iff.1 h
    rcases Nat.lt_or_ge k n with q | q
    · exact spk_nil h1 k hk q
    · obtain rfl : k = n := by omega
      rw [List.getElem?_eq_getElem hk] at h2
      exact List.map_eq_nil_iff.1 h2
set_option maxRecDepth 20000 in
set_option maxHeartbeats 8000000 in
/-- spotsOf where there is none. -/
theorem spotsOf_nil (L : List Il) (O : List Int) (a oa : Option Addr) (c oc : Nat) (W : World) (hL : LiAt W a L) (hlo : L.length = O.length) (hll : L.length ≤ 1099511627776) (hne : spk L O L.length = []) :
    Calls Tryz.prog 39 #[.slice a L.length c, .slice oa O.length oc] W fun e w' => e = .returned (.slice none 0 0) ∧ w' = W := by
  have HL := hideP hL
  have HNE := hideP (spk_nil hne)
  rw [← hlo]
  obtain ⟨n, hn⟩ : ∃ n, n = L.length := ⟨_, rfl⟩
  have HN := hideP hn
  rw [← hn] at hll ⊢
  have CS := hideP (fun W' => AnyF.slices_SortFunc_none Tryz.sortSpot none 0 (.func (.func 60) #[] #[]) W')
  change Hid (∀ W', Calls Tryz.prog 59 _ _ _) at CS
  clear hL hne hlo hn
  go_enter Tryz.func39, Tryz.ntmps39
  go_wp2
  go_loopw [5, 12] (fun s5 s12 wr => ∃ (k : Nat), k ≤ n ∧ s12 = .int .i64 k ∧ s5 = .slice none 0 0 ∧ wr = W) (fun _ s12 _ => n - (intOf s12).toNat)
  case atStart => exact ⟨0, by omega, rfl, rfl, rfl⟩
  case round =>
    obtain ⟨k, hk, rfl, rfl, rfl⟩ := hrel
    by_cases hlt : k < n
    · have hkl : k < L.length := by rw [← HN.out]; exact hlt
      obtain ⟨b, off, rfl, hc⟩ := HL.out (by intro e; rw [e] at hkl; simp at hkl)
      obtain ⟨z0, z1⟩ := hc k hkl
      rw [HNE.out k hkl (by rw [← HN.out]; exact hlt)] at z0
      rw [List.length_nil] at z0
      have hkk : (k : Int) < (n : Int) := by omega
      generalize L[k].a = xa at *
      generalize L[k].c = xc at *
      clear z1 hc
      go_wp2
      go_loopw [5, 19] (fun s5 s19 w2 => s5 = .slice none 0 0 ∧ s19 = .int .i64 0 ∧ w2 = wr) (fun _ _ _ => 0)
      case atStart => exact ⟨rfl, rfl, rfl⟩
      case round =>
        obtain ⟨rfl, rfl, rfl⟩ := hrel
        go_wp2
        go_roundw
        case rel => exact ⟨k + 1, by omega, by go_num, by first | rfl | trivial, by first | rfl | trivial⟩
        case measure => simp [intOf]; omega
    · obtain rfl : k = n := by omega
      go_wp2_with (go_at_call 59; refine (CS.out _).mono ?_; clear CS; rintro e W2 ⟨rfl, rfl⟩)
      go_ret
      exact ⟨rfl, rfl⟩
theorem okv_okw {L : List Il} {O : List Int} {sl : Int} {L2 : List (Int × Nat)} (hp : L2.Perm (spk L O L.length)) (b : Int) : okv L2 L.length sl b = okw L O sl b := by
  rw [Bool.eq_iff_iff, okv_iff, okw_iff]
  constructor
  · intro h k hk
    obtain ⟨y, hy, e, h1, h2⟩ := h k hk
    obtain ⟨k', hk', -, p, hpp, rfl⟩ := spk_mem.1 (hp.mem_iff.1 hy)
    simp only at e
    subst e
    exact ⟨p, hpp, h1, h2⟩
  · intro h k hk
    obtain ⟨p, hpp, h1, h2⟩ := h k hk
    exact ⟨_, hp.mem_iff.2 (spk_mem.2 ⟨k, hk, hk, p, hpp, rfl⟩), rfl, h1, h2⟩
/-- What PhraseFreq answers. -/
def ppPost (L : List Il) (O : List Int) (sl : Int) (W : World) (e : Ending) (w' : World) : Prop := ∃ n : Nat, e = .returned (.int .i64 n) ∧ Kept (fun _ => False) W w' ∧ (¬ gdp L O sl → n = 0) ∧ (gdp L O sl → ∀ A, Alp L O A → n = A.countP (okw L O sl))
set_option maxRecDepth 20000 in
set_option maxHeartbeats 8000000 in
theorem phraseFreq_nil (L : List Il) (O : List Int) (a oa : Option Addr) (c oc : Nat) (sl : Int) (W : World) (hL : LiAt W a L) (hO : IntsAt W oa O) (hlo : L.length = O.length) (hll : L.length ≤ 1048576) (hin : ∀ x ∈ L, InL x.l) (hlx : ∀ x ∈ L, x.l.length ≤ 1048576) (hio : InL O) (hsl : 0 ≤ sl ∧ sl ≤ 2147483647) (hne : spk L O L.length = []) :
    Calls Tryz.prog 21 #[.slice a L.length c, .slice oa O.length oc, .int .i64 sl] W fun e w' => e = .returned (.int .i64 (0 : Nat)) ∧ Kept (fun _ => False) W w' := by
  have CK := hideP (fun W' (k : Kept (fun _ => False) W W') => keepLimits_in O oa oc W' (hO.kept k) (by omega) hio)
  have CS := hideP (spotsOf_nil L O a oa c oc W hL hlo (by omega) hne)
  have CC := hideP (fun W' => countBegins_any [] none 0 L.length sl W' (fun h => (h rfl).elim) (by simp) (by omega) (fun x hx => by cases hx) (fun x hx => by cases hx) (by omega))
  have HL := hideP hL
  have HIN := hideP hin
  have HLX := hideP hlx
  obtain ⟨s1, s2⟩ := hsl
  have e1 : decide (sl < 0) = false := decide_eq_false (by omega)
  have e2 : decide (2147483647 < sl) = false := decide_eq_false (by omega)
  have e3 : ¬ sl < 0 := by omega
  have e4 : ¬ 2147483647 < sl := by omega
  rw [← hlo] at CK CS ⊢
  obtain ⟨n, hn⟩ : ∃ n, n = L.length := ⟨_, rfl⟩
  have HN := hideP hn
  rw [← hn] at CK CS CC hll ⊢
  rw [show cbg [] n sl = 0 from rfl] at CC
  simp only [List.length_nil] at CC
  clear hL hO hin hlx hio hne hlo hn
  go_enter Tryz.func21, Tryz.ntmps21
  go_wp2_with (go_at_call 37; refine (CK.out _ (Kept.refl _ _)).mono ?_; clear CK; rintro e W1 ⟨rfl, rfl⟩)
  go_loopw [29] (fun s29 wr => ∃ k : Nat, k ≤ n ∧ s29 = .int .i64 k ∧ wr = W1) (fun s29 _ => n - (intOf s29).toNat)
  case atStart => exact ⟨0, by omega, rfl, rfl⟩
  case round =>
    obtain ⟨k, hk, rfl, rfl⟩ := hrel
    by_cases hlt : k < n
    · have hkl : k < L.length := by rw [← HN.out]; exact hlt
      obtain ⟨b, off, rfl, hc⟩ := HL.out (by intro e; rw [e] at hkl; simp at hkl)
      obtain ⟨z0, z1⟩ := hc k hkl
      have hm := List.getElem_mem hkl
      have CX := hideP (keepLimits_in L[k].l L[k].a L[k].c wr z1 (by have := HLX.out _ hm; omega) (HIN.out _ hm))
      generalize L[k].l.length = xl at *
      generalize L[k].a = xa at *
      generalize L[k].c = xc at *
      have hkk : (k : Int) < (n : Int) := by omega
      clear z1 hc hm
      go_wp2_with (go_at_call 37; refine CX.out.mono ?_; clear CX; rintro e W2 ⟨rfl, rfl⟩)
      go_roundw
      case rel => exact ⟨k + 1, by omega, by go_num, trivial⟩
      case measure => simp [intOf]; omega
    · obtain rfl : k = n := by omega
      go_wp2_with (go_at_call 39; refine StpQ.go ?_)
      refine ⟨?_⟩
      refine CS.out.mono ?_
      clear CS
      rintro e W2 ⟨rfl, rfl⟩
      go_wp2_with (go_at_call 38; refine StpQ.go ?_)
      refine ⟨?_⟩
      refine (CC.out _).mono ?_
      clear CC
      rintro e W3 ⟨rfl, k3⟩
      have HK3 := hideP k3
      clear k3
      go_wp2
      go_ret
      exact ⟨rfl, HK3.out⟩
set_option maxRecDepth 20000 in
set_option maxHeartbeats 8000000 in
/-- A phrase that doesn't keep its limits stands nowhere. -/
theorem phraseFreq_bad (L : List Il) (O : List Int) (a oa : Option Addr) (c oc : Nat) (sl : Int) (W : World) (hL : LiAt W a L) (hO : IntsAt W oa O) (hll : L.length ≤ 1048576) (hol : O.length ≤ 1048576) (hlx : ∀ x ∈ L, x.l.length ≤ 1048576) (hbad : ¬ gdp L O sl) :
    Calls Tryz.prog 21 #[.slice a L.length c, .slice oa O.length oc, .int .i64 sl] W fun e w' => e = .returned (.int .i64 (0 : Nat)) ∧ w' = W := by
  have CK := hideP (keepLimits_any O oa oc W hO (by omega))
  have HL := hideP hL
  have HLX := hideP hlx
  have HB := hideP hbad
  obtain ⟨n, hn⟩ : ∃ n, n = L.length := ⟨_, rfl⟩
  have HN := hideP hn
  obtain ⟨m, hm⟩ : ∃ m, m = O.length := ⟨_, rfl⟩
  have HM := hideP hm
  rw [← hm] at CK hol ⊢
  rw [← hn] at hll ⊢
  clear hL hO hlx hbad hn hm
  by_cases hnm : n = m
  · have g1 : ((n : Int) == (m : Int)) = true := by simp [hnm]
    have g2 : ((n : Int) != (m : Int)) = false := by simp [hnm]
    by_cases q1 : sl < 0
    · have e1 : decide (sl < 0) = true := decide_eq_true q1
      have HNM := hideP hnm
      clear hnm CK
      go_enter Tryz.func21, Tryz.ntmps21
      go_wp2
      go_ret
      exact ⟨rfl, rfl⟩
    have e1 : decide (sl < 0) = false := decide_eq_false q1
    by_cases q2 : 2147483647 < sl
    · have e2 : decide (2147483647 < sl) = true := decide_eq_true q2
      have HNM := hideP hnm
      clear hnm CK
      go_enter Tryz.func21, Tryz.ntmps21
      go_wp2
      go_ret
      exact ⟨rfl, rfl⟩
    have e2 : decide (2147483647 < sl) = false := decide_eq_false q2
    cases hio : inl O with
    | false =>
      rw [hio] at CK
      have HNM := hideP hnm
      clear hnm hio
      go_enter Tryz.func21, Tryz.ntmps21
      go_wp2_with (go_at_call 37; refine CK.out.mono ?_; clear CK; rintro e W1 ⟨rfl, rfl⟩)
      go_ret
      exact ⟨rfl, rfl⟩
    | true =>
      rw [hio] at CK
      have HB2 : Hid (¬ ∀ x ∈ L, InL x.l) := hideP (fun h => HB.out ⟨by rw [← HN.out, ← HM.out]; exact hnm, by omega, inl_iff.1 hio, h⟩)
      have HNM := hideP hnm
      clear hnm hio HB
      go_enter Tryz.func21, Tryz.ntmps21
      go_wp2_with (go_at_call 37; refine CK.out.mono ?_; clear CK; rintro e W1 ⟨rfl, rfl⟩)
      go_loopw [29] (fun s29 wr => ∃ k : Nat, k ≤ n ∧ s29 = .int .i64 k ∧ wr = W1 ∧ Hid (∀ j (hj : j < L.length), j < k → InL L[j].l)) (fun s29 _ => n - (intOf s29).toNat)
      case atStart => exact ⟨0, by omega, rfl, rfl, hideP (fun j hj h => by omega)⟩
      case round =>
        obtain ⟨k, hk, rfl, rfl, HJ⟩ := hrel
        by_cases hlt : k < n
        · have hkl : k < L.length := by rw [← HN.out]; exact hlt
          obtain ⟨b, off, rfl, hc⟩ := HL.out (by intro e; rw [e] at hkl; simp at hkl)
          obtain ⟨z0, z1⟩ := hc k hkl
          have hm := List.getElem_mem hkl
          have CX := hideP (keepLimits_any L[k].l L[k].a L[k].c wr z1 (by have := HLX.out _ hm; omega))
          have hkk : (k : Int) < (n : Int) := by omega
          clear hc hm z1
          cases hxi : inl L[k].l with
          | false =>
            rw [hxi] at CX
            generalize L[k].l.length = xl at *
            generalize L[k].a = xa at *
            generalize L[k].c = xc at *
            clear hxi
            go_wp2_with (go_at_call 37; refine CX.out.mono ?_; clear CX; rintro e W2 ⟨rfl, rfl⟩)
            go_ret
            exact ⟨rfl, rfl⟩
          | true =>
            rw [hxi] at CX
            have HJ2 : Hid (∀ j (hj : j < L.length), j < k + 1 → InL L[j].l) := hideP (fun j hj hjk => by
              rcases Nat.lt_or_ge j k with q | q
              · exact HJ.out j hj q
              · obtain rfl : j = k := by omega
                exact inl_iff.1 hxi)
            clear hxi
            generalize L[k].l.length = xl at *
            generalize L[k].a = xa at *
            generalize L[k].c = xc at *
            go_wp2_with (go_at_call 37; refine CX.out.mono ?_; clear CX; rintro e W2 ⟨rfl, rfl⟩)
            go_roundw
            case rel => exact ⟨k + 1, by omega, by go_num, by first | rfl | trivial, HJ2⟩
            case measure => simp [intOf]; omega
        · exact absurd (fun x hx => by
            obtain ⟨j, hj, rfl⟩ := List.mem_iff_getElem.1 hx
            exact HJ.out j hj (by have := HN.out; omega)) HB2.out
  · have g1 : ((n : Int) == (m : Int)) = false := by rw [beq_eq_false_iff_ne]; omega
    have g2 : ((n : Int) != (m : Int)) = true := by simp [bne, g1]
    have g3 : ¬ (n : Int) = (m : Int) := by omega
    clear CK
    go_enter Tryz.func21, Tryz.ntmps21
    go_wp2
    go_ret
    exact ⟨rfl, rfl⟩
/-- PhraseFreq at any lists. -/
theorem phraseFreq_any (L : List Il) (O : List Int) (a oa : Option Addr) (c oc : Nat) (sl : Int) (W : World) (hL : LiAt W a L) (hO : IntsAt W oa O) (hll : L.length ≤ 1048576) (hol : O.length ≤ 1048576) (hlx : ∀ x ∈ L, x.l.length ≤ 1048576) (htl : ∀ k, k ≤ L.length → (spk L O k).length ≤ 1099511627776) :
    Calls Tryz.prog 21 #[.slice a L.length c, .slice oa O.length oc, .int .i64 sl] W (ppPost L O sl W) := by
  by_cases hg : gdp L O sl
  · obtain ⟨h1, h2, h3, h4⟩ := hg
    by_cases hne : spk L O L.length = []
    · refine (phraseFreq_nil L O a oa c oc sl W hL hO h1 hll h4 hlx h3 h2 hne).mono ?_
      rintro e w' ⟨rfl, hk⟩
      refine ⟨0, rfl, hk, fun _ => rfl, fun _ A hA => ?_⟩
      have : A = [] := by
        rw [List.eq_nil_iff_forall_not_mem]
        intro b hb
        obtain ⟨k, hk, p, hp, -⟩ := (hA.mem b).1 hb
        rw [spk_nil hne k hk hk] at hp
        cases hp
      rw [this]
      rfl
    · refine (phraseFreq_some L O a oa c oc sl W hL hO h1 hll h4 hlx h3 h2 htl hne).mono ?_
      rintro e w' ⟨L2, -, hp, hs, rfl, hk⟩
      refine ⟨_, rfl, hk, fun h => absurd ⟨h1, h2, h3, h4⟩ h, fun _ A hA => ?_⟩
      rw [cbg_all (A := A) h2.1 (fun y hy => spk_word L O _ y (hp.mem_iff.1 hy)) (fun j k hj hk hjk => by
        rcases Nat.lt_or_ge j k with q | q
        · exact (List.pairwise_iff_getElem.1 hs) j k hj hk q
        · obtain rfl : j = k := by omega
          exact Int.le_refl _) hA.rs (fun b => by
        rw [hA.mem]
        constructor
        · rintro ⟨k, hk, p, hpp, rfl⟩
          exact ⟨_, hp.mem_iff.2 (spk_mem.2 ⟨k, hk, hk, p, hpp, rfl⟩), rfl⟩
        · rintro ⟨y, hy, rfl⟩
          obtain ⟨k, hk, -, p, hpp, rfl⟩ := spk_mem.1 (hp.mem_iff.1 hy)
          exact ⟨k, hk, p, hpp, rfl⟩)]
      exact congrArg (fun f => A.countP f) (funext (fun b => okv_okw hp b))
  · refine (phraseFreq_bad L O a oa c oc sl W hL hO hll hol hlx hg).mono ?_
    rintro e w' ⟨rfl, rfl⟩
    exact ⟨0, rfl, Kept.refl _ _, fun _ => rfl, fun h => absurd h hg⟩
end Go.Proofs.YtidgofpmnlddaaaGreatDoor
namespace Go.Proofs.YtidgofpmnlddaaaGreatDoor
open Go.ChangeShapes Go.WideShapes Go.ChangeAt Go.RowKit

theorem sorted5 : (Sort.pdq (ltOf cfS) #[((1 : Int), 0), (5, 0), (9, 0), (1, 1), (9, 1)] 0 5 (Lib.bitLen 5) true true).toList = [((1 : Int), 0), (1, 1), (5, 0), (9, 0), (9, 1)] := by
  kernel_rfl
theorem cbg5 : cbg [((1 : Int), 0), (1, 1), (5, 0), (9, 0), (9, 1)] 2 0 = 2 := by decide
end Go.Proofs.YtidgofpmnlddaaaGreatDoor
