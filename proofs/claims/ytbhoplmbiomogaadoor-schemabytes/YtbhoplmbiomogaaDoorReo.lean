import Derived.Test.YtbhoplmbiomogaaDoorRen
namespace Go.Proofs.YtbhoplmbiomogaaDoor
open Go.ChangeShapes Go.WideShapes Go.ChangeAt Go.RowKit

set_option maxRecDepth 20000 in
set_option maxHeartbeats 4000000 in
theorem rencS_bad (l : List Fd) (a : Option Addr) (c : Nat) (w : World) (hF : FsAt w a l) (hO : ∀ f ∈ l, f.Ok) (hg : gschema l = false) :
    Calls Tryd.prog 7 #[.agg #[.slice a l.length c]] w fun e w' => (∃ g c', e = .returned (.tuple #[.slice (some ⟨g, 0, none⟩) 0 c', .int .i64 11])) ∧ Kept (fun _ => False) w w' := by
  have KA := Kept.alloc w (.cells #[.slice a l.length c] 24)
  have CC := hideD (rcheck_any l a c _ (hF.kept KA) hO)
  rw [chkN_bad hg] at CC
  have HK := hideD KA
  clear KA hF hO hg
  go_enter Tryd.func7, Tryd.ntmps7
  go_wp2_with (go_at_call 22; refine CC.out.mono ?_; clear CC; rintro e W1 ⟨rfl, K1⟩; have HK1 := hideD (HK.out.trans K1 (fun _ f => f.elim)); clear K1)
  go_ret2
  exact ⟨⟨_, _, rfl⟩, HK1.out.trans (Kept.alloc _ _) (fun _ f => f.elim)⟩
set_option maxRecDepth 20000 in
set_option maxHeartbeats 16000000 in
theorem rencS_good (l : List Fd) (a : Option Addr) (c : Nat) (w : World) (hF : FsAt w a l) (hO : ∀ f ∈ l, f.Ok) (hg : gschema l = true) :
    Calls Tryd.prog 7 #[.agg #[.slice a l.length c]] w fun e w' => (∃ a' c', e = .returned (.tuple #[.slice a' (ebs l).length c', .int .i64 0]) ∧ BytesAt w' a' (ebs l)) ∧ Kept (fun _ => False) w w' := by
  obtain ⟨i0, hi0, hz0, hz1, hz2⟩ := info_parts Tryd.infoB
  have KA := Kept.alloc w (.cells #[.slice a l.length c] 24)
  have CC := hideD (rcheck_any l a c _ (hF.kept KA) hO)
  rw [chkN_good hg] at CC
  obtain ⟨fb, fo, rfl, hc⟩ := hF (by intro e; have := (gs_lenE hg).1; rw [e] at this; simp at this)
  have hl1 := gs_lenE hg
  have HG := hideD hg
  have HC := hideD hc
  have HK := hideD KA
  have BX : Hid ((w.alloc (.cells #[.slice (some ⟨fb, fo, none⟩) l.length c] 24)).cell? ⟨w.heap.size, 0, none⟩ = some (.slice (some ⟨fb, fo, none⟩) l.length c)) := hideD (by simp)
  have HFL : Hid (∀ j, (uvb l.length ++ feL (l.take j)).length ≤ 800) := hideD (fun j => by
    have h1 := feL_len (l.take j) (fun f hf => (by have := (gn_chars (gs_memE hg (List.mem_of_mem_take hf))).1; simp only [Array.length_toList] at this; exact this))
    have h2 : (uvb l.length).length = 1 := by rw [uvb_small (by omega)]; rfl
    have h3 : (l.take j).length ≤ 16 := by rw [List.length_take]; omega
    rw [List.length_append]
    omega)
  clear KA hF hO hg hc
  obtain ⟨nl, hnl⟩ : ∃ nl, nl = l.length := ⟨_, rfl⟩
  have HEB : Hid (ebs l = uvb nl ++ feL l) := hideD (by rw [hnl]; rfl)
  have HU1 : Hid (uvb nl = [(nl : Int)]) := hideD (uvb_small (by omega))
  rw [← hnl] at CC HK BX HFL hl1 ⊢
  have HNL := hideD hnl
  clear hnl
  have h64 : IntKind.u64.wrap (nl : Int) = (nl : Int) := by rw [IntKind.wrap_u64]; omega
  go_enter Tryd.func7, Tryd.ntmps7
  go_wp2_with (first
    | (go_at_call 22; refine CC.out.mono ?_; clear CC; rintro e W1 ⟨rfl, K1⟩; have e1 := K1.cell BX.out (fun f => f); have HK1 := hideD (HK.out.trans K1 (fun _ f => f.elim)); clear K1)
    | (go_at_call 23; refine (ruv_small nl _ (by omega)).mono ?_; rintro e W2 ⟨a2, c2, rfl, G2⟩; have e2 := G2.kept.cell e1 (fun f => f); have HG2 := hideD G2; clear G2))
  have HCb : Hid (∀ (k : Nat) (h : k < l.length), W1.cell? ⟨fb, fo + k * 5, none⟩ = some (.string l[k].n) ∧ W1.cell? ⟨fb, fo + k * 5 + 1, none⟩ = some (.int .i64 l[k].k) ∧ W1.cell? ⟨fb, fo + k * 5 + 2, none⟩ = some (.bool l[k].fo) ∧ W1.cell? ⟨fb, fo + k * 5 + 3, none⟩ = some (.bool l[k].st) ∧ W1.cell? ⟨fb, fo + k * 5 + 4, none⟩ = some (.bool l[k].se)) := hideD (fun k h => by
    obtain ⟨x0, x1, x2, x3, x4⟩ := HC.out k h
    exact ⟨HK1.out.cell x0 (fun f => f), HK1.out.cell x1 (fun f => f), HK1.out.cell x2 (fun f => f), HK1.out.cell x3 (fun f => f), HK1.out.cell x4 (fun f => f)⟩)
  clear HC BX HK e1 e2 h64
  go_loopw [5, 23] (fun v5 v23 wr => ∃ (j m : Nat) (ar : Option Addr) (cr : Nat), j ≤ nl ∧ m ≤ 800 ∧ v23 = .int .i64 j ∧ v5 = .slice ar m cr ∧ Hid (m = (uvb nl ++ feL (l.take j)).length) ∧ Hid (Gro W1 wr 5 1 (.slice ar m cr) m (bs (uvb nl ++ feL (l.take j))))) (fun _ v23 _ => nl - (intOf v23).toNat)
  case atStart => exact ⟨0, 1, a2, c2, by omega, by omega, rfl, rfl, hideD (by rw [HU1.out]; simp [feL]), hideD (by rw [HU1.out]; simpa [feL] using HG2.out)⟩
  case round =>
    obtain ⟨j, m, ar, cr, hj, hm8, rfl, rfl, HM, HGr⟩ := hrel
    clear HG2
    by_cases hlt : j < nl
    · have hlt2 : j < l.length := by rw [← HNL.out]; exact hlt
      have hji : (j : Int) < (nl : Int) := by omega
      obtain ⟨x0, x1, x2, x3, x4⟩ := HCb.out j hlt2
      have x0 := HGr.out.kept.cell x0 (fun f => f)
      have x1 := HGr.out.kept.cell x1 (fun f => f)
      have x2 := HGr.out.kept.cell x2 (fun f => f)
      have x3 := HGr.out.kept.cell x3 (fun f => f)
      have x4 := HGr.out.kept.cell x4 (fun f => f)
      have HS0 := hideD (HFL.out (j + 1))
      have HT : Hid (feL (l.take (j + 1)) = feL (l.take j) ++ fe l[j]) := hideD (feL_snoc hlt2)
      have HFk := hideD (gk_range (gs_memE HG.out (List.getElem_mem hlt2)))
      have HFn := hideD (gn_chars (gs_memE HG.out (List.getElem_mem hlt2))).1
      generalize l[j] = f at *
      obtain ⟨n, k, fo', st, se⟩ := f
      simp only at x0 x1 x2 x3 x4
      have hns : n.size ≤ 32 := by have := HFn.out; simp only [Array.length_toList] at this; exact this
      have hk : 1 ≤ k ∧ k ≤ 3 := by have := HFk.out; simp only at this; omega
      have HFB : Hid (((fby ⟨n, k, fo', st, se⟩ : Nat) : Int) = k + ((bt fo' 4 : Nat) : Int) + ((bt st 8 : Nat) : Int) + ((bt se 16 : Nat) : Int)) := hideD (by simp only [fby]; omega)
      have HBx : Hid (Gro W1 (wr.alloc (.cells #[.string n, .int .i64 k, .bool fo', .bool st, .bool se] 46)) 5 1 (.slice ar m cr) m (bs (uvb nl ++ feL (l.take j)))) := hideD (HGr.out.later (Kept.alloc _ _))
      have HXx : Hid ((wr.alloc (.cells #[.string n, .int .i64 k, .bool fo', .bool st, .bool se] 46)).heap[wr.heap.size]? = some (.cells #[.string n, .int .i64 k, .bool fo', .bool st, .bool se] 46 (0, 0))) := hideD (heap_alloc_new wr _)
      have HVx : Hid (¬ Value.ownBlock (.slice ar m cr) = some wr.heap.size) := hideD (fun e => by have := (HGr.out.own.lt _ e).2; omega)
      have CT := fun w => hideD (rtxt_small n w hns)
      have e1 : (fe ⟨n, k, fo', st, se⟩).length = 1 + n.size + 1 := by
        have hu : uvb n.size = [(n.size : Int)] := uvb_small (by omega)
        show ((uvb n.size ++ sb n) ++ [_]).length = _
        rw [List.length_append, List.length_append, sb_length, hu]
        rfl
      have HM2 : Hid ((uvb nl ++ feL (l.take (j + 1))).length = m + (1 + n.size) + 1) := hideD (by
        rw [HT.out, ← List.append_assoc, List.length_append, ← HM.out, e1]; omega)
      clear e1
      have hm9 : m + (1 + n.size) + 1 ≤ 800 := by have := HS0.out; rw [HM2.out] at this; exact this
      have w4 : IntKind.i64.wrap (k + 4) = k + 4 := by rw [IntKind.wrap_i64]; omega
      have w8 : IntKind.i64.wrap (k + 8) = k + 8 := by rw [IntKind.wrap_i64]; omega
      have w16 : IntKind.i64.wrap (k + 16) = k + 16 := by rw [IntKind.wrap_i64]; omega
      have w48 : IntKind.i64.wrap (k + 4 + 8) = k + 4 + 8 := by rw [IntKind.wrap_i64]; omega
      have w416 : IntKind.i64.wrap (k + 4 + 16) = k + 4 + 16 := by rw [IntKind.wrap_i64]; omega
      have w816 : IntKind.i64.wrap (k + 8 + 16) = k + 8 + 16 := by rw [IntKind.wrap_i64]; omega
      have w4816 : IntKind.i64.wrap (k + 4 + 8 + 16) = k + 4 + 8 + 16 := by rw [IntKind.wrap_i64]; omega
      have u0 : IntKind.u8.wrap k = k := by rw [IntKind.wrap_u8]; omega
      have u4 : IntKind.u8.wrap (k + 4) = k + 4 := by rw [IntKind.wrap_u8]; omega
      have u8 : IntKind.u8.wrap (k + 8) = k + 8 := by rw [IntKind.wrap_u8]; omega
      have u16 : IntKind.u8.wrap (k + 16) = k + 16 := by rw [IntKind.wrap_u8]; omega
      have u48 : IntKind.u8.wrap (k + 4 + 8) = k + 4 + 8 := by rw [IntKind.wrap_u8]; omega
      have u416 : IntKind.u8.wrap (k + 4 + 16) = k + 4 + 16 := by rw [IntKind.wrap_u8]; omega
      have u816 : IntKind.u8.wrap (k + 8 + 16) = k + 8 + 16 := by rw [IntKind.wrap_u8]; omega
      have u4816 : IntKind.u8.wrap (k + 4 + 8 + 16) = k + 4 + 8 + 16 := by rw [IntKind.wrap_u8]; omega
      clear HCb HFk HFn HFL hk HGr HS0
      cases fo' <;> cases st <;> cases se
      all_goals
        go_wp2_with (first
          | (go_at_call 24; refine (CT _).out.mono ?_; rintro e W5 ⟨a5, c5, rfl, G5⟩; have HG5 := hideD G5; have HB5 := hideD (HBx.out.later G5.kept); have HX5 := hideD (G5.kept.heap HXx.out (fun f => f)); clear G5)
          | (at_builtin; refine wpList_pushI rfl _ _ rfl _ (m + (1 + n.size)) (m + (1 + n.size) + 1) (uvb nl ++ feL (l.take j) ++ (uvb n.size ++ sb n)) (uvb nl ++ feL (l.take (j + 1))) _ rfl HG6 rfl ?hl rfl (by omega) ?_; (case hl => exact hideD (by rw [HT.out, fe, HFB.out]; simp [bt, List.append_assoc])); intro a7 c7 W7 HG7)
          | (at_builtin; obtain ⟨g5, rfl, hg5, hc5⟩ := HG5.out.cell (by omega); refine wpList_append_own _ rfl _ _ 25 rfl W1.heap.size 5 i0 (.int .u8 0) 1 1 Tryd.underlying25 hi0 hz0 hz1 hz2 rfl (by decide) _ m (bs (uvb nl ++ feL (l.take j))) rfl HB5.out.own ⟨g5, 0, none⟩ (1 + n.size) c5 (bs (uvb n.size ++ sb n)) rfl (by rw [bs_length, List.length_append, uvb_small (by omega), sb_length]; simp) (fun jj u hu => by have := hc5 jj u hu; have hplain : (⟨g5, 0, none⟩ : Addr).add jj = ⟨g5, jj, none⟩ := (by unfold Addr.add; split <;> simp_all); rw [hplain]; exact this) (bs_one _) (by unfold maxLen; omega) (by omega) HB5.out.kept.size ?_; intro v6 W6 ho hg _; obtain ⟨a6, c6, rfl⟩ := own_slice ho; have HG6 : Hid (Gro W1 W6 5 1 (.slice a6 (m + (1 + n.size)) c6) (m + (1 + n.size)) (bs (uvb nl ++ feL (l.take j) ++ (uvb n.size ++ sb n)))) := hideD ⟨by rw [bs_append (uvb nl ++ feL (l.take j))]; exact ho, HB5.out.kept.trans (Kept.grown hg) (fun i hi => .inr (HB5.out.own.lt i hi).1)⟩; have HX6 := hideD ((Kept.grown hg).heap HX5.out HVx.out); obtain ⟨⟨y0, y1, y2, y3, y4⟩, -⟩ := fboxE HX6.out; clear ho hg))
        go_roundw
        case rel => exact ⟨j + 1, m + (1 + n.size) + 1, a7, c7, hlt, hm9, by go_num, rfl, hideD HM2.out.symm, HG7⟩
        case measure => simp [intOf]; omega
    · obtain rfl : j = nl := by omega
      have hT : l.take j = l := List.take_of_length_le (by rw [HNL.out]; exact Nat.le_refl _)
      rw [hT, ← HEB.out] at HM HGr
      go_wp2
      go_ret2
      have hM := HM.out
      subst hM
      refine ⟨⟨ar, cr, rfl, ?_⟩, HK1.out.trans HGr.out.kept (fun _ f => f.elim)⟩
      intro hne
      obtain ⟨g, e1, _, hcell⟩ := HGr.out.cell (List.length_pos_iff.2 hne)
      refine ⟨g, 0, e1, fun i hi => ?_⟩
      rw [Nat.zero_add]
      exact hcell i _ (by rw [bs, List.getElem?_map, List.getElem?_eq_getElem hi]; rfl)
end Go.Proofs.YtbhoplmbiomogaaDoor
