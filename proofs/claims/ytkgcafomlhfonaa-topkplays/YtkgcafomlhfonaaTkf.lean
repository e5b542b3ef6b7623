import Derived.Test.YtkgcafomlhfonaaTke
namespace Go.Proofs.Ytkgcafomlhfonaa.Tk
open Go.ChangeShapes Go.WideShapes Go.ChangeAt Go.RowKit

theorem hit_at {w : World} {b o : Nat} {x : Ht} (h0 : w.cell? ⟨b, o, none⟩ = some (.int .i64 x.1)) (h1 : w.cell? ⟨b, o + 1, none⟩ = some (.int .u64 x.2)) : w.rangeAt b o [.int .i64 x.1, .int .u64 x.2] := fun j u hj => by
  match j, hj with
  | 0, hj => simp at hj; subst hj; exact h0
  | 1, hj => simp at hj; subst hj; exact h1
theorem load_hit {ρ : Operand → Value} {o : Oper} {W : World} {b off : Nat} {x : Operand} {y : Ht} (ho : o.op = .load 29 x) (hx : ρ x = .pointer (some ⟨b, off, none⟩)) (h0 : W.cell? ⟨b, off, none⟩ = some (.int .i64 y.1)) (h1 : W.cell? ⟨b, off + 1, none⟩ = some (.int .u64 y.2)) : (execOp ρ o).run Try.prog W = .ok (.value (.agg #[.int .i64 y.1, .int .u64 y.2])) W := by
  have h := run_loadVar_mid (P := Try.prog) W b off 29 _ _ (hit_at h0 h1) Try.underlying29 rfl size_hit
  unfold execOp
  simp only [ho, hx, Instr.loadAt, Instr.sureAddr, Sem.run_bind, Sem.run_pure, Result.andThen_ok, h]
theorem hit_all (x : Ht) : (#[Value.int .i64 x.1, Value.int .u64 x.2]).all (·.oneCell') = true := all_oneCell_toArray (cs := [.int .i64 x.1, .int .u64 x.2]) (by intro v hv; simp at hv; rcases hv with rfl | rfl <;> rfl)
theorem wpOp_inL {P : Program} {L : List Oper} {Q : Exit → Act → World → Prop} {i : Nat} {o : Oper} {K : Act → World → Prop} {a : Act} {w : World} (hi : L[i]? = some o) (hgd : o.guard = none) (h : o.wp P a w K Q) : wpOp P L.toArray Q i K a w :=
  wpOp_inT (by simpa using hi) hgd h
/-- A store that comes last. -/
theorem wpAnyZ_store {P : Program} {md : Region.Mode} {L : List Oper} {Q : Exit → Act → World → Prop} {S : World → Prop} (z : Nat) {o : Oper} {fuel : Nat} {listed : Array Bool} {a : Act} {w : World} (ty : TypeId) (x y : Operand) (b off : Nat) (cells : Array Value) (hr : Region.ready md L.toArray listed = [z]) (hi : L[z]? = some o) (hgd : o.guard = none) (ho : o.op = .store ty x y)
    (hx : a.eval x = .pointer (some ⟨b, off, none⟩)) (hy : a.eval y = .agg cells) (ht : w.there b off cells.size) (hs : (P.info? ty).map (·.size) = some cells.size) (h1 : cells.all (·.oneCell') = true)
    (h : ∀ Z, Z = w.setCells b off cells.toList → wpAnyZ P md L.toArray Q S z fuel (listed.setIfInBounds z true) (a.put o.dst undef) Z) : wpAnyZ P md L.toArray Q S z (fuel + 1) listed a w :=
  wpAnyZ_all hr (by simp) (fun j hj => by
    obtain rfl : j = z := by simpa using hj
    exact wpOp_inL hi hgd (wp_store_mid ty x y ho b off cells hx hy ht hs h1 ⟨.inl rfl, h _ rfl⟩))
theorem KpAt.cells {B : Nat} {w : World} {p : Nat} {k : Int} {v : Value} {H : List Ht} (h : KpAt B w p k v H) : w.cell? ⟨p, 0, none⟩ = some (.int .i64 k) ∧ w.cell? ⟨p, 1, none⟩ = some (.func (.func 28) #[] #[]) ∧ w.cell? ⟨p, 2, none⟩ = some v :=
  ⟨(cell_of_row _ _ _ _ _ _ h.box).trans rfl, (cell_of_row _ _ _ _ _ _ h.box).trans rfl, (cell_of_row _ _ _ _ _ _ h.box).trans rfl⟩
/-- The box's list written over. -/
theorem set_box {w : World} {p : Nat} {k : Int} {f v v' : Value} (h : w.heap[p]? = some (.cells #[.int .i64 k, f, v] 57 (0, 0))) :
    (w.setCell ⟨p, 2, none⟩ v').heap[p]? = some (.cells #[.int .i64 k, f, v'] 57 (0, 0)) ∧ w.frozen? ⟨p, 2, none⟩ = false := by
  refine ⟨?_, by simp [World.frozen?, h]⟩
  have := heap_setCell_same w p 2 _ _ v' h
  simpa using this
theorem par_val {a : Nat} (h : 0 < a) : ((a : Int) - 1).tdiv 2 = ((par a : Nat) : Int) := by
  unfold par
  rw [show (a : Int) - 1 = ((a - 1 : Nat) : Int) by omega]
  rfl
theorem perm_up {M H : List Ht} {x : Ht} {a o : Nat} (ha : a < M.length) (ho : o < M.length) (hao : a ≠ o) (h : (M.set a x).Perm (x :: H)) : ((M.set a (g M o)).set o x).Perm (x :: H) := by
  rw [set_set_up x ha hao]
  exact (swap_perm (by rw [List.length_set]; exact ha) (by rw [List.length_set]; exact ho) hao).trans h
set_option maxRecDepth 20000 in
set_option maxHeartbeats 8000000 in
theorem put_any (B p : Nat) (k : Int) (v : Value) (H : List Ht) (x : Ht) (w : World) (h : KpAt B w p k v H) (hp : Hp H) (hB : B ≤ w.heap.size) (hlim : H.length + 1 ≤ 8796093022208) :
    Calls Try.prog 34 #[.pointer (some ⟨p, 1, none⟩), .agg #[.int .i64 x.1, .int .u64 x.2]] w fun e w' => ∃ v' H', e = .returned (.tuple #[]) ∧ KpAt B w' p k v' H' ∧ KStep w w' p v v' ∧ Hp H' ∧ H'.Perm (x :: H) := by
  have AB := hideT (fun y W' => above_any x y W')
  have HK := hideT h
  have HP := hideT hp
  obtain ⟨n, hn⟩ : ∃ n, n = H.length := ⟨_, rfl⟩
  have HN := hideT hn
  rw [← hn] at hlim
  clear h hp hn
  go_enter Try.func34, Try.ntmps34
  go_upto_region 1 with fail
  obtain ⟨b3, hb3⟩ : ∃ b3, b3 = w.heap.size := ⟨_, rfl⟩
  obtain ⟨V, hV⟩ : ∃ V, V = w.alloc (.cells #[.int .i64 x.1, .int .u64 x.2] 29) := ⟨_, rfl⟩
  have kV : Kept (fun _ => False) w V := by rw [hV]; exact Kept.alloc _ _
  have bV : V.heap[b3]? = some (.cells #[.int .i64 x.1, .int .u64 x.2] 29 (0, 0)) := by rw [hV, hb3]; exact heap_alloc_new w _
  have zV : V.heap.size = b3 + 1 := by rw [hV, hb3]; simp
  have HKV := hideT (HK.out.same kV)
  obtain ⟨hpl, hvl⟩ := HK.out.lt
  rw [← hb3] at hpl hvl hB
  rw [← hV, ← hb3]
  have HkV := hideT kV
  have HbV := hideT bV
  have HvL := hideT hvl
  have HPL := hideT hpl
  have S0 : Kept (fun i => v.ownBlock = some i) V V.drew := Kept.drew V |>.mono (fun _ f => f.elim)
  clear hV kV bV hvl hb3
  refine wp_region_z (S := fun W' => Kept (fun i => v.ownBlock = some i) V W') (z := 10) (by kernel_rfl) ?_
  change wpAnyZ _ _ _ _ _ _ _ _ _ (World.drew _)
  refine wpAnyZ_take (i := 0) (v := .pointer (some ⟨p, 1, none⟩)) rfl (by kernel_rfl) (by kernel_rfl) (by kernel_rfl) (by kernel_rfl) (fun _ _ _ h => h) (Or.inl ⟨by rfl, fun W' hW => ?_⟩) S0 ?_
  · go_simp
  refine wpAnyZ_take (i := 1) (v := .pointer (some ⟨p, 1, none⟩)) rfl (by kernel_rfl) (by kernel_rfl) (by kernel_rfl) (by kernel_rfl) (fun _ _ _ h => h) (Or.inl ⟨by rfl, fun W' hW => ?_⟩) S0 ?_
  · go_simp
  refine wpAnyZ_take (i := 2) (v := .pointer (some ⟨p, 1, none⟩)) rfl (by kernel_rfl) (by kernel_rfl) (by kernel_rfl) (by kernel_rfl) (fun _ _ _ h => h) (Or.inl ⟨by rfl, fun W' hW => ?_⟩) S0 ?_
  · go_simp
  refine wpAnyZ_take (i := 3) (v := .pointer (some ⟨p, 2, none⟩)) rfl (by kernel_rfl) (by kernel_rfl) (by kernel_rfl) (by kernel_rfl) (fun _ _ _ h => h) (Or.inl ⟨by rfl, fun W' hW => ?_⟩) S0 ?_
  · go_simp
  refine wpAnyZ_take (i := 4) (v := v) rfl (by kernel_rfl) (by kernel_rfl) (by kernel_rfl) (by kernel_rfl) (fun _ _ _ h => h) (Or.inl ⟨by rfl, fun W' hW => ?_⟩) S0 ?_
  · have e := hW.cell (HKV.out.cells).2.2 (fun e => HKV.out.far e)
    go_simp
  refine wpAnyZ_take (i := 5) (v := .agg #[.int .i64 x.1, .int .u64 x.2]) rfl (by kernel_rfl) (by kernel_rfl) (by kernel_rfl) (by kernel_rfl) (fun _ _ _ h => h) (Or.inl ⟨by rfl, fun W' hW => ?_⟩) S0 ?_
  · exact load_hit (x := .tmp 3) (b := b3) (off := 0) (y := x) rfl (by go_simp) (hW.cell ((cell_of_row _ _ _ _ _ _ HbV.out).trans rfl) (fun (e : v.ownBlock = some b3) => by have := (HvL.out _ e).2; omega)) (hW.cell ((cell_of_row _ _ _ _ _ _ HbV.out).trans rfl) (fun (e : v.ownBlock = some b3) => by have := (HvL.out _ e).2; omega))
  refine wpAnyZ_all (rs := [6]) (by kernel_rfl) (by simp) ?_
  intro i hi
  obtain rfl : i = 6 := by simpa using hi
  unfold wpOp
  go_simp
  have k6 : Kept (fun i => v.ownBlock = some i) V (V.drew.alloc (.cells #[.int .i64 x.1, .int .u64 x.2] 29)) := S0.trans (Kept.alloc _ _) (fun _ f => f.elim)
  first | refine ⟨k6, ?_⟩ | refine Or.inl ⟨k6, ?_⟩
  refine wpAnyZ_all (rs := [7]) (by kernel_rfl) (by simp) ?_
  intro i hi
  obtain rfl : i = 7 := by simpa using hi
  obtain ⟨i0, hi0, hz0, hz1, hz2⟩ := info_partsT infoHt
  have r6 : RowH B (V.drew.alloc (.cells #[.int .i64 x.1, .int .u64 x.2] 29)) v H := (HKV.out.row.same (Kept.drew V) (fun _ _ f => f)).same (Kept.alloc _ _) (fun _ _ f => f)
  unfold RowH at r6
  rw [← HN.out] at r6
  refine wpOp_inT rfl rfl ?_
  refine wp_append_lies _ (.tmp 10) (.tmp 12) 26 rfl B 29 i0 _ 2 16 Try.underlying26 hi0 hz0 hz1 hz2 rfl (by decide) v n (hv H) (by rfl) r6 ⟨V.heap.size, 0, none⟩ 1 1 [.int .i64 x.1, .int .u64 x.2] (by go_simp) rfl ?_ ?_ (by decide) (by unfold maxLen; omega) (by omega) ?_ _ rfl ?_
  · exact row_newT V.drew [.int .i64 x.1, .int .u64 x.2] 29
  · intro u hu; simp at hu; rcases hu with rfl | rfl <;> rfl
  · simp; omega
  intro g1 c1 W1 ho1 hg1 hat1 hlt1
  have k7 : Kept (fun i => v.ownBlock = some i) V W1 := k6.trans (Kept.grown hg1) (fun i e => .inl e)
  refine ⟨.inr k7, ?_⟩
  refine wpAnyZ_all (rs := [8]) (by kernel_rfl) (by simp) ?_
  intro i hi
  obtain rfl : i = 8 := by simpa using hi
  unfold wpOp
  go_simp
  first | (change wpAnyZ _ _ _ _ _ _ _ _ _ _) | (refine Or.inl ?_; change wpAnyZ _ _ _ _ _ _ _ _ _ _) | refine Or.inl ⟨k7, ?_⟩ | refine ⟨k7, ?_⟩
  refine wpAnyZ_all (rs := [9]) (by kernel_rfl) (by simp) ?_
  intro i hi
  obtain rfl : i = 9 := by simpa using hi
  unfold wpOp
  go_simp
  first | (change wpAnyZ _ _ _ _ _ _ _ _ _ _) | (refine Or.inl ?_; change wpAnyZ _ _ _ _ _ _ _ _ _ _) | refine Or.inl ⟨k7, ?_⟩ | refine ⟨k7, ?_⟩
  refine wpAnyZ_all (rs := [10]) (by kernel_rfl) (by simp) ?_
  intro i hi
  obtain rfl : i = 10 := by simpa using hi
  have q7 := k7.heap HKV.out.box (fun e => HKV.out.far e)
  have c7 := (cell_of_row _ _ _ _ _ _ q7 : W1.cell? ⟨p, 2, none⟩ = _).trans rfl
  obtain ⟨q8, f8⟩ := set_box (v' := .slice (some ⟨g1, 0, none⟩) (n + 1) c1) q7
  unfold wpOp
  go_simp
  refine Or.inl ?_
  refine wpAnyZ_done (by kernel_rfl) ?_ _
  obtain ⟨v1, hv1⟩ : ∃ v1, v1 = Value.slice (some ⟨g1, 0, none⟩) (n + 1) c1 := ⟨_, rfl⟩
  have r1 : RowH B W1 v1 (H ++ [x]) := by
    unfold RowH
    rw [hv1, hv_app, List.length_append, ← HN.out]
    exact ho1
  have hg1p : g1 ≠ p := by
    rcases hat1 with e | e
    · intro e2; rw [e2] at e; exact HKV.out.far e
    · simp at e; omega
  have hg13 : g1 ≠ b3 := by
    rcases hat1 with e | e
    · intro e2; rw [e2] at e; have := (HvL.out _ e).2; omega
    · simp at e; omega
  have k8 : Kept (fun i => i = p) W1 (W1.setCell ⟨p, 2, none⟩ v1) := Kept.setCell W1 ⟨p, 2, none⟩ v1
  have r2 : RowH B (W1.setCell ⟨p, 2, none⟩ v1) v1 (H ++ [x]) := r1.same k8 (fun i hi e => by rw [hv1] at hi; simp only [Value.ownBlock, Option.some.injEq] at hi; omega)
  rw [← hv1] at q8 ⊢
  obtain ⟨W2, hW2⟩ : ∃ W2, W2 = W1.setCell ⟨p, 2, none⟩ v1 := ⟨_, rfl⟩
  rw [← hW2] at q8 r2 k8 ⊢
  have s2 : KStep V W2 p v v1 := ⟨(k7.mono (fun i e => .inl (.inr e))).trans k8 (fun i e => .inl (.inl e)), fun i hi => by
    rw [hv1] at hi
    simp only [Value.ownBlock, Option.some.injEq] at hi
    subst hi
    exact hat1.imp id (fun e => by simp at e; omega)⟩
  have b3W : W2.heap[b3]? = some (.cells #[.int .i64 x.1, .int .u64 x.2] 29 (0, 0)) := s2.kept.heap HbV.out (by rintro (e | e); omega; exact absurd (HvL.out _ e).2 (by omega))
  have HQ8 := hideT q8
  have HR2 := hideT r2
  have HS2 := hideT s2
  have HB3 := hideT b3W
  have HG := hideT (And.intro hg1p hg13)
  have HV1 := hideT hv1
  have y0 := (cell_of_row _ _ _ _ _ _ q8 : W2.cell? ⟨p, 2, none⟩ = _).trans rfl
  rw [hv1] at y0
  clear q8 r2 s2 b3W hg1p hg13 hv1 hat1 hlt1 hg1 k8 hW2 f8 q7 c7 r6 r1 k7 k6 ho1 S0
  go_wp2
  go_loopw [4] (fun s4 wr => ∃ (a : Nat) (M : List Ht), s4 = .int .i64 a ∧ Hid (wr.heap[p]? = some (.cells #[.int .i64 k, .func (.func 28) #[] #[], v1] 57 (0, 0))) ∧ Hid (RowH B wr v1 M) ∧ Hid (M.length = n + 1) ∧ Hid (Up (M.set a x) a) ∧ Hid ((M.set a x).Perm (x :: H)) ∧ Hid (Kept (fun i => i = g1) W2 wr)) (fun s4 _ => (intOf s4).toNat)
  case atStart =>
    refine ⟨n, H ++ [x], by go_num, HQ8, HR2, hideT (by simp [← HN.out]), hideT ?_, hideT ?_, hideT (Kept.refl _ _)⟩
    · rw [HN.out]; simpa using Up.start HP.out x
    · rw [HN.out]; simp
  case round =>
    obtain ⟨a, M, rfl, HBX, HRW, HML, HUP, HPM, HKR⟩ := hrel
    have hal : a < M.length := by have := HUP.out.lt; rwa [List.length_set] at this
    have haln : a < n + 1 := by rw [← HML.out]; exact hal
    have c2 := (cell_of_row _ _ _ _ _ _ HBX.out : wr.cell? ⟨p, 2, none⟩ = _).trans rfl
    have c1' := (cell_of_row _ _ _ _ _ _ HBX.out : wr.cell? ⟨p, 1, none⟩ = _).trans rfl
    have HC2 := hideT (show wr.cell? ⟨p, 2, none⟩ = some (.slice (some ⟨g1, 0, none⟩) (n + 1) c1) by rw [c2, HV1.out]; rfl)
    have HC1 := hideT (show wr.cell? ⟨p, 1, none⟩ = some (.func (.func 28) #[] #[]) from c1')
    have bX := HKR.out.heap HB3.out (fun e => HG.out.2 e.symm)
    have x0 : wr.cell? ⟨b3, 0, none⟩ = some (.int .i64 x.1) := (cell_of_row _ _ _ _ _ _ bX).trans rfl
    have x1 : wr.cell? ⟨b3, 1, none⟩ = some (.int .u64 x.2) := (cell_of_row _ _ _ _ _ _ bX).trans rfl
    have HX := hideT (And.intro x0 x1)
    have HHS : Hid (HsAt wr (some ⟨g1, 0, none⟩) M) := hideT (by have := HRW.out; rw [HV1.out] at this; exact this.hs)
    have HAL := hideT hal
    clear c2 c1' bX x0 x1 hal
    by_cases ha : 0 < a
    · have hq := par_val ha
      obtain ⟨o, ho⟩ : ∃ o, o = par a := ⟨_, rfl⟩
      rw [← ho] at hq
      have hoa : o < a := by rw [ho]; unfold par; omega
      have hol : o < M.length := by have := HAL.out; omega
      have HO := hideT ho
      obtain ⟨gb, go, eg, hc⟩ := HHS.out (by intro e; rw [e] at hol; simp at hol)
      simp only [Option.some.injEq, Addr.mk.injEq, and_true] at eg
      obtain ⟨rfl, rfl⟩ := eg
      obtain ⟨m0, m1⟩ := hc o hol
      rw [← g_eq hol, Nat.zero_add] at m0 m1
      obtain ⟨y, hy⟩ : ∃ y, y = g M o := ⟨_, rfl⟩
      rw [← hy] at m0 m1
      have HY := hideT hy
      have HM := hideT (And.intro m0 m1)
      have HHOL := hideT hol
      have EA := hideT (fun W' => AB.out y W')
      obtain ⟨r, hr⟩ : ∃ r, r = decide (Bt y x) := ⟨_, rfl⟩
      rw [← hr] at EA
      have HR := hideT hr
      have hon : o < n + 1 := by omega
      clear hy hol hc m0 m1 hr ho
      go_upto_region 5 with fail
      have S0 : Gw wr wr.drew := (Gw.refl wr).drew
      refine wp_region_held (S := fun W' => Gw wr W') (by kernel_rfl) ?_
      change wpAnyH _ _ _ _ _ _ _ _ (World.drew _)
      refine wpAnyH_take (i := 0) (v := .pointer (some ⟨p, 1, none⟩)) rfl (by kernel_rfl) (by kernel_rfl) (by kernel_rfl) (fun _ _ _ h => h) (Or.inl ⟨by rfl, fun W' hW => ?_⟩) S0 ?_
      · go_simp
      refine wpAnyH_take (i := 1) (v := .pointer (some ⟨p, 1, none⟩)) rfl (by kernel_rfl) (by kernel_rfl) (by kernel_rfl) (fun _ _ _ h => h) (Or.inl ⟨by rfl, fun W' hW => ?_⟩) S0 ?_
      · go_simp
      refine wpAnyH_take (i := 2) (v := .pointer (some ⟨p, 1, none⟩)) rfl (by kernel_rfl) (by kernel_rfl) (by kernel_rfl) (fun _ _ _ h => h) (Or.inl ⟨by rfl, fun W' hW => ?_⟩) S0 ?_
      · go_simp
      refine wpAnyH_take (i := 3) (v := .func (.func 28) #[] #[]) rfl (by kernel_rfl) (by kernel_rfl) (by kernel_rfl) (fun _ _ _ h => h) (Or.inl ⟨by rfl, fun W' hW => ?_⟩) S0 ?_
      · have e := (gw_kept hW).cell HC1.out (fun f => f)
        go_simp
      refine wpAnyH_take (i := 4) (v := .agg #[.int .i64 x.1, .int .u64 x.2]) rfl (by kernel_rfl) (by kernel_rfl) (by kernel_rfl) (fun _ _ _ h => h) (Or.inl ⟨by rfl, fun W' hW => ?_⟩) S0 ?_
      · exact load_hit (x := .tmp 3) (b := b3) (off := 0) (y := x) rfl (by go_simp) ((gw_kept hW).cell HX.out.1 (fun f => f)) ((gw_kept hW).cell HX.out.2 (fun f => f))
      refine wpAnyH_take (i := 5) (v := .pointer (some ⟨p, 1, none⟩)) rfl (by kernel_rfl) (by kernel_rfl) (by kernel_rfl) (fun _ _ _ h => h) (Or.inl ⟨by rfl, fun W' hW => ?_⟩) S0 ?_
      · go_simp
      refine wpAnyH_take (i := 6) (v := .pointer (some ⟨p, 1, none⟩)) rfl (by kernel_rfl) (by kernel_rfl) (by kernel_rfl) (fun _ _ _ h => h) (Or.inl ⟨by rfl, fun W' hW => ?_⟩) S0 ?_
      · go_simp
      refine wpAnyH_take (i := 7) (v := .pointer (some ⟨p, 2, none⟩)) rfl (by kernel_rfl) (by kernel_rfl) (by kernel_rfl) (fun _ _ _ h => h) (Or.inl ⟨by rfl, fun W' hW => ?_⟩) S0 ?_
      · go_simp
      refine wpAnyH_take (i := 8) (v := .slice (some ⟨g1, 0, none⟩) (n + 1) c1) rfl (by kernel_rfl) (by kernel_rfl) (by kernel_rfl) (fun _ _ _ h => h) (Or.inl ⟨by rfl, fun W' hW => ?_⟩) S0 ?_
      · have e := (gw_kept hW).cell HC2.out (fun f => f)
        go_simp
      refine wpAnyH_take (i := 9) (v := .int .i64 o) rfl (by kernel_rfl) (by kernel_rfl) (by kernel_rfl) (fun _ _ _ h => h) (Or.inl ⟨by rfl, fun W' hW => ?_⟩) S0 ?_
      · go_simp
      refine wpAnyH_take (i := 10) (v := .pointer (some ⟨g1, o * 2, none⟩)) rfl (by kernel_rfl) (by kernel_rfl) (by kernel_rfl) (fun _ _ _ h => h) (Or.inl ⟨by rfl, fun W' hW => ?_⟩) S0 ?_
      · go_simp
        all_goals (intro h; omega)
      refine wpAnyH_take (i := 11) (v := .agg #[.int .i64 y.1, .int .u64 y.2]) rfl (by kernel_rfl) (by kernel_rfl) (by kernel_rfl) (fun _ _ _ h => h) (Or.inl ⟨by rfl, fun W' hW => ?_⟩) S0 ?_
      · exact load_hit (x := .tmp 37) (b := g1) (off := o * 2) (y := y) rfl (by go_simp) ((gw_kept hW).cell HM.out.1 (fun f => f)) ((gw_kept hW).cell HM.out.2 (fun f => f))
      refine wpAnyH_all (rs := [12]) (by kernel_rfl) (by simp) ?_
      intro i hi
      obtain rfl : i = 12 := by simpa using hi
      have E12 := hideT (EA.out wr.drew)
      unfold wpOp
      go_simp
      first | refine E12.out.mono ?_ | refine Or.inl (E12.out.mono ?_)
      rintro e W5 ⟨rfl, h5⟩
      have h5 := S0.trans h5
      first | refine ⟨h5, ?_⟩ | refine Or.inl ⟨h5, ?_⟩
      refine wpAnyH_all (rs := [13]) (by kernel_rfl) (by simp) ?_
      intro i hi
      obtain rfl : i = 13 := by simpa using hi
      unfold wpOp
      go_simp
      first | (change wpAnyH _ _ _ _ _ _ _ _ _) | (refine Or.inl ?_; change wpAnyH _ _ _ _ _ _ _ _ _) | refine Or.inl ⟨h5, ?_⟩ | refine ⟨h5, ?_⟩
      refine wpAnyH_done (by kernel_rfl) ?_ _
      have HW5 := hideT h5
      have K5 := hideT (gw_kept h5)
      clear h5 S0
      cases r with
      | false =>
        have HNB := hideT (show ¬ Bt y x from of_decide_eq_false HR.out.symm)
        go_upto_region 8 with fail
        have KW := K5
        have D2 := hideT (KW.out.cell HC2.out (fun f => f))
        have DX := hideT (And.intro (KW.out.cell HX.out.1 (fun f => f)) (KW.out.cell HX.out.2 (fun f => f)))
        have T0 : Kept (fun _ => False) W5 (World.drew W5) := Kept.drew W5
        refine wp_region_z (S := fun W' => Kept (fun _ => False) W5 W') (z := 7) (by kernel_rfl) ?_
        change wpAnyZ _ _ _ _ _ _ _ _ _ (World.drew _)
        refine wpAnyZ_take (i := 0) (v := .pointer (some ⟨p, 1, none⟩)) rfl (by kernel_rfl) (by kernel_rfl) (by kernel_rfl) (by kernel_rfl) (fun _ _ _ h => h) (Or.inl ⟨by rfl, fun W' hW => ?_⟩) T0 ?_
        · go_simp
        refine wpAnyZ_take (i := 1) (v := .pointer (some ⟨p, 1, none⟩)) rfl (by kernel_rfl) (by kernel_rfl) (by kernel_rfl) (by kernel_rfl) (fun _ _ _ h => h) (Or.inl ⟨by rfl, fun W' hW => ?_⟩) T0 ?_
        · go_simp
        refine wpAnyZ_take (i := 2) (v := .pointer (some ⟨p, 2, none⟩)) rfl (by kernel_rfl) (by kernel_rfl) (by kernel_rfl) (by kernel_rfl) (fun _ _ _ h => h) (Or.inl ⟨by rfl, fun W' hW => ?_⟩) T0 ?_
        · go_simp
        refine wpAnyZ_take (i := 3) (v := .slice (some ⟨g1, 0, none⟩) (n + 1) c1) rfl (by kernel_rfl) (by kernel_rfl) (by kernel_rfl) (by kernel_rfl) (fun _ _ _ h => h) (Or.inl ⟨by rfl, fun W' hW => ?_⟩) T0 ?_
        · have e := hW.cell D2.out (fun f => f)
          go_simp
        refine wpAnyZ_take (i := 4) (v := .int .i64 (a : Nat)) rfl (by kernel_rfl) (by kernel_rfl) (by kernel_rfl) (by kernel_rfl) (fun _ _ _ h => h) (Or.inl ⟨by rfl, fun W' hW => ?_⟩) T0 ?_
        · go_simp
        refine wpAnyZ_take (i := 5) (v := .agg #[.int .i64 x.1, .int .u64 x.2]) rfl (by kernel_rfl) (by kernel_rfl) (by kernel_rfl) (by kernel_rfl) (fun _ _ _ h => h) (Or.inl ⟨by rfl, fun W' hW => ?_⟩) T0 ?_
        · exact load_hit (x := .tmp 3) (b := b3) (off := 0) (y := x) rfl (by go_simp) (hW.cell DX.out.1 (fun f => f)) (hW.cell DX.out.2 (fun f => f))
        refine wpAnyZ_take (i := 6) (v := .pointer (some ⟨g1, a * 2, none⟩)) rfl (by kernel_rfl) (by kernel_rfl) (by kernel_rfl) (by kernel_rfl) (fun _ _ _ h => h) (Or.inl ⟨by rfl, fun W' hW => ?_⟩) T0 ?_
        · go_simp
          all_goals (intro h; omega)
        have RW := (HRW.out.same KW.out (fun _ _ f => f)).same T0 (fun _ _ f => f)
        rw [HV1.out] at RW
        obtain ⟨th, RW2, KW2⟩ := RW.set a HAL.out x
        refine wpAnyZ_store 7 29 (.tmp 61) (.tmp 60) g1 (a * 2) #[.int .i64 x.1, .int .u64 x.2] (by kernel_rfl) rfl rfl rfl (by kernel_rfl) (by kernel_rfl) th size_hit (hit_all x) ?_
        intro Z hZ
        replace hZ : Z = (World.drew W5).setCells g1 (a * 2) [.int .i64 x.1, .int .u64 x.2] := hZ
        refine wpAnyZ_done (by kernel_rfl) ?_ _
        have KZ := hideT (((KW.out.trans T0 (fun _ f => f.elim)).mono (fun _ f => f.elim)).trans KW2 (fun i e => .inl e) : Kept (fun i => i = g1) wr _)
        rw [← HV1.out] at RW2
        have HRZ := hideT RW2
        have HBZ := hideT (KZ.out.heap HBX.out (fun e => HG.out.1 e.symm))
        rw [← hZ] at HRZ HBZ KZ
        clear hZ RW2 KW2 RW th T0
        go_end0
        refine ⟨v1, M.set a x, rfl, ⟨HBZ.out, HRZ.out, by rw [HV1.out]; simp only [Value.ownBlock, ne_eq, Option.some.injEq]; exact HG.out.1⟩, KStep.ahead HkV.out (HS2.out.trans ⟨(HKR.out.trans KZ.out (fun i e => .inl e)).mono (fun i e => .inl (.inr (by rw [HV1.out, e]; rfl))), fun i hi => .inl hi⟩), HUP.out.stop (by rw [g_set HAL.out, g_set HAL.out, if_pos rfl, ← HO.out, if_neg (by omega), ← HY.out]; exact HNB.out), HPM.out⟩
      | true =>
        have HB := hideT (show Bt y x from of_decide_eq_true HR.out.symm)
        go_upto_region 6 with fail
        have KW := K5
        have D2 := hideT (KW.out.cell HC2.out (fun f => f))
        have DX := hideT (And.intro (KW.out.cell HX.out.1 (fun f => f)) (KW.out.cell HX.out.2 (fun f => f)))
        have T0 : Kept (fun _ => False) W5 (World.drew W5) := Kept.drew W5
        have DM := hideT (And.intro (KW.out.cell HM.out.1 (fun f => f)) (KW.out.cell HM.out.2 (fun f => f)))
        refine wp_region_z (S := fun W' => Kept (fun _ => False) W5 W') (z := 13) (by kernel_rfl) ?_
        change wpAnyZ _ _ _ _ _ _ _ _ _ (World.drew _)
        refine wpAnyZ_take (i := 0) (v := .pointer (some ⟨p, 1, none⟩)) rfl (by kernel_rfl) (by kernel_rfl) (by kernel_rfl) (by kernel_rfl) (fun _ _ _ h => h) (Or.inl ⟨by rfl, fun W' hW => ?_⟩) T0 ?_
        · go_simp
        refine wpAnyZ_take (i := 1) (v := .pointer (some ⟨p, 1, none⟩)) rfl (by kernel_rfl) (by kernel_rfl) (by kernel_rfl) (by kernel_rfl) (fun _ _ _ h => h) (Or.inl ⟨by rfl, fun W' hW => ?_⟩) T0 ?_
        · go_simp
        refine wpAnyZ_take (i := 2) (v := .pointer (some ⟨p, 2, none⟩)) rfl (by kernel_rfl) (by kernel_rfl) (by kernel_rfl) (by kernel_rfl) (fun _ _ _ h => h) (Or.inl ⟨by rfl, fun W' hW => ?_⟩) T0 ?_
        · go_simp
        refine wpAnyZ_take (i := 3) (v := .slice (some ⟨g1, 0, none⟩) (n + 1) c1) rfl (by kernel_rfl) (by kernel_rfl) (by kernel_rfl) (by kernel_rfl) (fun _ _ _ h => h) (Or.inl ⟨by rfl, fun W' hW => ?_⟩) T0 ?_
        · have e := hW.cell D2.out (fun f => f)
          go_simp
        refine wpAnyZ_take (i := 4) (v := .int .i64 (a : Nat)) rfl (by kernel_rfl) (by kernel_rfl) (by kernel_rfl) (by kernel_rfl) (fun _ _ _ h => h) (Or.inl ⟨by rfl, fun W' hW => ?_⟩) T0 ?_
        · go_simp
        refine wpAnyZ_take (i := 5) (v := .pointer (some ⟨p, 1, none⟩)) rfl (by kernel_rfl) (by kernel_rfl) (by kernel_rfl) (by kernel_rfl) (fun _ _ _ h => h) (Or.inl ⟨by rfl, fun W' hW => ?_⟩) T0 ?_
        · go_simp
        refine wpAnyZ_take (i := 6) (v := .pointer (some ⟨p, 1, none⟩)) rfl (by kernel_rfl) (by kernel_rfl) (by kernel_rfl) (by kernel_rfl) (fun _ _ _ h => h) (Or.inl ⟨by rfl, fun W' hW => ?_⟩) T0 ?_
        · go_simp
        refine wpAnyZ_take (i := 7) (v := .pointer (some ⟨p, 2, none⟩)) rfl (by kernel_rfl) (by kernel_rfl) (by kernel_rfl) (by kernel_rfl) (fun _ _ _ h => h) (Or.inl ⟨by rfl, fun W' hW => ?_⟩) T0 ?_
        · go_simp
        refine wpAnyZ_take (i := 8) (v := .slice (some ⟨g1, 0, none⟩) (n + 1) c1) rfl (by kernel_rfl) (by kernel_rfl) (by kernel_rfl) (by kernel_rfl) (fun _ _ _ h => h) (Or.inl ⟨by rfl, fun W' hW => ?_⟩) T0 ?_
        · have e := hW.cell D2.out (fun f => f)
          go_simp
        refine wpAnyZ_take (i := 9) (v := .int .i64 (o : Nat)) rfl (by kernel_rfl) (by kernel_rfl) (by kernel_rfl) (by kernel_rfl) (fun _ _ _ h => h) (Or.inl ⟨by rfl, fun W' hW => ?_⟩) T0 ?_
        · go_simp
        refine wpAnyZ_take (i := 10) (v := .pointer (some ⟨g1, o * 2, none⟩)) rfl (by kernel_rfl) (by kernel_rfl) (by kernel_rfl) (by kernel_rfl) (fun _ _ _ h => h) (Or.inl ⟨by rfl, fun W' hW => ?_⟩) T0 ?_
        · go_simp
          all_goals (intro h; omega)
        refine wpAnyZ_take (i := 11) (v := .agg #[.int .i64 y.1, .int .u64 y.2]) rfl (by kernel_rfl) (by kernel_rfl) (by kernel_rfl) (by kernel_rfl) (fun _ _ _ h => h) (Or.inl ⟨by rfl, fun W' hW => ?_⟩) T0 ?_
        · exact load_hit (x := .tmp 51) (b := g1) (off := o * 2) (y := y) rfl (by go_simp) (hW.cell DM.out.1 (fun f => f)) (hW.cell DM.out.2 (fun f => f))
        refine wpAnyZ_take (i := 12) (v := .pointer (some ⟨g1, a * 2, none⟩)) rfl (by kernel_rfl) (by kernel_rfl) (by kernel_rfl) (by kernel_rfl) (fun _ _ _ h => h) (Or.inl ⟨by rfl, fun W' hW => ?_⟩) T0 ?_
        · go_simp
          all_goals (intro h; omega)
        have RW := (HRW.out.same KW.out (fun _ _ f => f)).same T0 (fun _ _ f => f)
        rw [HV1.out] at RW
        obtain ⟨th, RW2, KW2⟩ := RW.set a HAL.out y
        refine wpAnyZ_store 13 29 (.tmp 53) (.tmp 52) g1 (a * 2) #[.int .i64 y.1, .int .u64 y.2] (by kernel_rfl) rfl rfl rfl (by kernel_rfl) (by kernel_rfl) th size_hit (hit_all y) ?_
        intro Z hZ
        replace hZ : Z = (World.drew W5).setCells g1 (a * 2) [.int .i64 y.1, .int .u64 y.2] := hZ
        refine wpAnyZ_done (by kernel_rfl) ?_ _
        have KZ := hideT (((KW.out.trans T0 (fun _ f => f.elim)).mono (fun _ f => f.elim)).trans KW2 (fun i e => .inl e) : Kept (fun i => i = g1) wr _)
        rw [← HV1.out] at RW2
        have HRZ := hideT RW2
        have HBZ := hideT (KZ.out.heap HBX.out (fun e => HG.out.1 e.symm))
        rw [← hZ] at HRZ HBZ KZ
        clear hZ RW2 KW2 RW th T0
        have HU2 : Hid (Up ((M.set a y).set o x) o) := hideT (by
          have hao : a ≠ o := by omega
          have gx : g (M.set a x) a = x := by rw [g_set HAL.out, if_pos rfl]
          have go' : g (M.set a x) o = y := by rw [g_set HAL.out, if_neg (fun e => hao e.symm), HY.out]
          have U := HUP.out.step ha (by rw [← HO.out, go', gx]; exact HB.out)
          rw [← HO.out, go', gx] at U
          have E := set_set_up x HAL.out hao (o := o)
          rw [← HY.out, go', gx] at E
          rw [E]; exact U)
        have HP2 : Hid (((M.set a y).set o x).Perm (x :: H)) := hideT (by have := perm_up HAL.out HHOL.out (by omega) HPM.out; rwa [← HY.out] at this)
        have HK2 := hideT (HKR.out.trans KZ.out (fun i e => .inl e))
        clear KZ
        go_wp2
        go_round
        case rel => exact ⟨o, M.set a y, by go_num, HBZ, HRZ, hideT (by rw [List.length_set]; exact HML.out), HU2, HP2, HK2⟩
        case measure => simp [intOf]; omega
    · obtain rfl : a = 0 := by omega
      go_upto_region 8 with fail
      have KW := hideT (Kept.refl (fun _ => False) wr)
      have D2 := hideT (KW.out.cell HC2.out (fun f => f))
      have DX := hideT (And.intro (KW.out.cell HX.out.1 (fun f => f)) (KW.out.cell HX.out.2 (fun f => f)))
      have T0 : Kept (fun _ => False) wr (World.drew wr) := Kept.drew wr
      refine wp_region_z (S := fun W' => Kept (fun _ => False) wr W') (z := 7) (by kernel_rfl) ?_
      change wpAnyZ _ _ _ _ _ _ _ _ _ (World.drew _)
      refine wpAnyZ_take (i := 0) (v := .pointer (some ⟨p, 1, none⟩)) rfl (by kernel_rfl) (by kernel_rfl) (by kernel_rfl) (by kernel_rfl) (fun _ _ _ h => h) (Or.inl ⟨by rfl, fun W' hW => ?_⟩) T0 ?_
      · go_simp
      refine wpAnyZ_take (i := 1) (v := .pointer (some ⟨p, 1, none⟩)) rfl (by kernel_rfl) (by kernel_rfl) (by kernel_rfl) (by kernel_rfl) (fun _ _ _ h => h) (Or.inl ⟨by rfl, fun W' hW => ?_⟩) T0 ?_
      · go_simp
      refine wpAnyZ_take (i := 2) (v := .pointer (some ⟨p, 2, none⟩)) rfl (by kernel_rfl) (by kernel_rfl) (by kernel_rfl) (by kernel_rfl) (fun _ _ _ h => h) (Or.inl ⟨by rfl, fun W' hW => ?_⟩) T0 ?_
      · go_simp
      refine wpAnyZ_take (i := 3) (v := .slice (some ⟨g1, 0, none⟩) (n + 1) c1) rfl (by kernel_rfl) (by kernel_rfl) (by kernel_rfl) (by kernel_rfl) (fun _ _ _ h => h) (Or.inl ⟨by rfl, fun W' hW => ?_⟩) T0 ?_
      · have e := hW.cell D2.out (fun f => f)
        go_simp
      refine wpAnyZ_take (i := 4) (v := .int .i64 0) rfl (by kernel_rfl) (by kernel_rfl) (by kernel_rfl) (by kernel_rfl) (fun _ _ _ h => h) (Or.inl ⟨by rfl, fun W' hW => ?_⟩) T0 ?_
      · go_simp
      refine wpAnyZ_take (i := 5) (v := .agg #[.int .i64 x.1, .int .u64 x.2]) rfl (by kernel_rfl) (by kernel_rfl) (by kernel_rfl) (by kernel_rfl) (fun _ _ _ h => h) (Or.inl ⟨by rfl, fun W' hW => ?_⟩) T0 ?_
      · exact load_hit (x := .tmp 3) (b := b3) (off := 0) (y := x) rfl (by go_simp) (hW.cell DX.out.1 (fun f => f)) (hW.cell DX.out.2 (fun f => f))
      refine wpAnyZ_take (i := 6) (v := .pointer (some ⟨g1, 0, none⟩)) rfl (by kernel_rfl) (by kernel_rfl) (by kernel_rfl) (by kernel_rfl) (fun _ _ _ h => h) (Or.inl ⟨by rfl, fun W' hW => ?_⟩) T0 ?_
      · go_simp
        all_goals (intro h; omega)
      have RW := (HRW.out.same KW.out (fun _ _ f => f)).same T0 (fun _ _ f => f)
      rw [HV1.out] at RW
      obtain ⟨th, RW2, KW2⟩ := RW.set 0 HAL.out x
      refine wpAnyZ_store 7 29 (.tmp 61) (.tmp 60) g1 (0 * 2) #[.int .i64 x.1, .int .u64 x.2] (by kernel_rfl) rfl rfl rfl (by kernel_rfl) (by kernel_rfl) th size_hit (hit_all x) ?_
      intro Z hZ
      replace hZ : Z = (World.drew wr).setCells g1 (0 * 2) [.int .i64 x.1, .int .u64 x.2] := hZ
      refine wpAnyZ_done (by kernel_rfl) ?_ _
      have KZ := hideT (((KW.out.trans T0 (fun _ f => f.elim)).mono (fun _ f => f.elim)).trans KW2 (fun i e => .inl e) : Kept (fun i => i = g1) wr _)
      rw [← HV1.out] at RW2
      have HRZ := hideT RW2
      have HBZ := hideT (KZ.out.heap HBX.out (fun e => HG.out.1 e.symm))
      rw [← hZ] at HRZ HBZ KZ
      clear hZ RW2 KW2 RW th T0
      go_end0
      refine ⟨v1, M.set 0 x, rfl, ⟨HBZ.out, HRZ.out, by rw [HV1.out]; simp only [Value.ownBlock, ne_eq, Option.some.injEq]; exact HG.out.1⟩, KStep.ahead HkV.out (HS2.out.trans ⟨(HKR.out.trans KZ.out (fun i e => .inl e)).mono (fun i e => .inl (.inr (by rw [HV1.out, e]; rfl))), fun i hi => .inl hi⟩), HUP.out.top, HPM.out⟩
end Go.Proofs.Ytkgcafomlhfonaa.Tk
