import Derived.Test.YtiebmmpnmklpnaaDoorIzc
namespace Go.Proofs.YtiebmmpnmklpnaaDoor
open Go.ChangeShapes Go.WideShapes Go.ChangeAt Go.RowKit

/-- The errors that are read. -/
structure Ew (w : World) (a0 a1 ac : Addr) : Prop where
  g0 : w.cell? ⟨1, 0, none⟩ = some (errV a0)
  g1 : w.cell? ⟨2, 0, none⟩ = some (errV a1)
  gc : w.cell? ⟨0, 0, none⟩ = some (errV ac)
theorem Ew.kept {w w' : World} {a0 a1 ac : Addr} (h : Ew w a0 a1 ac) (k : Kept (fun _ => False) w w') : Ew w' a0 a1 ac :=
  ⟨k.cell h.g0 (fun f => f), k.cell h.g1 (fun f => f), k.cell h.gc (fun f => f)⟩
theorem results_cellI {fn : Func} {p u : Tmp} {ty : TypeId} (h : fn.results = #[.cell p ty, .tmp u]) (tmps : Array Value) (P : Program) (w : World) (g : Nat) (cs : Array Value)
    (hp : tmps.getD p undef = .pointer (some ⟨g, 0, none⟩)) (hld : (loadVar ty ⟨g, 0, none⟩).run P w = .ok (.agg cs) w) :
    (results fn tmps).run P w = .ok (.tuple #[.agg cs, tmps.getD u undef]) w := by
  have hp' : tmps[p]?.getD undef = .pointer (some ⟨g, 0, none⟩) := by simpa using hp
  simp [results, h, hp', asAddr, hld, Result.andThen]
theorem load_in {W : World} {g : Nat} {x0 x1 x2 : Value} (h : W.heap[g]? = some (.cells #[x0, x1, x2] 74 (0, 0))) : (loadVar 74 ⟨g, 0, none⟩).run Tryd.prog W = .ok (.agg #[x0, x1, x2]) W :=
  run_loadVar_row W g 74 74 #[x0, x1, x2] (0, 0) _ h Tryd.underlying74 rfl (by kernel_rfl)
theorem in_put3 {W : World} {g : Nat} {x0 x1 x2 v0 v1 v2 : Value} {t : TypeId} (h : W.heap[g]? = some (.cells #[x0, x1, x2] t (0, 0))) : (((W.setCell ⟨g, 0, none⟩ v0).setCell ⟨g, 1, none⟩ v1).setCell ⟨g, 2, none⟩ v2).heap[g]? = some (.cells #[v0, v1, v2] t (0, 0)) := by
  have h1 := heap_setCell_same W g 0 _ t v0 h
  have h2 := heap_setCell_same _ g 1 _ t v1 h1
  have h3 := heap_setCell_same _ g 2 _ t v2 h2
  simpa using h3
theorem kept_put3 {F : Nat → Prop} {w W : World} {g : Nat} {v0 v1 v2 : Value} (h : Kept F w W) (hg : w.heap.size ≤ g) : Kept F w (((W.setCell ⟨g, 0, none⟩ v0).setCell ⟨g, 1, none⟩ v1).setCell ⟨g, 2, none⟩ v2) :=
  ((h.trans (Kept.setCell W ⟨g, 0, none⟩ v0) (fun i e => .inr (by simp only at e; omega))).trans (Kept.setCell _ ⟨g, 1, none⟩ v1) (fun i e => .inr (by simp only at e; omega))).trans (Kept.setCell _ ⟨g, 2, none⟩ v2) (fun i e => .inr (by simp only at e; omega))
theorem rd_put3 {W : World} {br g p : Nat} {v : Value} {l : List Int} {v0 v1 v2 : Value} (h : Rd W br v l p) (h1 : g ≠ br) (h2 : v.ownBlock ≠ some g) : Rd (((W.setCell ⟨g, 0, none⟩ v0).setCell ⟨g, 1, none⟩ v1).setCell ⟨g, 2, none⟩ v2) br v l p := by
  have q : ∀ (W : World) (o : Nat) (u : Value), Rd W br v l p → Rd (W.setCell ⟨g, o, none⟩ u) br v l p := fun W o u h => h.kept (Kept.setCell W ⟨g, o, none⟩ u) (fun e => h1 e.symm) (fun i hi e => h2 (by rw [hi]; simp only at e; rw [e]))
  exact q _ _ _ (q _ _ _ (q _ _ _ h))
theorem cell_row3 {W : World} {g : Nat} {x0 x1 x2 : Value} {t : TypeId} (z : W.heap[g]? = some (.cells #[x0, x1, x2] t (0, 0))) : W.cell? ⟨g, 0, none⟩ = some x0 ∧ W.cell? ⟨g, 1, none⟩ = some x1 ∧ W.cell? ⟨g, 2, none⟩ = some x2 ∧ (∀ i, W.frozen? ⟨g, i, none⟩ = false) := by
  refine ⟨?_, ?_, ?_, fun i => ?_⟩ <;> simp [World.cell?, World.frozen?, z]
theorem cell_row2 {W : World} {g : Nat} {x0 x1 : Value} {t : TypeId} (z : W.heap[g]? = some (.cells #[x0, x1] t (0, 0))) : W.cell? ⟨g, 0, none⟩ = some x0 ∧ W.cell? ⟨g, 1, none⟩ = some x1 ∧ (∀ i, W.frozen? ⟨g, i, none⟩ = false) := by
  refine ⟨?_, ?_, fun i => ?_⟩ <;> simp [World.cell?, World.frozen?, z]
/-- What take answers. -/
def tkP (w : World) (br : Nat) (v : Value) (l : List Int) (p : Nat) (T : Option (In × Nat)) (e : Ending) (w' : World) : Prop :=
  (T = none → e = .returned (.tuple #[.agg #[.int .i64 0, .int .u64 0, .int .u64 0], .bool false])) ∧
  (∀ x k, T = some (x, k) → e = .returned (.tuple #[inV x, .bool true]) ∧ Rd w' br v l (p + k)) ∧ Kept (fun i => i = br) w w'
theorem rdN_next {n i : Nat} {r : List Int} {vs : List Nat} {k x m : Nat} (hi : i < n) (h : rdN n r = (rdN (n - i) (r.drop k)).map fun q => (vs ++ q.1, k + q.2)) (hx : rdu 0 0 (r.drop k) = .ok (x, m)) :
    rdN n r = (rdN (n - (i + 1)) (r.drop (k + m))).map fun q => ((vs ++ [x]) ++ q.1, k + m + q.2) := by
  rw [h, show n - i = (n - (i + 1)) + 1 by omega, rdN, hx]
  simp only [List.drop_drop, Option.map_map]
  congr 1
  funext q
  simp [Nat.add_assoc]
theorem rdN_stop {n i : Nat} {r : List Int} {vs : List Nat} {k er : Nat} (hi : i < n) (h : rdN n r = (rdN (n - i) (r.drop k)).map fun q => (vs ++ q.1, k + q.2)) (hx : rdu 0 0 (r.drop k) = .error er) : rdN n r = none := by
  rw [h, show n - i = (n - (i + 1)) + 1 by omega, rdN, hx]
  rfl
set_option maxRecDepth 20000 in
set_option maxHeartbeats 8000000 in
theorem take_any (br : Nat) (v : Value) (l : List Int) (p : Nat) (a0 a1 ac : Addr) (w : World) (hR : Rd w br v l p) (hp : p < l.length) (hE : Ew w a0 a1 ac) (hT : OpT w) (n0 : 1 ≠ br) (n1 : 2 ≠ br) (n2 : 25 ≠ br) :
    Calls Tryd.prog 37 #[.pointer (some ⟨br, 0, none⟩)] w (tkP w br v l p (tk1 (l.drop p))) := by
  obtain ⟨c, hcl, hc256, hcg⟩ := hR.isb.at hp
  have hdr : l.drop p = (c : Int) :: l.drop (p + 1) := by rw [List.drop_eq_getElem_cons hp, hcg]
  have hsm := hR.sm
  have hbr : br < w.heap.size := lt_of_block hR.blk
  have hvl : ∀ k, v.ownBlock = some k → k < w.heap.size := fun k hk => (hR.own.lt k hk).2
  have KA := Kept.alloc w (.cells #[.int .i64 0, .int .u64 0, .int .u64 0] 74)
  have HRA := hideI (hR.kept KA (fun f => f) (fun _ _ f => f))
  have HB := hideI (rbyte_ok br v l p _ HRA.out hp)
  rw [hcl] at HB
  have HKA := hideI KA
  have HXA : Hid ((w.alloc (.cells #[.int .i64 0, .int .u64 0, .int .u64 0] 74)).heap[w.heap.size]? = some (.cells #[.int .i64 0, .int .u64 0, .int .u64 0] 74 (0, 0))) := hideI (heap_alloc_new w _)
  have HE := hideI hE
  have HT := hideI hT
  have HVL := hideI hvl
  have HD := hideI hdr
  clear hR hE hT KA hcl hcg hdr hvl
  obtain ⟨T, hT⟩ : ∃ T, T = tk1 (l.drop p) := ⟨_, rfl⟩
  rw [← hT]
  have HTT := hideI hT
  clear hT
  have HA := fun W (h : OpT W) => hideI (args_any (c : Int) W h)
  cases hO : isO (c : Int) with
  | false =>
    rw [arV_out hO] at HA
    have HN : Hid (T = none) := hideI (by rw [HTT.out, HD.out, tk1, if_neg (by simp [hO])])
    clear hO HTT HD
    go_enter Tryd.func37, Tryd.ntmps37
    go_wp2_with (first
      | (go_at_call 54; refine HB.out.mono ?_; clear HB; rintro e W1 ⟨rfl, hR1, K1⟩; have HR1 := hideI hR1; have HK1 := hideI ((HKA.out.mono (fun _ f => f.elim)).trans K1 (fun i hi => .inl hi)); have HX1 := hideI (K1.heap HXA.out (by omega)); obtain ⟨z0, z1, z2, z3⟩ := cell_row3 HX1.out; clear hR1 K1)
      | (go_at_call 55; refine (HA W1 (HT.out.keptF HK1.out n2)).out.mono ?_; rintro e W2 ⟨rfl, rfl⟩))
    refine bodyPost_ret (results_cellI rfl _ _ _ w.heap.size _ rfl (load_in (in_put3 HX1.out))) rfl ?_
    exact ⟨fun _ => rfl, fun x k h => by rw [HN.out] at h; (cases h), kept_put3 HK1.out (Nat.le_refl _)⟩
  | true =>
    rw [arV_in hO] at HA
    have HN : Hid (T = (rdN (arN c) (l.drop (p + 1))).map fun q => (⟨c, q.1.getD 0 0, q.1.getD 1 0⟩, 1 + q.2)) := hideI (by rw [HTT.out, HD.out, tk1, if_pos hO])
    have hn2 := arN_le (c : Int)
    generalize arN (c : Int) = n at *
    clear hO HTT HD
    go_enter Tryd.func37, Tryd.ntmps37
    go_wp2_with (first
      | (go_at_call 54; refine HB.out.mono ?_; clear HB; rintro e W1 ⟨rfl, hR1, K1⟩; have HR1 := hideI hR1; have HK1 := hideI ((HKA.out.mono (fun _ f => f.elim)).trans K1 (fun i hi => .inl hi)); have HX1 := hideI (K1.heap HXA.out (by omega)); clear hR1 K1)
      | (go_at_call 55; refine (HA W1 (HT.out.keptF HK1.out n2)).out.mono ?_; rintro e W2 ⟨rfl, e2⟩; have HE2 := hideI e2; clear e2))
    have e2 := HE2.out
    subst e2
    obtain ⟨bb, hbb⟩ : ∃ bb, bb = W2.heap.size := ⟨_, rfl⟩
    have HKW := hideI (Kept.alloc W2 (.cells #[.int .u64 0, .int .u64 0] 106))
    have HR2 := hideI (HR1.out.kept HKW.out (fun f => f) (fun _ _ f => f))
    have HX2 := hideI (HKW.out.heap HX1.out (fun f => f))
    have HZ2 : Hid ((W2.alloc (.cells #[.int .u64 0, .int .u64 0] 106)).heap[W2.heap.size]? = some (.cells #[.int .u64 0, .int .u64 0] 106 (0, 0))) := hideI (heap_alloc_new W2 _)
    have HK2 := hideI (HK1.out.trans HKW.out (fun _ f => f.elim))
    have hW2 : w.heap.size < W2.heap.size := lt_of_block HX1.out
    rw [← hbb] at HZ2 hW2 ⊢
    clear HE2 HKW HR1 HX1 HKA HRA HXA HK1 hbb HA
    go_loopw [30] (fun v30 wr => ∃ (i k : Nat) (vs : List Nat), i ≤ n ∧ v30 = .int .i64 i ∧ Hid (vs.length = i ∧ rdN n (l.drop (p + 1)) = (rdN (n - i) ((l.drop (p + 1)).drop k)).map fun q => (vs ++ q.1, k + q.2)) ∧ Hid (Rd wr br v l (p + 1 + k)) ∧ Hid (wr.heap[bb]? = some (.cells #[.int .u64 (vs.getD 0 0 : Nat), .int .u64 (vs.getD 1 0 : Nat)] 106 (0, 0))) ∧ Hid (wr.heap[w.heap.size]? = some (.cells #[.int .i64 0, .int .u64 0, .int .u64 0] 74 (0, 0))) ∧ Hid (Kept (fun i => i = br) w wr)) (fun v30 _ => n - (intOf v30).toNat)
    case atStart => exact ⟨0, 0, [], by omega, rfl, hideI ⟨rfl, by simp⟩, HR2, HZ2, HX2, HK2⟩
    case round =>
      obtain ⟨i, k, vs, hi, rfl, HI, HR, HZ, HX, HK⟩ := hrel
      obtain ⟨b0, b1, b3⟩ := cell_row2 HZ.out
      obtain ⟨z0, z1, z2, z3⟩ := cell_row3 HX.out
      have g0 := HK.out.cell HE.out.g0 n0
      have g1 := HK.out.cell HE.out.g1 n1
      by_cases hlt : i < n
      · have hii : (i : Int) < (n : Int) := by omega
        have hi2 : i < 2 := by omega
        have hdd : l.drop (p + 1 + k) = (l.drop (p + 1)).drop k := List.drop_drop.symm
        cases hx : rdu 0 0 ((l.drop (p + 1)).drop k) with
        | error er =>
          have HU := hideI (ruv_err br v l (p + 1 + k) er a0 a1 wr HR.out (by rw [hdd]; exact hx) g0 g1)
          have HNN : Hid (T = none) := hideI (by rw [HN.out, rdN_stop hlt HI.out.2 hx]; rfl)
          have hev : ∃ ad, errOf a0 a1 er = .iface 120 (.pointer (some ad)) := by
            unfold errOf errV; split <;> exact ⟨_, rfl⟩
          obtain ⟨ad, had⟩ := hev
          rw [had] at HU
          clear hx had g0 g1 b0 b1 b3 hdd
          go_wp2_with (go_at_call 56; refine HU.out.mono ?_; clear HU; rintro e W3 ⟨rfl, nd, rfl⟩)
          refine bodyPost_ret (results_cellI rfl _ _ _ w.heap.size _ rfl (load_in (in_put3 ((Kept.drewN wr nd).heap HX.out (fun f => f))))) rfl ?_
          exact ⟨fun _ => rfl, fun x k h => by rw [HNN.out] at h; (cases h), kept_put3 (HK.out.trans (Kept.drewN wr nd) (fun _ f => f.elim)) (Nat.le_refl _)⟩
        | ok q =>
          obtain ⟨x, m⟩ := q
          have HU := hideI (ruv_ok br v l (p + 1 + k) x m a0 a1 wr HR.out (by rw [hdd]; exact hx) g0 g1)
          have HIN := hideI (rdN_next hlt HI.out.2 hx)
          clear hx g0 g1 b0 b1 b3 hdd
          go_wp2_with (go_at_call 56; refine HU.out.mono ?_; clear HU; rintro e W3 ⟨rfl, hR3, K3⟩; have HR3 := hideI hR3; have HK3 := hideI (HK.out.trans K3 (fun i hi => .inl hi)); have HZ3 := hideI (K3.heap HZ.out (by omega)); have HX3 := hideI (K3.heap HX.out (by omega)); obtain ⟨b0, b1, b3⟩ := cell_row2 HZ3.out; obtain ⟨y, hy⟩ : ∃ y : Int, W3.cell? ⟨bb, i, none⟩ = some (.int .u64 y) := (by match i, hi2 with | 0, _ => exact ⟨_, b0⟩ | 1, _ => exact ⟨_, b1⟩); have b3i := b3 i; clear hR3 K3 b0 b1 b3)
          go_roundw
          case rel =>
            have hK := Kept.setCell W3 ⟨bb, i, none⟩ (.int .u64 (x : Int))
            have hvi : vs.length = i := HI.out.1
            refine ⟨i + 1, k + m, vs ++ [x], hlt, by go_num, hideI ⟨by simp [hvi], HIN.out⟩, hideI ?_, hideI ?_, hideI (hK.heap HX3.out (fun e => by simp only at e; omega)), hideI (HK3.out.trans hK (fun j e => .inr (by simp only at e; omega)))⟩
            · have := HR3.out.kept hK (fun e => by simp only at e; omega) (fun j hj e => by have := HVL.out j hj; simp only at e; omega)
              rwa [show p + 1 + (k + m) = p + 1 + k + m by omega]
            · rw [heap_setCell_same W3 bb i _ _ _ HZ3.out]
              match i, hi2, hvi with
              | 0, _, hvi =>
                obtain rfl : vs = [] := List.eq_nil_of_length_eq_zero hvi
                rfl
              | 1, _, hvi =>
                match vs, hvi with
                | [y], _ => rfl
          case measure => simp [intOf]; omega
      · obtain rfl : i = n := by omega
        have HF : Hid (T = some (⟨c, vs.getD 0 0, vs.getD 1 0⟩, 1 + k)) := hideI (by rw [HN.out, HI.out.2, Nat.sub_self, rdN]; simp)
        clear g0 g1
        go_wp2
        refine bodyPost_ret (results_cellI rfl _ _ _ w.heap.size _ rfl (load_in (in_put3 HX.out))) rfl ?_
        refine ⟨fun h => by rw [HF.out] at h; (cases h), fun x k' h => ?_, kept_put3 HK.out (Nat.le_refl _)⟩
        rw [HF.out] at h
        simp only [Option.some.injEq, Prod.mk.injEq] at h
        obtain ⟨rfl, rfl⟩ := h
        refine ⟨rfl, ?_⟩
        rw [← Nat.add_assoc]
        exact rd_put3 HR.out (by omega) (fun e => by have := HVL.out _ e; omega)
end Go.Proofs.YtiebmmpnmklpnaaDoor
