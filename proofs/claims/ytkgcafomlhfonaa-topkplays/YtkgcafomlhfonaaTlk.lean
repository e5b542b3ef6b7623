import Derived.Test.YtkgcafomlhfonaaTlj
namespace Go.Proofs.Ytkgcafomlhfonaa.Tk
open Go.ChangeShapes Go.WideShapes Go.ChangeAt Go.RowKit

/-- What 'step' may change. -/
structure SStep (W W' : World) (p q : Nat) (v v' : Value) (ka ka' : Option Addr) : Prop where
  kept : Kept (fun i => i = p ∨ v.ownBlock = some i ∨ i = q) W W'
  newv : ∀ i, v'.ownBlock = some i → v.ownBlock = some i ∨ W.heap.size ≤ i
  newa : ka' = ka ∨ ∀ b o, ka' = some ⟨b, o, none⟩ → W.heap.size ≤ b
theorem off_grow (k : Nat) (K : List Ht) (h : Ht) : (off k K h).length ≤ K.length + 1 := by
  unfold off
  rw [List.length_take, ins_len]
  exact Nat.min_le_right _ _
set_option maxRecDepth 20000 in
set_option maxHeartbeats 8000000 in
theorem step_offer {W : World} {p q : Nat} {k : Int} {v : Value} {K : List Ht} {ka : Option Addr} {kc : Nat} (which : Int) (h : Ht) (hs : StA W p q k v K ka kc) (hlim : K.length + 1 ≤ 8796093021952) : Calls Try.prog 11 #[.pointer (some ⟨p, 0, none⟩), .pointer (some ⟨q, 0, none⟩), .int .i64 k, opA 1 which h] W fun e w' => e = .returned (.bool true) ∧ ∃ v' ka' kc', StA w' p q k v' (off k.toNat K h) ka' kc' ∧ SStep W w' p q v v' ka ka' := by
  have HS := hideT hs
  obtain ⟨b7, hb7⟩ : ∃ b, b = W.heap.size := ⟨_, rfl⟩
  obtain ⟨V, hV⟩ : ∃ V, V = W.alloc (.cells #[.int .i64 1, .int .i64 which, .int .i64 h.1, .int .u64 h.2] 31) := ⟨_, rfl⟩
  have kV : Kept (fun _ => False) W V := by rw [hV]; exact Kept.alloc _ _
  have bV : V.heap[b7]? = some (.cells #[.int .i64 1, .int .i64 which, .int .i64 h.1, .int .u64 h.2] 31 (0, 0)) := by rw [hV, hb7]; exact heap_alloc_new W _
  have HV := hideT kV
  have HH := hideT (And.intro ((cell_of_row _ _ _ _ _ _ bV : V.cell? ⟨b7, 2, none⟩ = _).trans rfl : V.cell? ⟨b7, 2, none⟩ = some (.int .i64 h.1)) ((cell_of_row _ _ _ _ _ _ bV : V.cell? ⟨b7, 3, none⟩ = _).trans rfl : V.cell? ⟨b7, 3, none⟩ = some (.int .u64 h.2)))
  have cq := kV.cell ((cell_of_row _ _ _ _ _ _ hs.cell : W.cell? ⟨q, 0, none⟩ = _).trans rfl) (fun f => f)
  have HCQ := hideT (show V.cell? ⟨q, 0, none⟩ = some (.slice ka K.length kc) from cq)
  have RO := hideT (fun U (hU : Kept (fun _ => False) V U) => roffer_any K ka kc h k U (hs.hs.same (kV.trans hU (fun _ f => f.elim))) hs.keep.srt hs.keep.len (by omega))
  obtain ⟨n, hn⟩ : ∃ n, n = K.length := ⟨_, rfl⟩
  have HN := hideT hn
  rw [← hn] at RO HCQ
  obtain ⟨R, hR⟩ : ∃ R, R = off k.toNat K h := ⟨_, rfl⟩
  have HR := hideT hR
  rw [← hR] at RO ⊢
  obtain ⟨ob, hob⟩ : ∃ ob, ob = offB k K h := ⟨_, rfl⟩
  have HOB := hideT hob
  rw [← hob] at RO
  obtain ⟨rn, hrn⟩ : ∃ rn, rn = R.length := ⟨_, rfl⟩
  have HRN := hideT hrn
  rw [← hrn] at RO
  have hqV := lt_of_block (kV.heap hs.cell (fun f => f))
  have HB8 := hideT (show b7 ≠ p ∧ v.ownBlock ≠ some b7 from by obtain ⟨x, y⟩ := hs.keep.lt; exact ⟨by omega, fun e => by have := (y _ e).2; omega⟩)
  have HB7 := hideT (show b7 ≠ q from by have := lt_of_block hs.cell; omega)
  clear bV kV cq hn hR hob hrn hs
  unfold opA
  go_enter Try.func11, Try.ntmps11
  go_upto_region 3 with fail
  rw [← hV, ← hb7]
  clear hV hb7
  have S0 : Kept (fun _ => False) V V.drew := Kept.drew V
  refine wp_region_held (S := fun W' => Kept (fun _ => False) V W') (by kernel_rfl) ?_
  change wpAnyH _ _ _ _ _ _ _ _ (World.drew _)
  refine wpAnyH_take (i := 0) (v := .pointer (some ⟨q, 0, none⟩)) rfl (by kernel_rfl) (by kernel_rfl) (by kernel_rfl) (fun _ _ _ h => h) (Or.inl ⟨by kernel_rfl, fun W' hW => ?_⟩) S0 ?_
  · go_simp
  refine wpAnyH_take (i := 1) (v := .pointer (some ⟨q, 0, none⟩)) rfl (by kernel_rfl) (by kernel_rfl) (by kernel_rfl) (fun _ _ _ h => h) (Or.inl ⟨by kernel_rfl, fun W' hW => ?_⟩) S0 ?_
  · go_simp
  refine wpAnyH_take (i := 2) (v := .slice ka n kc) rfl (by kernel_rfl) (by kernel_rfl) (by kernel_rfl) (fun _ _ _ h => h) (Or.inl ⟨by kernel_rfl, fun W' hW => ?_⟩) S0 ?_
  · have e := hW.cell HCQ.out (fun f => f)
    go_simp
  refine wpAnyH_take (i := 3) (v := .pointer (some ⟨b7, 2, none⟩)) rfl (by kernel_rfl) (by kernel_rfl) (by kernel_rfl) (fun _ _ _ h => h) (Or.inl ⟨by kernel_rfl, fun W' hW => ?_⟩) S0 ?_
  · go_simp
  refine wpAnyH_take (i := 4) (v := .agg #[.int .i64 h.1, .int .u64 h.2]) rfl (by kernel_rfl) (by kernel_rfl) (by kernel_rfl) (fun _ _ _ h => h) (Or.inl ⟨by kernel_rfl, fun W' hW => ?_⟩) S0 ?_
  · exact load_hit (x := .tmp 21) (b := b7) (off := 2) (y := h) rfl (by go_simp) (hW.cell HH.out.1 (fun f => f)) (hW.cell HH.out.2 (fun f => f))
  refine wpAnyH_take (i := 5) (v := .int .i64 k) rfl (by kernel_rfl) (by kernel_rfl) (by kernel_rfl) (fun _ _ _ h => h) (Or.inl ⟨by kernel_rfl, fun W' hW => ?_⟩) S0 ?_
  · go_simp
  refine wpAnyH_all (rs := [6]) (by kernel_rfl) (by simp) ?_
  intro i hi
  obtain rfl : i = 6 := by simpa using hi
  have C6 := hideT (RO.out _ S0)
  unfold wpOp
  go_simp
  first | refine C6.out.mono ?_ | refine Or.inl (C6.out.mono ?_)
  rintro e W1 ⟨a1, c1, rfl, r1, k1', o1⟩
  have k1 := S0.trans k1' (fun _ f => f.elim)
  first | refine ⟨k1, ?_⟩ | refine Or.inl ⟨k1, ?_⟩
  refine wpAnyH_all (rs := [7]) (by kernel_rfl) (by simp) ?_
  intro i hi
  obtain rfl : i = 7 := by simpa using hi
  unfold wpOp
  go_simp
  first | (change wpAnyH _ _ _ _ _ _ _ _ _) | (refine Or.inl ?_; change wpAnyH _ _ _ _ _ _ _ _ _) | refine Or.inl ⟨k1, ?_⟩ | refine ⟨k1, ?_⟩
  refine wpAnyH_take (i := 8) (v := .slice a1 rn c1) rfl (by kernel_rfl) (by kernel_rfl) (by kernel_rfl) (fun _ _ _ h => h) (Or.inl ⟨by kernel_rfl, fun W' hW => ?_⟩) k1 ?_
  · go_simp
  refine wpAnyH_take (i := 9) (v := .bool ob) rfl (by kernel_rfl) (by kernel_rfl) (by kernel_rfl) (fun _ _ _ h => h) (Or.inl ⟨by kernel_rfl, fun W' hW => ?_⟩) k1 ?_
  · go_simp
  refine wpAnyH_all (rs := [10]) (by kernel_rfl) (by simp) ?_
  intro i hi
  obtain rfl : i = 10 := by simpa using hi
  unfold wpOp
  go_simp
  first | (change wpAnyH _ _ _ _ _ _ _ _ _) | (refine Or.inl ?_; change wpAnyH _ _ _ _ _ _ _ _ _) | refine Or.inl ⟨k1, ?_⟩ | refine ⟨k1, ?_⟩
  refine wpAnyH_all (rs := [11]) (by kernel_rfl) (by simp) ?_
  intro i hi
  obtain rfl : i = 11 := by simpa using hi
  unfold wpOp
  go_simp
  first | (change wpAnyH _ _ _ _ _ _ _ _ _) | (refine Or.inl ?_; change wpAnyH _ _ _ _ _ _ _ _ _) | refine Or.inl ⟨k1, ?_⟩ | refine ⟨k1, ?_⟩
  refine wpAnyH_done (by kernel_rfl) ?_ _
  have K1 := hideT k1
  have HR1 := hideT r1
  have HNA := hideT o1
  clear k1 S0 r1 o1
  have cq1 := K1.out.cell HCQ.out (fun f => f)
  have bq1 : ∃ cs, W1.heap[q]? = some (.cells #[.slice ka n kc] 26 (0, 0)) ∧ cs = 0 := ⟨0, by rw [HN.out]; exact K1.out.heap (HV.out.heap HS.out.cell (fun f => f)) (fun f => f), rfl⟩
  obtain ⟨_, bq, _⟩ := bq1
  have fq : W1.frozen? ⟨q, 0, none⟩ = false := by simp [World.frozen?, bq]
  have ks : Kept (fun i => i = q) W1 (W1.setCell ⟨q, 0, none⟩ (.slice a1 rn c1)) := Kept.setCell W1 ⟨q, 0, none⟩ _
  have bq2 : (W1.setCell ⟨q, 0, none⟩ (.slice a1 rn c1)).heap[q]? = some (.cells #[.slice a1 rn c1] 26 (0, 0)) := by have := heap_setCell_same W1 q 0 _ _ (.slice a1 rn c1) bq; simpa using this
  have HBQ2 := hideT bq2
  have HKS := hideT ks
  clear bq2 ks bq
  obtain ⟨Z, hZ⟩ : ∃ Z, Z = W1.setCell ⟨q, 0, none⟩ (.slice a1 rn c1) := ⟨_, rfl⟩
  rw [← hZ] at HBQ2 HKS
  have K01 : Kept (fun _ => False) W W1 := HV.out.trans K1.out (fun _ f => f.elim)
  have K2 : Kept (fun i => i = q) W Z := (K01.mono (fun _ f => f.elim)).trans HKS.out (fun _ hi => .inl hi)
  have KZ : Keep p Z p k v K := by
    obtain ⟨H, a, b, c⟩ := HS.out.keep.at'
    exact ⟨⟨H, ⟨K2.heap a.box (fun e => HS.out.qp e.symm), a.row.same K2 (fun i hi e => HS.out.qv (by rw [hi, e])), a.far⟩, b, c⟩, HS.out.keep.srt, HS.out.keep.len, Nat.le_trans HS.out.keep.old K2.size, HS.out.keep.nil⟩
  have OF := hideT (offer_any h KZ (by omega))
  rw [← HR.out, ← HOB.out] at OF
  have HZH := hideT (And.intro (HKS.out.cell (K1.out.cell HH.out.1 (fun f => f)) HB7.out) (HKS.out.cell (K1.out.cell HH.out.2 (fun f => f)) HB7.out))
  have H01 := hideT K01
  have H2 := hideT K2
  clear K01 K2 KZ
  go_upto_region 5 with fail
  rw [← hZ]
  clear hZ fq cq1
  have x0 := HZH.out.1
  have x1 := HZH.out.2
  go_wp2_with (go_at_call 23; refine OF.out.mono ?_; rintro e W2 ⟨rfl, v', kp, ks⟩)
  clear x0 x1
  have k1 : Kept (fun i => i = p ∨ v.ownBlock = some i) Z W2 := ks.kept
  have HW2 := hideT k1
  have HKP := hideT kp
  have HKN := hideT ks
  clear k1 kp ks
  have HF : StA W2 p q k v' R a1 c1 ∧ SStep W W2 p q v v' ka a1 := by
    have hs := HS.out
    obtain ⟨pl, vl⟩ := hs.keep.lt
    have ql := lt_of_block hs.cell
    have s1 := H01.out.size
    have s2 := HKS.out.size
    have s3 := HV.out.size
    have s4 := (Kept.drew V).size
    have FA : R ≠ [] → ∀ b o, a1 = some ⟨b, o, none⟩ → b ≠ p ∧ v.ownBlock ≠ some b ∧ b ≠ q ∧ b < W1.heap.size := by
      intro hne b o e
      obtain ⟨b', o', e', hc⟩ := HR1.out hne
      have e2 := e.symm.trans e'
      simp only [Option.some.injEq, Addr.mk.injEq, and_true] at e2
      obtain ⟨rfl, rfl⟩ := e2
      have hbl : b < W1.heap.size := by
        have c0 := (hc 0 (List.length_pos_iff.2 hne)).1
        rcases Nat.lt_or_ge b W1.heap.size with l | l
        · exact l
        · simp [World.cell?, Array.getElem?_eq_none l] at c0
      rcases HNA.out with ea | en
      · have hK : K ≠ [] := by
          intro hK
          have hk : k.toNat ≠ 0 := by
            intro hk
            apply hne
            rw [HR.out, off, hk, List.take_zero]
          have := hs.nil hK hk
          rw [ea, this] at e
          cases e
        obtain ⟨x, y, z⟩ := hs.fp hK b o (by rw [← ea]; exact e)
        exact ⟨x, y, z, hbl⟩
      · have := en b o e
        exact ⟨by omega, fun e => by have := vl _ e; omega, by omega, hbl⟩
    have k12 : Kept (fun i => i = q ∨ i = p ∨ v.ownBlock = some i) W1 W2 := (show Kept (fun i => i = q ∨ i = p ∨ v.ownBlock = some i) W1 Z from HKS.out.mono (fun _ e => Or.inl (Or.inl e))).trans HW2.out (fun _ e => Or.inl (Or.inr e))
    refine ⟨⟨HKP.out, ?_, ?_, hs.qp, ?_, ?_, ?_⟩, ⟨?_, ?_, ?_⟩⟩
    · rw [← HRN.out]
      exact HW2.out.heap HBQ2.out (by rintro (e | e); exact hs.qp e; exact hs.qv e)
    · intro hne
      exact (HR1.out.kept k12 (fun b off e hF => by
        obtain ⟨x, y, z, _⟩ := FA hne b off e
        rcases hF with f | f | f
        · exact z f
        · exact x f
        · exact y f)) hne
    · intro e
      rcases HKN.out.new q e with f | f
      · exact hs.qv f
      · omega
    · intro hne b o e
      obtain ⟨x, y, z, l⟩ := FA hne b o e
      refine ⟨x, fun e => ?_, z⟩
      rcases HKN.out.new b e with f | f
      · exact y f
      · omega
    · intro he hk
      exfalso
      have h0 : (off k.toNat K h).length = 0 := by rw [← HR.out, he]; rfl
      unfold off at h0
      rw [List.length_take, ins_len] at h0
      omega
    · exact (show Kept (fun i => i = p ∨ v.ownBlock = some i ∨ i = q) W Z from H2.out.mono (fun _ e => Or.inl (Or.inr (Or.inr e)))).trans HW2.out (fun _ e => Or.inl (e.elim (fun f => Or.inl f) (fun f => Or.inr (Or.inl f))))
    · intro i hi
      exact (HKN.out.new i hi).imp id (fun f => by omega)
    · exact HNA.out.imp id (fun f b o e => by have := f b o e; omega)
  have HFF := hideT HF
  clear HF
  go_wp2
  go_ret
  exact ⟨by simp, v', a1, c1, HFF.out⟩
end Go.Proofs.Ytkgcafomlhfonaa.Tk
