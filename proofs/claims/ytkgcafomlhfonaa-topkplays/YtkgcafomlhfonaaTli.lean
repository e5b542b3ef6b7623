import Derived.Test.YtkgcafomlhfonaaTlc
namespace Go.Proofs.Ytkgcafomlhfonaa.Tk
open Go.ChangeShapes Go.WideShapes Go.ChangeAt Go.RowKit

/-- An Op's four cells. -/
def opA (kind which : Int) (h : Ht) : Value := .agg #[.int .i64 kind, .int .i64 which, .int .i64 h.1, .int .u64 h.2]
/-- What 'step' is called over: a keeper at p, the document's kept list in the cell at q. -/
structure StA (W : World) (p q : Nat) (k : Int) (v : Value) (K : List Ht) (ka : Option Addr) (kc : Nat) : Prop where
  keep : Keep p W p k v K
  cell : W.heap[q]? = some (.cells #[.slice ka K.length kc] 26 (0, 0))
  hs : HsAt W ka K
  qp : q ≠ p
  qv : v.ownBlock ≠ some q
  fp : K ≠ [] → ∀ b o, ka = some ⟨b, o, none⟩ → b ≠ p ∧ v.ownBlock ≠ some b ∧ b ≠ q
  nil : K = [] → k.toNat ≠ 0 → ka = none
set_option maxRecDepth 20000 in
set_option maxHeartbeats 8000000 in
theorem step_len {W : World} {p q : Nat} {k : Int} {v : Value} {K : List Ht} {ka : Option Addr} {kc : Nat} (which : Int) (h : Ht) (hs : StA W p q k v K ka kc) : Calls Try.prog 11 #[.pointer (some ⟨p, 0, none⟩), .pointer (some ⟨q, 0, none⟩), .int .i64 k, opA 2 which h] W fun e w' => e = .returned (.bool true) ∧ Kept (fun _ => False) W w' := by
  obtain ⟨H, h1, h2, h3⟩ := hs.keep.at'
  obtain ⟨a, c, hv⟩ := h1.row.shape
  have hl := h3.length_eq
  obtain ⟨V, hV⟩ : ∃ V, V = W.alloc (.cells #[.int .i64 2, .int .i64 which, .int .i64 h.1, .int .u64 h.2] 31) := ⟨_, rfl⟩
  have kV : Kept (fun _ => False) W V := by rw [hV]; exact Kept.alloc _ _
  have HV := hideT kV
  have LN := hideT (fun U (hU : Kept (fun _ => False) V U) => len_any p _ v a H.length c k U hv ((h1.same (kV.trans hU (fun _ f => f.elim))).box))
  rw [hl] at LN
  have cq := kV.cell ((cell_of_row _ _ _ _ _ _ hs.cell : W.cell? ⟨q, 0, none⟩ = _).trans rfl) (fun f => f)
  have HCQ := hideT (show V.cell? ⟨q, 0, none⟩ = some (.slice ka K.length kc) from cq)
  obtain ⟨n, hn⟩ : ∃ n, n = K.length := ⟨_, rfl⟩
  rw [← hn] at LN HCQ
  clear h1 h2 h3 hv hl kV cq hn
  unfold opA
  go_enter Try.func11, Try.ntmps11
  go_upto_region 7 with fail
  rw [← hV]
  clear hV
  have S0 : Kept (fun _ => False) V V.drew := Kept.drew V
  refine wp_region_held (S := fun W' => Kept (fun _ => False) V W') (by kernel_rfl) ?_
  change wpAnyH _ _ _ _ _ _ _ _ (World.drew _)
  refine wpAnyH_take (i := 0) (v := .pointer (some ⟨p, 0, none⟩)) rfl (by kernel_rfl) (by kernel_rfl) (by kernel_rfl) (fun _ _ _ h => h) (Or.inl ⟨by kernel_rfl, fun W' hW => ?_⟩) S0 ?_
  · go_simp
  refine wpAnyH_take (i := 2) (v := .pointer (some ⟨q, 0, none⟩)) rfl (by kernel_rfl) (by kernel_rfl) (by kernel_rfl) (fun _ _ _ h => h) (Or.inl ⟨by kernel_rfl, fun W' hW => ?_⟩) S0 ?_
  · go_simp
  refine wpAnyH_take (i := 3) (v := .pointer (some ⟨q, 0, none⟩)) rfl (by kernel_rfl) (by kernel_rfl) (by kernel_rfl) (fun _ _ _ h => h) (Or.inl ⟨by kernel_rfl, fun W' hW => ?_⟩) S0 ?_
  · go_simp
  refine wpAnyH_take (i := 4) (v := .slice ka n kc) rfl (by kernel_rfl) (by kernel_rfl) (by kernel_rfl) (fun _ _ _ h => h) (Or.inl ⟨by kernel_rfl, fun W' hW => ?_⟩) S0 ?_
  · have e := hW.cell HCQ.out (fun f => f)
    go_simp
  refine wpAnyH_take (i := 5) (v := .int .i64 n) rfl (by kernel_rfl) (by kernel_rfl) (by kernel_rfl) (fun _ _ _ h => h) (Or.inl ⟨by kernel_rfl, fun W' hW => ?_⟩) S0 ?_
  · go_simp
  refine wpAnyH_all (rs := [1]) (by kernel_rfl) (by simp) ?_
  intro i hi
  obtain rfl : i = 1 := by simpa using hi
  have E1 := hideT (LN.out _ S0)
  unfold wpOp
  go_simp
  first | refine E1.out.mono ?_ | refine Or.inl (E1.out.mono ?_)
  rintro e W1 ⟨rfl, rfl⟩
  first | (change wpAnyH _ _ _ _ _ _ _ _ _) | refine ⟨S0, ?_⟩ | refine Or.inl ⟨S0, ?_⟩
  refine wpAnyH_all (rs := [6]) (by kernel_rfl) (by simp) ?_
  intro i hi
  obtain rfl : i = 6 := by simpa using hi
  unfold wpOp
  go_simp
  first | (change wpAnyH _ _ _ _ _ _ _ _ _) | (refine Or.inl ?_; change wpAnyH _ _ _ _ _ _ _ _ _) | refine Or.inl ⟨S0, ?_⟩ | refine ⟨S0, ?_⟩
  refine wpAnyH_all (rs := [7]) (by kernel_rfl) (by simp) ?_
  intro i hi
  obtain rfl : i = 7 := by simpa using hi
  unfold wpOp
  go_simp
  first | (change wpAnyH _ _ _ _ _ _ _ _ _) | (refine Or.inl ?_; change wpAnyH _ _ _ _ _ _ _ _ _) | refine Or.inl ⟨S0, ?_⟩ | refine ⟨S0, ?_⟩
  refine wpAnyH_done (by kernel_rfl) ?_ _
  have HF := hideT (HV.out.trans S0 (fun _ f => f.elim))
  clear S0
  go_wp2
  go_ret
  exact ⟨by simp, HF.out⟩
end Go.Proofs.Ytkgcafomlhfonaa.Tk
