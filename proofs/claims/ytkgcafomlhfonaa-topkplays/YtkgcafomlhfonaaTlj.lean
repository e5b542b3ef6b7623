import Derived.Test.YtkgcafomlhfonaaTli
namespace Go.Proofs.Ytkgcafomlhfonaa.Tk
open Go.ChangeShapes Go.WideShapes Go.ChangeAt Go.RowKit

set_option maxRecDepth 20000 in
set_option maxHeartbeats 8000000 in
theorem step_hits {W : World} {p q : Nat} {k : Int} {v : Value} {K : List Ht} {ka : Option Addr} {kc : Nat} (which : Int) (h : Ht) (hs : StA W p q k v K ka kc) (hlim : K.length ≤ 8796093021952) : Calls Try.prog 11 #[.pointer (some ⟨p, 0, none⟩), .pointer (some ⟨q, 0, none⟩), .int .i64 k, opA 4 which h] W fun e w' => e = .returned (.bool true) ∧ Kept (fun _ => False) W w' := by
  obtain ⟨V, hV⟩ : ∃ V, V = W.alloc (.cells #[.int .i64 4, .int .i64 which, .int .i64 h.1, .int .u64 h.2] 31) := ⟨_, rfl⟩
  have kV : Kept (fun _ => False) W V := by rw [hV]; exact Kept.alloc _ _
  have HV := hideT kV
  have HT := hideT (fun U (hU : Kept (fun _ => False) V U) => hits_any (hs.keep.same (kV.trans hU (fun _ f => f.elim))) (by omega))
  have EQ := hideT (fun (U : World) (b : Option Addr) (d : Nat) (hU : Kept (fun _ => False) V U) (hb : HsAt U b K) => equal_same K b ka d kc U hb (hs.hs.same (kV.trans hU (fun _ f => f.elim))) (by omega))
  have cq := kV.cell ((cell_of_row _ _ _ _ _ _ hs.cell : W.cell? ⟨q, 0, none⟩ = _).trans rfl) (fun f => f)
  have HCQ := hideT (show V.cell? ⟨q, 0, none⟩ = some (.slice ka K.length kc) from cq)
  obtain ⟨n, hn⟩ : ∃ n, n = K.length := ⟨_, rfl⟩
  have HN := hideT hn
  rw [← hn] at HT EQ HCQ
  clear kV cq hn hs hlim
  unfold opA
  go_enter Try.func11, Try.ntmps11
  go_upto_region 14 with fail
  rw [← hV]
  clear hV
  have S0 : Kept (fun _ => False) V V.drew := Kept.drew V
  refine wp_region_held (S := fun W' => Kept (fun _ => False) V W') (by kernel_rfl) ?_
  change wpAnyH _ _ _ _ _ _ _ _ (World.drew _)
  refine wpAnyH_take (i := 0) (v := .pointer (some ⟨p, 0, none⟩)) rfl (by kernel_rfl) (by kernel_rfl) (by kernel_rfl) (fun _ _ _ h => h) (Or.inl ⟨by kernel_rfl, fun W' hW => ?_⟩) S0 ?_
  · go_simp
  refine wpAnyH_take (i := 2) (v := .pointer (some ⟨q, 0, none⟩)) rfl (by kernel_rfl) (by kernel_rfl) (by kernel_rfl) (fun _ _ _ h => h) (Or.inl ⟨by kernel_rfl, fun W' hW => ?_⟩) S0 ?_
  · go_simp
  refine wpAnyH_take (i := 3) (v := .pointer (some ⟨q, 0, none⟩)) rfl (by kernel_rfl) (by kernel_rfl) (by kernel_rfl) (fun _ _ _ h => h) (Or.inl ⟨by kernel_rfl, fun W' hW => ?_⟩) S0 ?_
  · go_simp
  refine wpAnyH_take (i := 4) (v := .slice ka n kc) rfl (by kernel_rfl) (by kernel_rfl) (by kernel_rfl) (fun _ _ _ h => h) (Or.inl ⟨by kernel_rfl, fun W' hW => ?_⟩) S0 ?_
  · have e := hW.cell HCQ.out (fun f => f)
    go_simp
  refine wpAnyH_all (rs := [1]) (by kernel_rfl) (by simp) ?_
  intro i hi
  obtain rfl : i = 1 := by simpa using hi
  have C1 := hideT (HT.out _ S0)
  unfold wpOp
  go_simp
  first | refine C1.out.mono ?_ | refine Or.inl (C1.out.mono ?_)
  rintro e W1 ⟨a1, c1, rfl, r1, k1'⟩
  have k1 := S0.trans k1' (fun _ f => f.elim)
  first | refine ⟨k1, ?_⟩ | refine Or.inl ⟨k1, ?_⟩
  refine wpAnyH_all (rs := [5]) (by kernel_rfl) (by simp) ?_
  intro i hi
  obtain rfl : i = 5 := by simpa using hi
  have C5 := hideT (EQ.out W1 a1 c1 k1 r1.hs)
  unfold wpOp
  go_simp
  first | refine C5.out.mono ?_ | refine Or.inl (C5.out.mono ?_)
  rintro e W2 ⟨rfl, k2'⟩
  have k2 := k1.trans k2' (fun _ f => f.elim)
  first | refine ⟨k2, ?_⟩ | refine Or.inl ⟨k2, ?_⟩
  refine wpAnyH_all (rs := [6]) (by kernel_rfl) (by simp) ?_
  intro i hi
  obtain rfl : i = 6 := by simpa using hi
  unfold wpOp
  go_simp
  first | (change wpAnyH _ _ _ _ _ _ _ _ _) | (refine Or.inl ?_; change wpAnyH _ _ _ _ _ _ _ _ _) | refine Or.inl ⟨k2, ?_⟩ | refine ⟨k2, ?_⟩
  refine wpAnyH_done (by kernel_rfl) ?_ _
  have HF := hideT (HV.out.trans k2 (fun _ f => f.elim))
  clear k2 k1 S0 r1
  go_wp2
  go_ret
  exact ⟨rfl, HF.out⟩
set_option maxRecDepth 20000 in
set_option maxHeartbeats 8000000 in
theorem step_none {W : World} {p q : Nat} {k : Int} (kind : Int) (hk1 : ¬ kind = 1) (hk2 : ¬ kind = 2) (hk3 : ¬ kind = 3) (hk4 : ¬ kind = 4) (which : Int) (h : Ht) : Calls Try.prog 11 #[.pointer (some ⟨p, 0, none⟩), .pointer (some ⟨q, 0, none⟩), .int .i64 k, opA kind which h] W fun e w' => e = .returned (.bool true) ∧ Kept (fun _ => False) W w' := by
  obtain ⟨V, hV⟩ : ∃ V, V = W.alloc (.cells #[.int .i64 kind, .int .i64 which, .int .i64 h.1, .int .u64 h.2] 31) := ⟨_, rfl⟩
  have kV : Kept (fun _ => False) W V := by rw [hV]; exact Kept.alloc _ _
  have HV := hideT kV
  clear kV
  unfold opA
  go_enter Try.func11, Try.ntmps11
  go_wp2
  go_ret
  rw [hV] at HV
  exact ⟨rfl, HV.out⟩
set_option maxRecDepth 20000 in
set_option maxHeartbeats 8000000 in
theorem step_worst {W : World} {p q : Nat} {k : Int} {v : Value} {K : List Ht} {ka : Option Addr} {kc : Nat} (which : Int) (h : Ht) (hs : StA W p q k v K ka kc) (hlim : K.length ≤ 8796093021952) : Calls Try.prog 11 #[.pointer (some ⟨p, 0, none⟩), .pointer (some ⟨q, 0, none⟩), .int .i64 k, opA 3 which h] W fun e w' => e = .returned (.bool true) ∧ Kept (fun _ => False) W w' := by
  obtain ⟨V, hV⟩ : ∃ V, V = W.alloc (.cells #[.int .i64 3, .int .i64 which, .int .i64 h.1, .int .u64 h.2] 31) := ⟨_, rfl⟩
  have kV : Kept (fun _ => False) W V := by rw [hV]; exact Kept.alloc _ _
  have HV := hideT kV
  have WO := hideT (worst_any (hs.keep.same kV) (by omega))
  have cq := kV.cell ((cell_of_row _ _ _ _ _ _ hs.cell : W.cell? ⟨q, 0, none⟩ = _).trans rfl) (fun f => f)
  have HCQ := hideT (show V.cell? ⟨q, 0, none⟩ = some (.slice ka K.length kc) from cq)
  obtain ⟨n, hn⟩ : ∃ n, n = K.length := ⟨_, rfl⟩
  have HN := hideT hn
  have HKS := hideT (hs.hs.same kV)
  by_cases hK : K = []
  · have hn0 : n = 0 := by rw [hn, hK]; rfl
    have HCQ0 := HCQ.out
    rw [← hn, hn0] at HCQ0
    rw [hK] at WO
    clear hs hlim cq HCQ hn HN hn0 HKS
    have cq2 := fun U (hU : Kept (fun _ => False) V U) => hU.cell HCQ0 (fun f => f)
    have HCQ2 := hideT cq2
    clear cq2 HCQ0 kV
    unfold opA
    go_enter Try.func11, Try.ntmps11
    go_upto_region 9 with fail
    rw [← hV]
    clear hV
    go_upto_region 10 with (go_at_call 27; refine WO.out.mono ?_; rintro e W1 ⟨rfl, k1⟩)
    have ka2 := Kept.alloc W1 (.cells #[.int .i64 0, .int .u64 0] 29)
    have c3 := HCQ2.out _ (k1.trans ka2 (fun _ f => f.elim))
    have HF := hideT (HV.out.trans (k1.trans ka2 (fun _ f => f.elim)) (fun _ f => f.elim))
    clear k1 ka2
    go_wp2
    go_ret
    exact ⟨by simp, HF.out⟩
  · have hn0 : 0 < n := by rw [hn]; exact List.length_pos_iff.2 hK
    obtain ⟨i, hi⟩ : ∃ i, i = n - 1 := ⟨_, rfl⟩
    have hiK : i < K.length := by rw [← hn]; omega
    obtain ⟨y, hy⟩ : ∃ y, y = K[i] := ⟨_, rfl⟩
    have hgl : K.getLast?.getD (0, 0) = y := by
      have : K.getLast? = some K[i] := by
        rw [List.getLast?_eq_getElem?, List.getElem?_eq_getElem (by omega)]
        congr 2
        omega
      rw [this, hy]; rfl
    rw [hgl, decide_eq_true hK] at WO
    obtain ⟨b, o, rfl, hc⟩ := HKS.out hK
    obtain ⟨x0, x1⟩ := hc i hiK
    rw [← hy] at x0 x1
    have HY := hideT (And.intro x0 x1)
    have HCQ1 := HCQ.out
    rw [← hn] at HCQ1
    have HCQ2 := hideT HCQ1
    have hnb : n ≤ 8796093021952 := by omega
    have eq1 : (n : Int) - 1 = (i : Int) := by omega
    have hin : (i : Int) < (n : Int) := by omega
    have hnz : ¬ (n : Int) = 0 := by omega
    clear hs hlim cq HCQ hn HN hi hiK hy hgl hc x0 x1 HCQ1 hK HKS kV
    unfold opA
    go_enter Try.func11, Try.ntmps11
    go_upto_region 9 with fail
    rw [← hV]
    clear hV
    go_upto_region 10 with (go_at_call 27; refine WO.out.mono ?_; rintro e W1 ⟨rfl, k1⟩)
    have ka2 := Kept.alloc W1 (.cells #[.int .i64 y.1, .int .u64 y.2] 29)
    have c3 := (k1.trans ka2 (fun _ f => f.elim)).cell HCQ2.out (fun f => f)
    have x0 := (k1.trans ka2 (fun _ f => f.elim)).cell HY.out.1 (fun f => f)
    have x1 := (k1.trans ka2 (fun _ f => f.elim)).cell HY.out.2 (fun f => f)
    have HF := hideT (show ∀ nq, Kept (fun _ => False) W ((W1.alloc (.cells #[.int .i64 y.1, .int .u64 y.2] 29)).drewN nq) from fun nq => HV.out.trans ((k1.trans ka2 (fun _ f => f.elim)).trans (gw_kept ((Gw.refl _).drewN nq)) (fun _ f => f.elim)) (fun _ f => f.elim))
    clear k1 ka2
    go_wp2
    go_quiet (fail)
    go_wp2
    go_ret
    exact ⟨by simp, HF.out _⟩
end Go.Proofs.Ytkgcafomlhfonaa.Tk
