import Derived.Test.YtohnkamobmkhkaaDoorVfm
namespace Go.Proofs.YtohnkamobmkhkaaDoor
open Go.ChangeShapes Go.WideShapes Go.ChangeAt Go.RowKit

theorem pf_cells {W : World} {g : Nat} {x0 x1 : Value} {t : TypeId} (z : W.heap[g]? = some (.cells #[x0, x1] t (0, 0))) : (W.cell? ⟨g, 0, none⟩ = some x0 ∧ W.cell? ⟨g, 1, none⟩ = some x1) ∧ (∀ i, W.frozen? ⟨g, i, none⟩ = false) := by
  refine ⟨⟨?_, ?_⟩, fun i => ?_⟩ <;> simp [World.cell?, World.frozen?, z]
set_option maxRecDepth 20000 in
set_option maxHeartbeats 8000000 in
theorem check_any (p : Pg) (aA aC aN aD aO : Option Addr) (cA cC cN cD cO : Nat) (a0 a1 ac : Addr) (w : World) (hP : PgAt w p aA aC aN aD aO) (hO : p.Ok) (hE : VE w a0 a1 ac) :
    Calls Tryd.prog 10 #[.agg #[.slice aA p.av.length cA, .slice aC p.cu.length cC, .slice aN p.nr.length cN, .bool p.al, .slice aD p.dr.length cD, .slice aO p.co.length cO]] w (ckP w p ac) := by
  have KA := Kept.alloc w (.cells #[.slice aA p.av.length cA, .slice aC p.cu.length cC, .slice aN p.nr.length cN, .bool p.al, .slice aD p.dr.length cD, .slice aO p.co.length cO] 27)
  have KB := KA.trans (Kept.alloc _ (.cells #[.int .i64 0, .int .i64 0] 31)) (fun _ f => f.elim)
  have HBX := heap_alloc_new (w.alloc (.cells #[.slice aA p.av.length cA, .slice aC p.cu.length cC, .slice aN p.nr.length cN, .bool p.al, .slice aD p.dr.length cD, .slice aO p.co.length cO] 27)) (.cells #[.int .i64 0, .int .i64 0] 31 (0, 0))
  have hsz : (w.alloc (.cells #[.slice aA p.av.length cA, .slice aC p.cu.length cC, .slice aN p.nr.length cN, .bool p.al, .slice aD p.dr.length cD, .slice aO p.co.length cO] 27)).heap.size = w.heap.size + 1 := by simp
  rw [hsz] at HBX
  have HH := hideI (heights_any p aA aC aN aD aO cA cC cN cD cO a0 a1 ac _ (hP.kept KB) hO (hE.kept KB))
  have HKB := hideI KB
  have HBX := hideI HBX
  obtain ⟨l1, l2, l3, l4, l5⟩ := hO.len
  have HBY := hO.co
  clear KA KB hP hO hE hsz l1 l2 l3 l4
  by_cases hv : ∃ L, Vok p L
  · obtain ⟨L, hv⟩ := hv
    have HV := hideI hv
    obtain ⟨n, hn⟩ : ∃ n, n = L.length := ⟨_, rfl⟩
    have HN := hideI hn
    obtain ⟨m, hm⟩ : ∃ m, m = mxL (hL L) := ⟨_, rfl⟩
    have HM := hideI hm
    have hln : n ≤ 1099511627776 := by
      obtain ⟨f1, -, -⟩ := dcI_form p.co.length p.co L (Nat.le_refl _) HBY hv.dc
      have q1 := ibL_ge L
      rw [f1] at q1
      omega
    have hn0 : 1 ≤ n := by rw [hn]; exact hv.gd.en.1
    have HMX := fun (a : Option Addr) (c : Nat) (W : World) (h : IntsAt W a (hL L)) => hideI (max_any (hL L) a c W h (by rw [hL_len, ← HN.out]; exact hln) (by intro e; have := hL_len L; rw [e] at this; simp at this; omega) (hL_nn L))
    rw [hL_len, ← hn, ← hm] at HMX
    clear hv hn hm HBY l5
    go_enter Tryd.func10, Tryd.ntmps10
    go_wp2_with (first
      | (go_at_call 12; refine HH.out.mono ?_; clear HH; rintro e W1 ⟨h1, -, K1⟩; obtain ⟨aH, cH, he, hg⟩ := h1 L HV.out; rw [← HN.out] at he hg; subst he; have HK1 := hideI (HKB.out.trans K1 (fun _ f => f.elim)); have HB1 := hideI (K1.heap HBX.out (fun f => f)); have HX := HMX aH cH W1 (gro_ints hg (by rw [hL_len]; exact HN.out)); clear K1 h1 hg HMX HBX)
      | (go_at_call 23; refine HX.out.mono ?_; clear HX; rintro e W2 ⟨rfl, rfl⟩; obtain ⟨⟨q0, q1⟩, q2⟩ := pf_cells HB1.out))
    refine bodyPost_ret (results_cellI rfl _ _ _ (w.heap.size + 1) _ rfl (load_pf (pf_put2 HB1.out))) rfl ?_
    exact ckP_good HV.out HN.out HM.out rfl (kept_put2 HK1.out (by omega))
  · have HV := hideI hv
    clear hv HBY l5
    go_enter Tryd.func10, Tryd.ntmps10
    go_wp2_with (go_at_call 12; refine HH.out.mono ?_; clear HH; rintro e W1 ⟨-, h2, K1⟩; have he := h2 HV.out; unfold errV at he; subst he; have HK1 := hideI (HKB.out.trans K1 (fun _ f => f.elim)); have HB1 := hideI (K1.heap HBX.out (fun f => f)); obtain ⟨⟨q0, q1⟩, q2⟩ := pf_cells HB1.out; clear K1 h2 HBX)
    refine bodyPost_ret (results_cellI rfl _ _ _ (w.heap.size + 1) _ rfl (load_pf (pf_put2 HB1.out))) rfl ?_
    exact ckP_bad HV.out rfl (kept_put2 HK1.out (by omega))
end Go.Proofs.YtohnkamobmkhkaaDoor
