import Derived.Test.YtiebmmpnmklpnaaDoorVrd
import Derived.Test.YtiebmmpnmklpnaaDoorMrg2
import Derived.Test.YtiebmmpnmklpnaaDoorMrg15
namespace Go.Proofs.YtiebmmpnmklpnaaDoor
open Go.ChangeShapes Go.WideShapes Go.ChangeAt Go.RowKit

/-- What the document's Heights answers. -/
def rhP (w : World) (p : Pg) (e : Ending) (w' : World) : Prop :=
  (∀ L, Vok p L → ∃ a c, e = .returned (.tuple #[.slice a L.length c, .int .i64 0]) ∧ IntsAt w' a (hL L)) ∧ ((¬ ∃ L, Vok p L) → e = .returned (.tuple #[.slice none 0 0, .int .i64 21])) ∧ Kept (fun _ => False) w w'
theorem rhP_bad {w : World} {p : Pg} {e : Ending} {w' : World} (h : ¬ ∃ L, Vok p L) (he : e = .returned (.tuple #[.slice none 0 0, .int .i64 21])) (k : Kept (fun _ => False) w w') : rhP w p e w' :=
  ⟨fun L hv => absurd ⟨L, hv⟩ h, fun _ => he, k⟩
theorem rhP_good {w : World} {p : Pg} {e : Ending} {w' : World} {L : List In} {a : Option Addr} {c n : Nat} (h : Vok p L) (hn : n = L.length) (he : e = .returned (.tuple #[.slice a n c, .int .i64 0])) (hi : IntsAt w' a (hL L)) (k : Kept (fun _ => False) w w') : rhP w p e w' := by
  subst hn
  exact ⟨fun M hv => by obtain rfl := h.uniq hv; exact ⟨a, c, he, hi⟩, fun f => absurd ⟨L, h⟩ f, k⟩
set_option maxRecDepth 20000 in
set_option maxHeartbeats 8000000 in
theorem rheights_any (p : Pg) (aA aC aN aD aO : Option Addr) (cA cC cN cD cO : Nat) (w : World) (hP : PgAt w p aA aC aN aD aO) (hO : p.Ok) :
    Calls Tryd.prog 11 #[.agg #[.slice aA p.av.length cA, .slice aC p.cu.length cC, .slice aN p.nr.length cN, .bool p.al, .slice aD p.dr.length cD, .slice aO p.co.length cO]] w (rhP w p) := by
  have KA := Kept.alloc w (.cells #[.slice aA p.av.length cA, .slice aC p.cu.length cC, .slice aN p.nr.length cN, .bool p.al, .slice aD p.dr.length cD, .slice aO p.co.length cO] 27)
  have HBX : Hid ((w.alloc (.cells #[.slice aA p.av.length cA, .slice aC p.cu.length cC, .slice aN p.nr.length cN, .bool p.al, .slice aD p.dr.length cD, .slice aO p.co.length cO] 27)).heap[w.heap.size]? = some (.cells #[.slice aA p.av.length cA, .slice aC p.cu.length cC, .slice aN p.nr.length cN, .bool p.al, .slice aD p.dr.length cD, .slice aO p.co.length cO] 27 (0, 0))) := hideI (heap_alloc_new w _)
  obtain ⟨V, hV⟩ : ∃ V, V = w.alloc (.cells #[.slice aA p.av.length cA, .slice aC p.cu.length cC, .slice aN p.nr.length cN, .bool p.al, .slice aD p.dr.length cD, .slice aO p.co.length cO] 27) := ⟨_, rfl⟩
  rw [← hV] at KA HBX
  have HP := hideI (hP.kept KA)
  have HKA := hideI KA
  have HO := hideI hO
  have HB6 := fun (W : World) (K : Kept (fun _ => False) V W) => hideI (box6 (K.heap HBX.out (fun f => f)))
  obtain ⟨b1, hb1⟩ := asB (TbOk p)
  have HB1 : Hid (IsB b1 (TbOk p)) := hideI hb1
  have H1 := fun (W : World) (K : Kept (fun _ => False) V W) => hideI (rtables_any p aA aC aN aD aO cA cC cN cD cO W (HP.out.kept K) hO b1 hb1)
  have H2 := hideI (rdecode_any p.co aO cO V HP.out.co hO.co (by have := hO.len; omega))
  obtain ⟨z0, z1, z2, z3, z4, z5⟩ := (HB6 V (Kept.refl _ _)).out
  clear hP KA hO hb1
  cases hd : dcI p.co with
  | none =>
    rw [hd] at H2
    have HV : Hid (¬ ∃ L, Vok p L) := hideI (fun hx => by obtain ⟨L, q⟩ := hx; have e := q.dc; rw [hd] at e; cases e)
    subst hV
    clear HB1 HBX hd H1 HB6
    go_enter Tryd.func11, Tryd.ntmps11
    go_wp2_with (go_at_call 24; refine H2.out.mono ?_; clear H2; rintro e W2 ⟨h1, -, K2⟩; have he := h1 rfl; subst he; have HK2 := hideI K2; clear K2 h1)
    go_ret2
    exact rhP_bad HV.out rfl (HKA.out.trans HK2.out (fun _ f => f.elim))
  | some L =>
    obtain ⟨f1, f2, f3⟩ := dcI_form p.co.length p.co L (Nat.le_refl _) HO.out.co hd
    have HLO := hideI f2
    have HLX : Hid (∀ x ∈ L, 0 ≤ x.op ∧ x.op < 17) := hideI (fun x hx => isO_iff.1 (okI_isO (f3 x hx)))
    have hl26 : L.length ≤ 67108864 := by
      have q1 := ibL_ge L
      rw [f1] at q1
      have q2 := HO.out.len
      omega
    have HL26 := hideI hl26
    have HDD := hideI hd
    have HVN : Hid (¬ (TbOk p ∧ Gd p L) → ¬ ∃ M, Vok p M) := hideI (fun h hx => h (by obtain ⟨M, q⟩ := hx; have e := q.dc; rw [HDD.out] at e; obtain rfl := Option.some.inj e; exact ⟨q.tb, q.gd⟩))
    have HVY : Hid (TbOk p → Gd p L → Vok p L) := hideI (fun t h => ⟨t, HDD.out, h⟩)
    rw [hd] at H2
    obtain ⟨n, hn⟩ : ∃ n, n = L.length := ⟨_, rfl⟩
    have HN := hideI hn
    have hl27 : n ≤ 67108864 := by omega
    clear f1 f2 f3 hl26 hd hn
    by_cases hn0 : n = 0
    · have HV := hideI (HVN.out (fun h => by have := h.2.en.1; rw [← HN.out] at this; omega))
      subst hV
      subst hn0
      clear HVN HVY HB1 HBX H1 HB6
      go_enter Tryd.func11, Tryd.ntmps11
      go_wp2_with (go_at_call 24; refine H2.out.mono ?_; clear H2; rintro e W2 ⟨-, h2, K2⟩; obtain ⟨aL, cL, he, -⟩ := h2 L rfl; rw [← HN.out] at he; subst he; have HK2 := hideI K2; clear K2 h2)
      go_ret2
      exact rhP_bad HV.out rfl (HKA.out.trans HK2.out (fun _ f => f.elim))
    · have hn1 : (n : Int) ≠ 0 := by omega
      have hn2 : ((n : Int) == 0) = false := by rw [beq_eq_false_iff_ne]; exact hn1
      have HN1 : Hid (1 ≤ n) := hideI (by omega)
      cases b1 with
      | false =>
        have HV := hideI (HVN.out (fun h => HB1.out.no h.1))
        subst hV
        clear HVN HVY HB1 HBX hn0
        go_enter Tryd.func11, Tryd.ntmps11
        go_wp2_with (first
          | (go_at_call 24; refine H2.out.mono ?_; clear H2; rintro e W2 ⟨-, h2, K2⟩; obtain ⟨aL, cL, he, -⟩ := h2 L rfl; rw [← HN.out] at he; subst he; have HK2 := hideI K2; have HT := H1 W2 K2; obtain ⟨y0, y1, y2, y3, y4, y5⟩ := (HB6 W2 K2).out; clear K2 h2 H1 HB6)
          | (go_at_call 25; refine HT.out.mono ?_; clear HT; rintro e W3 ⟨rfl, K3⟩; have HK3 := hideI (HK2.out.trans K3 (fun _ f => f.elim)); clear K3))
        go_ret2
        exact rhP_bad HV.out rfl (HKA.out.trans HK3.out (fun _ f => f.elim))
      | true =>
        have HTB := hideI HB1.out.yes
        have H3 := fun (aL : Option Addr) (cL : Nat) (W : World) (h : InsAt W aL L) => hideI (rwalk_any p L aA aC aN aD aO aL cA cC cN cD cO cL W HO.out h HL26.out (by rw [← HN.out]; exact HN1.out) HLX.out HLO.out)
        rw [← HN.out] at H3
        clear HB1 hn0
        by_cases hg : Gd p L
        · have HG := hideI hg
          have HV := hideI (HVY.out HTB.out hg)
          subst hV
          clear HVN HVY HBX hg
          go_enter Tryd.func11, Tryd.ntmps11
          go_wp2_with (first
            | (go_at_call 24; refine H2.out.mono ?_; clear H2; rintro e W2 ⟨-, h2, K2⟩; obtain ⟨aL, cL, he, ho⟩ := h2 L rfl; rw [← HN.out] at he; subst he; have HK2 := hideI K2; have HI2 := hideI (ins_of_own ho); have HT := H1 W2 K2; obtain ⟨y0, y1, y2, y3, y4, y5⟩ := (HB6 W2 K2).out; clear K2 h2 H1 ho)
            | (go_at_call 25; refine HT.out.mono ?_; clear HT; rintro e W3 ⟨rfl, K3⟩; have HK3 := hideI (HK2.out.trans K3 (fun _ f => f.elim)); have HW := H3 aL cL W3 (HI2.out.kept K3 (fun _ _ f => f)); obtain ⟨v0, v1, v2, v3, v4, v5⟩ := (HB6 W3 HK3.out).out; clear K3 HB6 H3)
            | (go_at_call 26; refine HW.out.mono ?_; clear HW; rintro e W4 ⟨h4, -, K4⟩; obtain ⟨aH, cH, he, hi⟩ := h4 HG.out; rw [← HN.out] at he; subst he; have HIH := hideI hi; have HK4 := hideI (HK3.out.trans K4 (fun _ f => f.elim)); clear K4 h4 hi))
          go_ret2
          exact rhP_good HV.out HN.out rfl HIH.out (HKA.out.trans HK4.out (fun _ f => f.elim))
        · have HG := hideI hg
          have HV := hideI (HVN.out (fun h => hg h.2))
          subst hV
          clear HVN HVY HBX hg
          go_enter Tryd.func11, Tryd.ntmps11
          go_wp2_with (first
            | (go_at_call 24; refine H2.out.mono ?_; clear H2; rintro e W2 ⟨-, h2, K2⟩; obtain ⟨aL, cL, he, ho⟩ := h2 L rfl; rw [← HN.out] at he; subst he; have HK2 := hideI K2; have HI2 := hideI (ins_of_own ho); have HT := H1 W2 K2; obtain ⟨y0, y1, y2, y3, y4, y5⟩ := (HB6 W2 K2).out; clear K2 h2 H1 ho)
            | (go_at_call 25; refine HT.out.mono ?_; clear HT; rintro e W3 ⟨rfl, K3⟩; have HK3 := hideI (HK2.out.trans K3 (fun _ f => f.elim)); have HW := H3 aL cL W3 (HI2.out.kept K3 (fun _ _ f => f)); obtain ⟨v0, v1, v2, v3, v4, v5⟩ := (HB6 W3 HK3.out).out; clear K3 HB6 H3)
            | (go_at_call 26; refine HW.out.mono ?_; clear HW; rintro e W4 ⟨-, h4, K4⟩; have he := h4 HG.out; subst he; have HK4 := hideI (HK3.out.trans K4 (fun _ f => f.elim)); clear K4 h4))
          go_ret2
          exact rhP_bad HV.out rfl (HKA.out.trans HK4.out (fun _ f => f.elim))
end Go.Proofs.YtiebmmpnmklpnaaDoor
namespace Go.Proofs.YtiebmmpnmklpnaaDoor
open Go.ChangeShapes Go.WideShapes Go.ChangeAt Go.RowKit

/-- What the document's Check answers. -/
def rkP (w : World) (p : Pg) (e : Ending) (w' : World) : Prop :=
  (∀ L, Vok p L → e = .returned (.tuple #[.agg #[.int .i64 L.length, .int .i64 (mxL (hL L))], .int .i64 0])) ∧ ((¬ ∃ L, Vok p L) → e = .returned (.tuple #[.agg #[.int .i64 0, .int .i64 0], .int .i64 21])) ∧ Kept (fun _ => False) w w'
theorem rkP_bad {w : World} {p : Pg} {e : Ending} {w' : World} (h : ¬ ∃ L, Vok p L) (he : e = .returned (.tuple #[.agg #[.int .i64 0, .int .i64 0], .int .i64 21])) (k : Kept (fun _ => False) w w') : rkP w p e w' :=
  ⟨fun L hv => absurd ⟨L, hv⟩ h, fun _ => he, k⟩
theorem rkP_good {w : World} {p : Pg} {e : Ending} {w' : World} {L : List In} {n : Nat} {m : Int} (h : Vok p L) (hn : n = L.length) (hm : m = mxL (hL L)) (he : e = .returned (.tuple #[.agg #[.int .i64 n, .int .i64 m], .int .i64 0])) (k : Kept (fun _ => False) w w') : rkP w p e w' := by
  subst hn hm
  exact ⟨fun M hv => by obtain rfl := h.uniq hv; exact he, fun f => absurd ⟨L, h⟩ f, k⟩
set_option maxRecDepth 20000 in
set_option maxHeartbeats 8000000 in
theorem rcheck_any (p : Pg) (aA aC aN aD aO : Option Addr) (cA cC cN cD cO : Nat) (w : World) (hP : PgAt w p aA aC aN aD aO) (hO : p.Ok) :
    Calls Tryd.prog 9 #[.agg #[.slice aA p.av.length cA, .slice aC p.cu.length cC, .slice aN p.nr.length cN, .bool p.al, .slice aD p.dr.length cD, .slice aO p.co.length cO]] w (rkP w p) := by
  have KA := Kept.alloc w (.cells #[.slice aA p.av.length cA, .slice aC p.cu.length cC, .slice aN p.nr.length cN, .bool p.al, .slice aD p.dr.length cD, .slice aO p.co.length cO] 27)
  have KB := KA.trans (Kept.alloc _ (.cells #[.int .i64 0, .int .i64 0] 31)) (fun _ f => f.elim)
  have HBX := heap_alloc_new (w.alloc (.cells #[.slice aA p.av.length cA, .slice aC p.cu.length cC, .slice aN p.nr.length cN, .bool p.al, .slice aD p.dr.length cD, .slice aO p.co.length cO] 27)) (.cells #[.int .i64 0, .int .i64 0] 31 (0, 0))
  have hsz : (w.alloc (.cells #[.slice aA p.av.length cA, .slice aC p.cu.length cC, .slice aN p.nr.length cN, .bool p.al, .slice aD p.dr.length cD, .slice aO p.co.length cO] 27)).heap.size = w.heap.size + 1 := by simp
  rw [hsz] at HBX
  have HH := hideI (rheights_any p aA aC aN aD aO cA cC cN cD cO _ (hP.kept KB) hO)
  have HKB := hideI KB
  have HBX := hideI HBX
  clear KA KB hP hsz
  by_cases hv : ∃ L, Vok p L
  · obtain ⟨L, hv⟩ := hv
    have HV := hideI hv
    obtain ⟨n, hn⟩ : ∃ n, n = L.length := ⟨_, rfl⟩
    have HN := hideI hn
    have hln : n ≤ 1099511627776 := by
      obtain ⟨f1, -, -⟩ := dcI_form p.co.length p.co L (Nat.le_refl _) hO.co hv.dc
      have q1 := ibL_ge L
      have q2 := hO.len
      rw [f1] at q1
      omega
    clear hv hn hO
    go_enter Tryd.func9, Tryd.ntmps9
    go_wp2_with (go_at_call 11; refine HH.out.mono ?_; clear HH; rintro e W1 ⟨h1, -, K1⟩; obtain ⟨aH, cH, he, hg⟩ := h1 L HV.out; rw [← HN.out] at he; subst he; have HI := hideI hg; have HK1 := hideI (HKB.out.trans K1 (fun _ f => f.elim)); have HB1 := hideI (K1.heap HBX.out (fun f => f)); clear K1 h1 hg HBX)
    go_loopw [6, 7] (fun v6 v7 wr => ∃ (k : Nat) (m : Int), k ≤ n ∧ v6 = .int .i64 m ∧ v7 = .int .i64 k ∧ Hid (m = mxL ((hL L).take k)) ∧ wr = W1) (fun _ v7 _ => n - (intOf v7).toNat)
    case atStart => exact ⟨0, 0, by omega, rfl, rfl, hideI (by simp [mxL]), rfl⟩
    case round =>
      obtain ⟨k, m, hk, rfl, rfl, HM, rfl⟩ := hrel
      by_cases hlt : k < n
      · have hkk : (k : Int) < (n : Int) := by omega
        have hkl : k < (hL L).length := by rw [hL_len, ← HN.out]; exact hlt
        obtain ⟨b', off', ea, hc⟩ := HI.out.get (k := k) hkl
        subst ea
        obtain ⟨x, hx⟩ : ∃ x, x = (hL L)[k]?.getD 0 := ⟨_, rfl⟩
        rw [← hx] at hc
        obtain ⟨m', hm'⟩ : ∃ m', m' = max m x := ⟨_, rfl⟩
        have HM2 : Hid (m' = mxL ((hL L).take (k + 1))) := hideI (by
          rw [mx_take hkl, ← HM.out, hm']
          rw [List.getElem?_eq_getElem hkl, Option.getD_some] at hx
          rw [← hx])
        have HMM : Hid ((x > m → m' = x) ∧ (¬ x > m → m' = m)) := hideI (by rw [hm']; omega)
        clear hx hm' HM hkl
        by_cases hgt : x > m
        · have e := HMM.out.1 hgt
          have HE := hideI e
          clear e HMM
          go_wp2
          go_roundw
          case rel => exact ⟨k + 1, x, by omega, rfl, by go_num, hideI (by rw [← HE.out]; exact HM2.out), trivial⟩
          case measure => simp [intOf]; omega
        · have e := HMM.out.2 hgt
          have HE := hideI e
          clear e HMM
          go_wp2
          go_roundw
          case rel => exact ⟨k + 1, m, by omega, rfl, by go_num, hideI (by rw [← HE.out]; exact HM2.out), trivial⟩
          case measure => simp [intOf]; omega
      · obtain rfl : k = n := by omega
        have hkk : ¬ (k : Int) < (k : Int) := by omega
        have HMF : Hid (m = mxL (hL L)) := hideI (by have e := HM.out; rwa [List.take_of_length_le (by rw [hL_len, ← HN.out]; omega)] at e)
        obtain ⟨⟨q0, q1⟩, q2⟩ := pf_cells HB1.out
        clear HM hlt
        go_wp2
        refine bodyPost_ret (results_cellI rfl _ _ _ (w.heap.size + 1) _ rfl (load_pf (pf_put2 HB1.out))) rfl ?_
        exact rkP_good HV.out HN.out HMF.out rfl (kept_put2 HK1.out (by omega))
  · have HV := hideI hv
    clear hv hO
    go_enter Tryd.func9, Tryd.ntmps9
    go_wp2_with (go_at_call 11; refine HH.out.mono ?_; clear HH; rintro e W1 ⟨-, h2, K1⟩; have he := h2 HV.out; subst he; have HK1 := hideI (HKB.out.trans K1 (fun _ f => f.elim)); have HB1 := hideI (K1.heap HBX.out (fun f => f)); obtain ⟨⟨q0, q1⟩, q2⟩ := pf_cells HB1.out; clear K1 h2 HBX)
    refine bodyPost_ret (results_cellI rfl _ _ _ (w.heap.size + 1) _ rfl (load_pf (pf_put2 HB1.out))) rfl ?_
    exact rkP_bad HV.out rfl (kept_put2 HK1.out (by omega))
end Go.Proofs.YtiebmmpnmklpnaaDoor
