import Derived.Test.YtohnkamobmkhkaaDoorVfe
namespace Go.Proofs.YtohnkamobmkhkaaDoor
open Go.ChangeShapes Go.WideShapes Go.ChangeAt Go.RowKit

set_option maxRecDepth 20000 in
set_option maxHeartbeats 8000000 in
theorem goodTables_any (p : Pg) (aA aC aN aD aO : Option Addr) (cA cC cN cD cO : Nat) (w : World) (hP : PgAt w p aA aC aN aD aO) (hO : p.Ok) (v : Bool) (hv : v = true ↔ TbOk p) :
    Calls Tryd.prog 24 #[.agg #[.slice aA p.av.length cA, .slice aC p.cu.length cC, .slice aN p.nr.length cN, .bool p.al, .slice aD p.dr.length cD, .slice aO p.co.length cO]] w fun e w' => e = .returned (.bool v) ∧ Kept (fun _ => False) w w' := by
  obtain ⟨l1, l2, l3, l4, l5⟩ := hO.len
  have KA := Kept.alloc w (.cells #[.slice aA p.av.length cA, .slice aC p.cu.length cC, .slice aN p.nr.length cN, .bool p.al, .slice aD p.dr.length cD, .slice aO p.co.length cO] 27)
  have HP := hideI (hP.kept KA)
  have HKA := hideI KA
  have HBX : Hid ((w.alloc (.cells #[.slice aA p.av.length cA, .slice aC p.cu.length cC, .slice aN p.nr.length cN, .bool p.al, .slice aD p.dr.length cD, .slice aO p.co.length cO] 27)).heap[w.heap.size]? = some (.cells #[.slice aA p.av.length cA, .slice aC p.cu.length cC, .slice aN p.nr.length cN, .bool p.al, .slice aD p.dr.length cD, .slice aO p.co.length cO] 27 (0, 0))) := hideI (heap_alloc_new w _)
  clear KA hP
  obtain ⟨b1, hb1⟩ := asB (AvOk p.av)
  obtain ⟨b2, hb2⟩ := asB (∀ c ∈ p.cu, CuOk p.av.length c)
  obtain ⟨b3, hb3⟩ := asB (∀ n ∈ p.nr, NrOk p.cu n)
  obtain ⟨b4, hb4⟩ := asB ((p.al = true → p.dr.length = 0) ∧ DrOk p.cu.length p.dr)
  have HV : Hid (v = (b1 && b2 && b3 && b4)) := hideI (by
    rw [Bool.eq_iff_iff, hv]
    simp only [Bool.and_eq_true]
    rw [hb1, hb2, hb3, hb4]
    unfold TbOk
    exact ⟨fun e => ⟨⟨⟨e.1, e.2.1⟩, e.2.2.1⟩, e.2.2.2⟩, fun e => ⟨e.1.1.1, e.1.1.2, e.1.2, e.2⟩⟩)
  clear hv
  obtain ⟨V, hV⟩ : ∃ V, V = w.alloc (.cells #[.slice aA p.av.length cA, .slice aC p.cu.length cC, .slice aN p.nr.length cN, .bool p.al, .slice aD p.dr.length cD, .slice aO p.co.length cO] 27) := ⟨_, rfl⟩
  rw [← hV] at HKA HP HBX
  have H1 := hideI (goodAvgs_any p.av aA cA V HP.out.av (by omega) b1 hb1)
  have H2 := hideI (goodCursors_any p aA aC aN aD aO cA cC cN cD cO V HP.out hO b2 hb2)
  have H3 := fun (W : World) (K : Kept (fun _ => False) V W) => hideI (goodNears_any p aA aC aN aD aO cA cC cN cD cO W (HP.out.kept K) hO b3 hb3)
  have H4 := fun (W : World) (K : Kept (fun _ => False) V W) => hideI (goodDrive_any p aA aC aN aD aO cA cC cN cD cO W (HP.out.kept K) hO b4 hb4)
  have HB6 := fun (W : World) (K : Kept (fun _ => False) V W) => hideI (box6 (K.heap HBX.out (fun f => f)))
  have HB0 := HB6 V (Kept.refl _ _)
  obtain ⟨z0, z1, z2, z3, z4, z5⟩ := HB0.out
  subst hV
  clear HP HBX hb1 hb2 hb3 hb4 hO l1 l2 l3 l4 l5 HB0
  generalize p.av.length = n1 at *
  generalize p.cu.length = n2 at *
  generalize p.nr.length = n3 at *
  generalize p.dr.length = n4 at *
  generalize p.co.length = n5 at *
  generalize p.al = al at *
  cases b1 with
  | false =>
    have hf : v = false := HV.out
    subst hf
    clear HV H2 H3 H4 HB6
    go_enter Tryd.func24, Tryd.ntmps24
    go_wp2_with (go_at_call 39; refine H1.out.mono ?_; clear H1; rintro e W ⟨rfl, rfl⟩)
    go_ret
    exact ⟨rfl, HKA.out⟩
  | true =>
    cases b2 with
    | false =>
      have hf : v = false := HV.out
      subst hf
      clear HV H3 H4 HB6
      go_enter Tryd.func24, Tryd.ntmps24
      go_wp2_with (first
        | (go_at_call 39; refine H1.out.mono ?_; clear H1; rintro e W ⟨rfl, rfl⟩)
        | (go_at_call 40; refine H2.out.mono ?_; clear H2; rintro e W2 ⟨rfl, K2⟩; have HK2 := hideI K2; clear K2))
      go_ret
      exact ⟨rfl, HKA.out.trans HK2.out (fun _ f => f.elim)⟩
    | true =>
      cases b3 with
      | false =>
        have hf : v = false := HV.out
        subst hf
        clear HV H4
        go_enter Tryd.func24, Tryd.ntmps24
        go_wp2_with (first
          | (go_at_call 39; refine H1.out.mono ?_; clear H1; rintro e W ⟨rfl, rfl⟩)
          | (go_at_call 40; refine H2.out.mono ?_; clear H2; rintro e W2 ⟨rfl, K2⟩; have HK2 := hideI K2; have HN := H3 W2 K2; obtain ⟨y0, y1, y2, y3, y4, y5⟩ := (HB6 W2 K2).out; clear K2 H3 HB6)
          | (go_at_call 41; refine HN.out.mono ?_; clear HN; rintro e W3 ⟨rfl, K3⟩; have HK3 := hideI (HK2.out.trans K3 (fun _ f => f.elim)); clear K3))
        go_ret
        exact ⟨rfl, HKA.out.trans HK3.out (fun _ f => f.elim)⟩
      | true =>
        have hf : v = b4 := HV.out
        subst hf
        clear HV
        go_enter Tryd.func24, Tryd.ntmps24
        go_wp2_with (first
          | (go_at_call 39; refine H1.out.mono ?_; clear H1; rintro e W ⟨rfl, rfl⟩)
          | (go_at_call 40; refine H2.out.mono ?_; clear H2; rintro e W2 ⟨rfl, K2⟩; have HK2 := hideI K2; have HN := H3 W2 K2; obtain ⟨y0, y1, y2, y3, y4, y5⟩ := (HB6 W2 K2).out; clear K2 H3)
          | (go_at_call 41; refine HN.out.mono ?_; clear HN; rintro e W3 ⟨rfl, K3⟩; have HK3 := hideI (HK2.out.trans K3 (fun _ f => f.elim)); have HD := H4 W3 HK3.out; obtain ⟨x0, x1, x2, x3, x4, x5⟩ := (HB6 W3 HK3.out).out; clear K3 H4 HB6)
          | (go_at_call 42; refine HD.out.mono ?_; clear HD; rintro e W4 ⟨rfl, K4⟩; have HK4 := hideI (HK3.out.trans K4 (fun _ f => f.elim)); clear K4))
        go_ret
        exact ⟨rfl, HKA.out.trans HK4.out (fun _ f => f.elim)⟩
end Go.Proofs.YtohnkamobmkhkaaDoor
