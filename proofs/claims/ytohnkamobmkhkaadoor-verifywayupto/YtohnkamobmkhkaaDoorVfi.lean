import Derived.Test.YtohnkamobmkhkaaDoorVfh
namespace Go.Proofs.YtohnkamobmkhkaaDoor
open Go.ChangeShapes Go.WideShapes Go.ChangeAt Go.RowKit

set_option maxRecDepth 20000 in
set_option maxHeartbeats 8000000 in
theorem goodOperands_any (p : Pg) (L : List In) (aA aC aN aD aO aL : Option Addr) (cA cC cN cD cO cL : Nat) (w : World) (hO : p.Ok) (hLO : ∀ x ∈ L, x.Ok) (hL : InsAt w aL L) (hl : L.length ≤ 1099511627776) (v : Bool) (hv : v = true ↔ PaOk p L) :
    Calls Tryd.prog 26 #[.agg #[.slice aA p.av.length cA, .slice aC p.cu.length cC, .slice aN p.nr.length cN, .bool p.al, .slice aD p.dr.length cD, .slice aO p.co.length cO], .slice aL L.length cL] w fun e w' => e = .returned (.bool v) ∧ Kept (fun _ => False) w w' := by
  have KA := Kept.alloc w (.cells #[.slice aA p.av.length cA, .slice aC p.cu.length cC, .slice aN p.nr.length cN, .bool p.al, .slice aD p.dr.length cD, .slice aO p.co.length cO] 27)
  have HL : Hid (InsAt _ aL L) := hideI (hL.kept KA (fun _ _ f => f))
  have HKA := hideI KA
  have HLO := hideI hLO
  have HV := hideI hv
  have HBX : Hid ((w.alloc (.cells #[.slice aA p.av.length cA, .slice aC p.cu.length cC, .slice aN p.nr.length cN, .bool p.al, .slice aD p.dr.length cD, .slice aO p.co.length cO] 27)).heap[w.heap.size]? = some (.cells #[.slice aA p.av.length cA, .slice aC p.cu.length cC, .slice aN p.nr.length cN, .bool p.al, .slice aD p.dr.length cD, .slice aO p.co.length cO] 27 (0, 0))) := hideI (heap_alloc_new w _)
  have CG := fun (x : In) (m : Nat) (b : Bool) (W : World) => hideI (goodOperand_any p x m (.slice aA p.av.length cA) (.slice aC p.cu.length cC) (.slice aN p.nr.length cN) (.bool p.al) (.slice aD p.dr.length cD) (.slice aO p.co.length cO) aA aC aN cA cC cN W rfl rfl rfl hO)
  clear KA hL hLO hv hO
  obtain ⟨n, hn⟩ : ∃ n, n = L.length := ⟨_, rfl⟩
  rw [← hn] at hl ⊢
  have HN := hideI hn
  clear hn
  generalize p.av.length = n1 at *
  generalize p.cu.length = n2 at *
  generalize p.nr.length = n3 at *
  generalize p.dr.length = n4 at *
  generalize p.co.length = n5 at *
  generalize p.al = al at *
  go_enter Tryd.func26, Tryd.ntmps26
  go_wp2
  obtain ⟨V, hV⟩ : ∃ V, V = w.alloc (.cells #[.slice aA n1 cA, .slice aC n2 cC, .slice aN n3 cN, .bool al, .slice aD n4 cD, .slice aO n5 cO] 27) := ⟨_, rfl⟩
  rw [← hV] at HKA HL HBX ⊢
  clear hV
  go_loopw [9] (fun v9 wr => ∃ k : Nat, k ≤ n ∧ v9 = .int .i64 k ∧ Hid (∀ i (hi : i < L.length), i < k → OpOk p L[i] (L.length - 1 - i)) ∧ Hid (Kept (fun _ => False) V wr)) (fun v9 _ => n - (intOf v9).toNat)
  case atStart => exact ⟨0, by omega, rfl, hideI (fun i _ h => by omega), hideI (Kept.refl _ _)⟩
  case round =>
    obtain ⟨k, hk, rfl, HA, HK⟩ := hrel
    by_cases hlt : k < n
    · have hkl : k < L.length := by rw [← HN.out]; exact hlt
      have hkk : (k : Int) < (n : Int) := by omega
      obtain ⟨b, off, rfl, hc⟩ := HL.out (by intro e; rw [e] at hkl; simp at hkl)
      obtain ⟨x0, x1, x2⟩ := hc k hkl
      have y0 := HK.out.cell x0 (fun f => f)
      have y1 := HK.out.cell x1 (fun f => f)
      have y2 := HK.out.cell x2 (fun f => f)
      have HS : Hid (OpOk p L[k] (n - 1 - k) → ∀ i (hi : i < L.length), i < k + 1 → OpOk p L[i] (L.length - 1 - i)) := hideI (fun e i hi hik => by
        by_cases hkj : i = k
        · subst hkj; rw [← HN.out]; exact e
        · exact HA.out i hi (by omega))
      have HB : Hid (¬ OpOk p L[k] (n - 1 - k) → v = false) := hideI (fun e => isB_f HV.out (fun f => e (by have := f k hkl; rw [← HN.out] at this; exact this)))
      have hxo := HLO.out L[k] (List.getElem_mem hkl)
      generalize L[k] = x at *
      obtain ⟨bb, hbb⟩ := asB (OpOk p x (n - 1 - k))
      have CGx := fun W => hideI ((CG x (n - 1 - k) bb W).out hxo (by omega) bb hbb)
      rw [show (((n - 1 - k : Nat)) : Int) = (n : Int) - 1 - (k : Int) by omega] at CGx
      have HKx := hideI (HK.out.trans (Kept.alloc wr (.cells #[.int .i64 x.op, .int .u64 (x.a : Int), .int .u64 (x.b : Int)] 56)) (fun _ f => f.elim))
      obtain ⟨z0, z1, z2, z3, z4, z5⟩ := box6 (HKx.out.heap HBX.out (fun f => f))
      have HS2 : Hid (bb = true → _) := hideI (fun e => HS.out (hbb.1 e))
      have HB2 : Hid (bb = false → v = false) := hideI (fun e => HB.out ((asB_false hbb).1 e))
      obtain ⟨op, xa, xb⟩ := x
      simp only at y0 y1 y2 CGx HKx z0 z1 z2 z3 z4 z5
      clear CG hxo hbb HS HB HA x0 x1 x2 hc
      cases bb with
      | true =>
        have HS3 := hideI (HS2.out rfl)
        clear HS2 HB2
        go_wp2_with (go_at_call 45; refine (CGx _).out.mono ?_; clear CGx; rintro e W1 ⟨rfl, K1⟩; have HK1 := hideI (HKx.out.trans K1 (fun _ f => f.elim)); clear K1)
        go_roundw
        case rel => exact ⟨k + 1, hlt, by go_num, HS3, HK1⟩
        case measure => simp [intOf]; omega
      | false =>
        have hf := HB2.out rfl
        subst hf
        clear HS2 HB2 HV
        go_wp2_with (go_at_call 45; refine (CGx _).out.mono ?_; clear CGx; rintro e W1 ⟨rfl, K1⟩; have HK1 := hideI (HKx.out.trans K1 (fun _ f => f.elim)); clear K1)
        go_ret
        exact ⟨rfl, HKA.out.trans HK1.out (fun _ f => f.elim)⟩
    · have hkk : ¬ (k : Int) < (n : Int) := by omega
      have ht := isB_t HV.out (fun i hi => HA.out i hi (by have := HN.out; omega))
      subst ht
      clear HV CG
      go_wp2
      go_ret
      exact ⟨rfl, HKA.out.trans HK.out (fun _ f => f.elim)⟩
/-- What 'straight' answers. -/
def stP (w : World) (L : List In) (e : Ending) (w' : World) : Prop :=
  (StOk L → ∃ a c, e = .returned (.tuple #[.slice a L.length c, .bool true]) ∧ IntsAt w' a (hL L) ∧ (∀ g off, a = some ⟨g, off, none⟩ → w.heap.size ≤ g)) ∧ (¬ StOk L → e = .returned (.tuple #[.slice none 0 0, .bool false])) ∧ Kept (fun _ => False) w w'
end Go.Proofs.YtohnkamobmkhkaaDoor
