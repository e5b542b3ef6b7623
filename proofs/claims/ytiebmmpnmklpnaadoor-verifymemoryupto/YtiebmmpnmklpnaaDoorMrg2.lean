import Derived.Test.YtiebmmpnmklpnaaDoorMrg1
import Derived.Test.YtiebmmpnmklpnaaDoorIzg
import Derived.Test.YtiebmmpnmklpnaaDoorMki
namespace Go.Proofs.YtiebmmpnmklpnaaDoor
open Go.ChangeShapes Go.WideShapes Go.ChangeAt Go.RowKit

/-! The project's code: what is taken, the one OpEnd, the operands. -/
structure TkT (w : World) : Prop where
  at_ : ∀ k : Nat, k < 17 → w.cell? ⟨24, k, none⟩ = some (.int .u64 (tkL.getD k 0 : Nat))
theorem TkT.kept {w w' : World} (h : TkT w) (k : Kept (fun _ => False) w w') : TkT w' := ⟨fun i hi => k.cell (h.at_ i hi) (fun f => f)⟩
set_option maxRecDepth 20000 in
set_option maxHeartbeats 2000000 in
theorem taken_any (x : In) (w : World) (hT : TkT w) (hx : 0 ≤ x.op ∧ x.op < 17) :
    Calls Tryd.prog 41 #[.agg #[.int .i64 x.op, .int .u64 x.a, .int .u64 x.b]] w fun e w' => e = .returned (.int .u64 (tkN x : Nat)) ∧ Kept (fun _ => False) w w' := by
  obtain ⟨op, a, b⟩ := x
  simp only at hx ⊢
  obtain ⟨k, rfl⟩ : ∃ k : Nat, op = k := ⟨op.toNat, by omega⟩
  have hk : k < 17 := by omega
  have HKA := hideI (Kept.alloc w (.cells #[.int .i64 (k : Int), .int .u64 (a : Int), .int .u64 (b : Int)] 74))
  have x1 := (hT.kept HKA.out).at_ k hk
  by_cases h14 : k = 14
  · subst h14
    have e : tkN ⟨((14 : Nat) : Int), a, b⟩ = a := rfl
    rw [e]
    clear hT x1 hk hx
    go_enter Tryd.func41, Tryd.ntmps41
    go_wp2
    go_ret
    exact ⟨rfl, HKA.out⟩
  · have e : tkN ⟨(k : Int), a, b⟩ = tkL.getD k 0 := by
      unfold tkN
      rw [if_neg (by simp only; omega)]
      simp only [Int.toNat_natCast]
    rw [e]
    have hk1 : ¬ (k : Int) = 14 := by omega
    have hk2 : ((k : Int) == 14) = false := by rw [beq_eq_false_iff_ne]; exact hk1
    generalize tkL.getD k 0 = n at *
    clear hT e h14
    go_enter Tryd.func41, Tryd.ntmps41
    go_wp2
    go_ret
    exact ⟨rfl, HKA.out⟩
set_option maxRecDepth 20000 in
set_option maxHeartbeats 2000000 in
theorem ends1_any (x : In) (w : World) :
    Calls Tryd.prog 39 #[.agg #[.int .i64 x.op, .int .u64 x.a, .int .u64 x.b]] w fun e w' => e = .returned (.bool (decide (x.op = 0))) ∧ Kept (fun _ => False) w w' := by
  obtain ⟨op, a, b⟩ := x
  simp only
  have HKA := hideI (Kept.alloc w (.cells #[.int .i64 op, .int .u64 (a : Int), .int .u64 (b : Int)] 74))
  go_enter Tryd.func39, Tryd.ntmps39
  go_wp2
  go_ret
  exact ⟨ret_bool (by by_cases h : op = 0 <;> simp [h]), HKA.out⟩
set_option maxRecDepth 20000 in
set_option maxHeartbeats 4000000 in
theorem ixEnd_any (L : List In) (a : Option Addr) (c : Nat) (W : World) (hP : InsAt W a L) (hl : L.length ≤ 1099511627776) :
    Calls Tryd.prog 38 #[.slice a L.length c, .func (.func 39) #[] #[]] W fun e w' => e = .returned (.int .i64 (fE L)) ∧ Kept (fun _ => False) W w' := by
  have HP := hideI hP
  obtain ⟨n, hn⟩ : ∃ n, n = L.length := ⟨_, rfl⟩
  have HN := hideI hn
  rw [← hn] at hl ⊢
  clear hP hn
  go_enter Tryd.func38, Tryd.ntmps38
  go_wp2
  go_loopw [8] (fun s8 wr => ∃ k : Nat, k ≤ n ∧ s8 = .int .i64 k ∧ Hid (∀ i (hi : i < L.length), i < k → L[i].op ≠ 0) ∧ Hid (Kept (fun _ => False) W wr)) (fun s8 _ => n - (intOf s8).toNat)
  case atStart => exact ⟨0, by omega, rfl, hideI (fun i _ h => by omega), hideI (Kept.refl _ _)⟩
  case round =>
    obtain ⟨k, hk, rfl, HL, HK⟩ := hrel
    by_cases hlt : k < n
    · have hkl : k < L.length := by rw [← HN.out]; exact hlt
      obtain ⟨b, off, rfl, hc⟩ := HP.out (by intro e; rw [e] at hkl; simp at hkl)
      obtain ⟨x0, x1, x2⟩ := hc k hkl
      have y0 := HK.out.cell x0 (fun f => f)
      have y1 := HK.out.cell x1 (fun f => f)
      have y2 := HK.out.cell x2 (fun f => f)
      have HS : Hid (L[k].op ≠ 0 → ∀ i (hi : i < L.length), i < k + 1 → L[i].op ≠ 0) := hideI (fun e i hi hik => by
        by_cases hkj : i = k
        · subst hkj; exact e
        · exact HL.out i hi (by omega))
      have HE : Hid (L[k].op = 0 → fE L = k) := hideI (fun e => fE_some hkl e (fun i hi hik => HL.out i hi hik))
      generalize L[k] = x at *
      have CL := hideI (ends1_any x wr)
      have hkk : (k : Int) < (n : Int) := by omega
      clear x0 x1 x2 hc HL
      obtain ⟨op, xa, xb⟩ := x
      simp only at y0 y1 y2 HS HE CL
      by_cases h0 : op = 0
      · have hdd : decide (op = 0) = true := decide_eq_true h0
        have HE2 := hideI (HE.out h0)
        rw [hdd] at CL
        clear hdd HE HS h0
        go_wp2_with (go_at_call 39; refine CL.out.mono ?_; clear CL; rintro e W2 ⟨rfl, k2⟩; have HK2 := hideI (HK.out.trans k2 (fun _ f => f.elim)); clear k2)
        go_ret
        exact ⟨by rw [HE2.out]; rfl, HK2.out⟩
      · have hdd : decide (op = 0) = false := decide_eq_false h0
        have HS2 := hideI (HS.out h0)
        rw [hdd] at CL
        clear hdd HE HS h0
        go_wp2_with (go_at_call 39; refine CL.out.mono ?_; clear CL; rintro e W2 ⟨rfl, k2⟩; have HK2 := hideI (HK.out.trans k2 (fun _ f => f.elim)); clear k2)
        go_roundw
        case rel => exact ⟨k + 1, hlt, by go_num, HS2, HK2⟩
        case measure => simp [intOf]; omega
    · have hkk : ¬ (k : Int) < (n : Int) := by omega
      go_wp2
      go_ret
      refine ⟨?_, HK.out⟩
      rw [fE_none (fun i hi => HL.out i hi (by have := HN.out; omega))]
      rfl
set_option maxRecDepth 20000 in
set_option maxHeartbeats 4000000 in
theorem endsOnce_any (L : List In) (a : Option Addr) (c : Nat) (w : World) (hP : InsAt w a L) (hl : L.length ≤ 1099511627776) (v : Bool) (hv : v = true ↔ EnOk L) :
    Calls Tryd.prog 20 #[.slice a L.length c] w fun e w' => e = .returned (.bool v) ∧ Kept (fun _ => False) w w' := by
  have HC := hideI (ixEnd_any L a c w hP hl)
  have HV : Hid (v = true ↔ 0 ≤ fE L ∧ fE L = (L.length : Int) - 1) := hideI (by rw [hv, fE_iff])
  obtain ⟨n, hn⟩ : ∃ n, n = L.length := ⟨_, rfl⟩
  rw [← hn] at HC HV hl ⊢
  clear hP hn hv
  generalize fE L = z at *
  by_cases h0 : 0 ≤ z
  · by_cases h1 : z = (n : Int) - 1
    · have ht := isB_t HV.out ⟨h0, h1⟩
      subst ht
      subst h1
      clear HV
      go_enter Tryd.func20, Tryd.ntmps20
      go_wp2_with (go_at_call 38; refine HC.out.mono ?_; clear HC; rintro e W ⟨rfl, K⟩; have HK := hideI K; clear K)
      go_ret
      exact ⟨by simp, HK.out⟩
    · have hf := isB_f HV.out (fun e => h1 e.2)
      subst hf
      clear HV
      go_enter Tryd.func20, Tryd.ntmps20
      go_wp2_with (go_at_call 38; refine HC.out.mono ?_; clear HC; rintro e W ⟨rfl, K⟩; have HK := hideI K; clear K)
      go_ret
      exact ⟨by simp [h1], HK.out⟩
  · have hf := isB_f HV.out (fun e => h0 e.1)
    subst hf
    clear HV
    go_enter Tryd.func20, Tryd.ntmps20
    go_wp2_with (go_at_call 38; refine HC.out.mono ?_; clear HC; rintro e W ⟨rfl, K⟩; have HK := hideI K; clear K)
    go_ret
    exact ⟨rfl, HK.out⟩
end Go.Proofs.YtiebmmpnmklpnaaDoor
namespace Go.Proofs.YtiebmmpnmklpnaaDoor
open Go.ChangeShapes Go.WideShapes Go.ChangeAt Go.RowKit

theorem bin3 {W : World} {g : Nat} {x0 x1 x2 : Value} {t : TypeId} (z : W.heap[g]? = some (.cells #[x0, x1, x2] t (0, 0))) : W.cell? ⟨g, 0, none⟩ = some x0 ∧ W.cell? ⟨g, 1, none⟩ = some x1 ∧ W.cell? ⟨g, 2, none⟩ = some x2 := by
  refine ⟨?_, ?_, ?_⟩ <;> simp [World.cell?, z]
set_option maxRecDepth 20000 in
set_option maxHeartbeats 8000000 in
theorem goodOperand_any (p : Pg) (x : In) (m : Nat) (vA vC vN vL vD vO : Value) (aA aC aN : Option Addr) (cA cC cN : Nat) (w : World) (e0 : vA = .slice aA p.av.length cA) (e1 : vC = .slice aC p.cu.length cC) (e2 : vN = .slice aN p.nr.length cN)
    (hO : p.Ok) (hx : x.Ok) (hm : m ≤ 1099511627776) (v : Bool) (hv : v = true ↔ OpOk p x m) :
    Calls Tryd.prog 40 #[.agg #[vA, vC, vN, vL, vD, vO], .agg #[.int .i64 x.op, .int .u64 x.a, .int .u64 x.b], .int .i64 m] w fun e w' => e = .returned (.bool v) ∧ Kept (fun _ => False) w w' := by
  subst e0 e1 e2
  obtain ⟨l1, -, l3, l4, -⟩ := hO.len
  have HV := hideI hv
  have hxa := hx.ha
  have hxb := hx.hb
  obtain ⟨op, a, b⟩ := x
  simp only at hxa hxb ⊢
  unfold OpOk at HV
  simp only at HV
  clear hO hx hv
  generalize p.av.length = n1 at *
  generalize p.cu.length = n2 at *
  generalize p.nr.length = n3 at *
  obtain ⟨o1, ho1⟩ : ∃ o1, o1 = Obj.cells #[.slice aA n1 cA, .slice aC n2 cC, .slice aN n3 cN, vL, vD, vO] 27 := ⟨_, rfl⟩
  obtain ⟨o2, ho2⟩ : ∃ o2, o2 = Obj.cells #[.int .i64 op, .int .u64 (a : Int), .int .u64 (b : Int)] 74 := ⟨_, rfl⟩
  have HK : Hid (Kept (fun _ => False) w ((w.alloc o1).alloc o2)) := hideI ((Kept.alloc w o1).trans (Kept.alloc _ o2) (fun _ f => f.elim))
  rw [ho1, ho2] at HK
  clear ho1 ho2 o1 o2
  by_cases h3 : op = 3
  · subst h3
    have hv3 : v = decide (a < n1) := by
      rw [Bool.eq_iff_iff, HV.out]; simp
    clear HV
    subst hv3
    go_enter Tryd.func40, Tryd.ntmps40
    go_wp2
    go_ret
    exact ⟨rfl, HK.out⟩
  by_cases h4 : op = 4
  · subst h4
    have hv3 : v = decide (a < n2) := by
      rw [Bool.eq_iff_iff, HV.out]; simp
    clear HV
    subst hv3
    go_enter Tryd.func40, Tryd.ntmps40
    go_wp2
    go_ret
    exact ⟨rfl, HK.out⟩
  by_cases h5 : op = 5
  · subst h5
    have hv3 : v = decide (a < n3) := by
      rw [Bool.eq_iff_iff, HV.out]; simp
    clear HV
    subst hv3
    go_enter Tryd.func40, Tryd.ntmps40
    go_wp2
    go_ret
    exact ⟨rfl, HK.out⟩
  by_cases h14 : op = 14
  · subst h14
    by_cases hb1 : 1 ≤ b
    · have hv3 : v = decide (b ≤ a) := by
        rw [Bool.eq_iff_iff, HV.out]; simp [hb1]
      have hb2 : (1 : Int) ≤ (b : Int) := by omega
      clear HV
      subst hv3
      go_enter Tryd.func40, Tryd.ntmps40
      go_wp2
      go_ret
      exact ⟨rfl, HK.out⟩
    · have hf := isB_f HV.out (fun e => hb1 (e.2.2.2.1 rfl).1)
      have hb2 : ¬ (1 : Int) ≤ (b : Int) := by omega
      subst hf
      clear HV
      go_enter Tryd.func40, Tryd.ntmps40
      go_wp2
      go_ret
      exact ⟨rfl, HK.out⟩
  by_cases h15 : op = 15
  · subst h15
    have hv3 : v = decide (a < m) := by
      rw [Bool.eq_iff_iff, HV.out]; simp
    clear HV
    subst hv3
    go_enter Tryd.func40, Tryd.ntmps40
    go_wp2
    go_ret
    exact ⟨rfl, HK.out⟩
  by_cases h16 : op = 16
  · subst h16
    have hv3 : v = decide (a < m) := by
      rw [Bool.eq_iff_iff, HV.out]; simp
    clear HV
    subst hv3
    go_enter Tryd.func40, Tryd.ntmps40
    go_wp2
    go_ret
    exact ⟨rfl, HK.out⟩
  have ht : v = true := HV.out.2 ⟨fun e => absurd e h3, fun e => absurd e h4, fun e => absurd e h5, fun e => absurd e h14, fun e => absurd e h15, fun e => absurd e h16⟩
  subst ht
  clear HV
  go_enter Tryd.func40, Tryd.ntmps40
  go_wp2
  go_ret
  exact ⟨rfl, HK.out⟩
end Go.Proofs.YtiebmmpnmklpnaaDoor
namespace Go.Proofs.YtiebmmpnmklpnaaDoor
open Go.ChangeShapes Go.WideShapes Go.ChangeAt Go.RowKit

set_option maxRecDepth 20000 in
set_option maxHeartbeats 8000000 in
theorem goodOperands_any (p : Pg) (L : List In) (aA aC aN aD aO aL : Option Addr) (cA cC cN cD cO cL : Nat) (w : World) (hO : p.Ok) (hLO : ∀ x ∈ L, x.Ok) (hL : InsAt w aL L) (hl : L.length ≤ 1099511627776) (v : Bool) (hv : v = true ↔ PaOk p L) :
    Calls Tryd.prog 21 #[.agg #[.slice aA p.av.length cA, .slice aC p.cu.length cC, .slice aN p.nr.length cN, .bool p.al, .slice aD p.dr.length cD, .slice aO p.co.length cO], .slice aL L.length cL] w fun e w' => e = .returned (.bool v) ∧ Kept (fun _ => False) w w' := by
  have KA := Kept.alloc w (.cells #[.slice aA p.av.length cA, .slice aC p.cu.length cC, .slice aN p.nr.length cN, .bool p.al, .slice aD p.dr.length cD, .slice aO p.co.length cO] 27)
  have HL : Hid (InsAt _ aL L) := hideI (hL.kept KA (fun _ _ f => f))
  have HKA := hideI KA
  have HLO := hideI hLO
  have HV := hideI hv
  have HBX : Hid ((w.alloc (.cells #[.slice aA p.av.length cA, .slice aC p.cu.length cC, .slice aN p.nr.length cN, .bool p.al, .slice aD p.dr.length cD, .slice aO p.co.length cO] 27)).heap[w.heap.size]? = some (.cells #[.slice aA p.av.length cA, .slice aC p.cu.length cC, .slice aN p.nr.length cN, .bool p.al, .slice aD p.dr.length cD, .slice aO p.co.length cO] 27 (0, 0))) := hideI (heap_alloc_new w _)
  have CG := fun (x : In) (m : Nat) (b : Bool) (W : World) => hideI (goodOperand_any p x m (.slice aA p.av.length cA) (.slice aC p.cu.length cC) (.slice aN p.nr.length cN) (.bool p.al) (.slice aD p.dr.length cD) (.slice aO p.co.length cO) aA aC aN cA cC cN W rfl rfl rfl hO)
  clear KA hL hLO hv hO
  obtain ⟨n, hn⟩ : ∃ n, n = L.length := ⟨_, rfl⟩
  rw [← hn] at hl ⊢
  have HN := hideI hn
  clear hn
  generalize p.av.length = n1 at *
  generalize p.cu.length = n2 at *
  generalize p.nr.length = n3 at *
  generalize p.dr.length = n4 at *
  generalize p.co.length = n5 at *
  generalize p.al = al at *
  go_enter Tryd.func21, Tryd.ntmps21
  go_wp2
  obtain ⟨V, hV⟩ : ∃ V, V = w.alloc (.cells #[.slice aA n1 cA, .slice aC n2 cC, .slice aN n3 cN, .bool al, .slice aD n4 cD, .slice aO n5 cO] 27) := ⟨_, rfl⟩
  rw [← hV] at HKA HL HBX ⊢
  clear hV
  go_loopw [9] (fun v9 wr => ∃ k : Nat, k ≤ n ∧ v9 = .int .i64 k ∧ Hid (∀ i (hi : i < L.length), i < k → OpOk p L[i] (L.length - 1 - i)) ∧ Hid (Kept (fun _ => False) V wr)) (fun v9 _ => n - (intOf v9).toNat)
  case atStart => exact ⟨0, by omega, rfl, hideI (fun i _ h => by omega), hideI (Kept.refl _ _)⟩
  case round =>
    obtain ⟨k, hk, rfl, HA, HK⟩ := hrel
    by_cases hlt : k < n
    · have hkl : k < L.length := by rw [← HN.out]; exact hlt
      have hkk : (k : Int) < (n : Int) := by omega
      obtain ⟨b, off, rfl, hc⟩ := HL.out (by intro e; rw [e] at hkl; simp at hkl)
      obtain ⟨x0, x1, x2⟩ := hc k hkl
      have y0 := HK.out.cell x0 (fun f => f)
      have y1 := HK.out.cell x1 (fun f => f)
      have y2 := HK.out.cell x2 (fun f => f)
      have HS : Hid (OpOk p L[k] (n - 1 - k) → ∀ i (hi : i < L.length), i < k + 1 → OpOk p L[i] (L.length - 1 - i)) := hideI (fun e i hi hik => by
        by_cases hkj : i = k
        · subst hkj; rw [← HN.out]; exact e
        · exact HA.out i hi (by omega))
      have HB : Hid (¬ OpOk p L[k] (n - 1 - k) → v = false) := hideI (fun e => isB_f HV.out (fun f => e (by have := f k hkl; rw [← HN.out] at this; exact this)))
      have hxo := HLO.out L[k] (List.getElem_mem hkl)
      generalize L[k] = x at *
      obtain ⟨bb, hbb⟩ := asB (OpOk p x (n - 1 - k))
      have CGx := fun W => hideI ((CG x (n - 1 - k) bb W).out hxo (by omega) bb hbb)
      rw [show (((n - 1 - k : Nat)) : Int) = (n : Int) - 1 - (k : Int) by omega] at CGx
      have HKx := hideI (HK.out.trans (Kept.alloc wr (.cells #[.int .i64 x.op, .int .u64 (x.a : Int), .int .u64 (x.b : Int)] 74)) (fun _ f => f.elim))
      obtain ⟨z0, z1, z2, z3, z4, z5⟩ := box6 (HKx.out.heap HBX.out (fun f => f))
      have HS2 : Hid (bb = true → _) := hideI (fun e => HS.out (hbb.1 e))
      have HB2 : Hid (bb = false → v = false) := hideI (fun e => HB.out ((asB_false hbb).1 e))
      obtain ⟨op, xa, xb⟩ := x
      simp only at y0 y1 y2 CGx HKx z0 z1 z2 z3 z4 z5
      clear CG hxo hbb HS HB HA x0 x1 x2 hc
      cases bb with
      | true =>
        have HS3 := hideI (HS2.out rfl)
        clear HS2 HB2
        go_wp2_with (go_at_call 40; refine (CGx _).out.mono ?_; clear CGx; rintro e W1 ⟨rfl, K1⟩; have HK1 := hideI (HKx.out.trans K1 (fun _ f => f.elim)); clear K1)
        go_roundw
        case rel => exact ⟨k + 1, hlt, by go_num, HS3, HK1⟩
        case measure => simp [intOf]; omega
      | false =>
        have hf := HB2.out rfl
        subst hf
        clear HS2 HB2 HV
        go_wp2_with (go_at_call 40; refine (CGx _).out.mono ?_; clear CGx; rintro e W1 ⟨rfl, K1⟩; have HK1 := hideI (HKx.out.trans K1 (fun _ f => f.elim)); clear K1)
        go_ret
        exact ⟨rfl, HKA.out.trans HK1.out (fun _ f => f.elim)⟩
    · have hkk : ¬ (k : Int) < (n : Int) := by omega
      have ht := isB_t HV.out (fun i hi => HA.out i hi (by have := HN.out; omega))
      subst ht
      clear HV CG
      go_wp2
      go_ret
      exact ⟨rfl, HKA.out.trans HK.out (fun _ f => f.elim)⟩
/-- What 'straight' answers. -/
def stP (w : World) (L : List In) (e : Ending) (w' : World) : Prop :=
  (StOk L → ∃ a c, e = .returned (.tuple #[.slice a L.length c, .bool true]) ∧ IntsAt w' a (hL L) ∧ (∀ g off, a = some ⟨g, off, none⟩ → w.heap.size ≤ g)) ∧ (¬ StOk L → e = .returned (.tuple #[.slice none 0 0, .bool false])) ∧ Kept (fun _ => False) w w'
end Go.Proofs.YtiebmmpnmklpnaaDoor
namespace Go.Proofs.YtiebmmpnmklpnaaDoor
open Go.ChangeShapes Go.WideShapes Go.ChangeAt Go.RowKit

/-- The heights laid so far. -/
def hK (L : List In) (n k : Nat) : List Int := (List.range n).map fun i => if i < k then (hA L i : Int) else 0
theorem hK_zero (L : List In) (n : Nat) : hK L n 0 = List.replicate n 0 := by
  apply List.ext_getElem
  · simp [hK]
  · intro i h1 h2; simp [hK]
theorem hK_set (L : List In) (n k : Nat) : (hK L n k).set k (hA L k) = hK L n (k + 1) := by
  apply List.ext_getElem
  · simp [hK]
  · intro i h1 h2
    rw [List.getElem_set]
    simp only [hK, List.getElem_map, List.getElem_range]
    by_cases h : k = i
    · subst h; rw [if_pos rfl, if_pos (by omega)]
    · rw [if_neg h]
      by_cases h2 : i < k
      · rw [if_pos h2, if_pos (by omega)]
      · rw [if_neg h2, if_neg (by omega)]
theorem hK_all (L : List In) : hK L L.length L.length = hL L := by
  apply List.ext_getElem
  · simp [hK, hL]
  · intro i h1 h2
    simp only [hK, hL, List.getElem_map, List.getElem_range]
    rw [if_pos (by simp [hK] at h1; exact h1)]
/-- What 'straight' answers. -/
def stQ (w : World) (L : List In) (e : Ending) (w' : World) : Prop :=
  (StOk L → ∃ a c, e = .returned (.tuple #[.slice a L.length c, .bool true]) ∧ Gro w w' 3 1 (.slice a L.length c) L.length (is (hL L))) ∧ (¬ StOk L → e = .returned (.tuple #[.slice none 0 0, .bool false])) ∧ Kept (fun _ => False) w w'
set_option maxRecDepth 20000 in
set_option maxHeartbeats 8000000 in
theorem straight_any (L : List In) (aL : Option Addr) (cL : Nat) (w : World) (hL' : InsAt w aL L) (hl : L.length ≤ 1099511627776) (hLx : ∀ x ∈ L, 0 ≤ x.op ∧ x.op < 17) (hT : TkT w) :
    Calls Tryd.prog 22 #[.slice aL L.length cL] w (stQ w L) := by
  have HL := hideI hL'
  have HLX := hideI hLx
  have HT := hideI hT
  clear hL' hLx hT
  obtain ⟨n, hn⟩ : ∃ n, n = L.length := ⟨_, rfl⟩
  have HN := hideI hn
  rw [← hn] at hl
  rw [← hn]
  clear hn
  have mk := mkI_run n w hl
  have HG0 := hideI (mkI_gro n w hl)
  go_enter Tryd.func22, Tryd.ntmps22
  go_wp2
  rw [← hK_zero L n] at HG0 mk
  obtain ⟨g, hg⟩ : ∃ g, g = w.heap.size := ⟨_, rfl⟩
  rw [← hg] at HG0 mk ⊢
  have hgw := HG0.out.kept.size
  have HGE := hideI hg
  clear hg
  generalize hV0 : w.alloc (.cells (is (List.replicate n (0 : Int))).toArray 3) = V0 at *
  rw [hK_zero L n, hV0, ← hK_zero L n] at HG0
  clear mk hV0
  go_loopw [5, 14] (fun v5 v14 wr => ∃ k : Nat, k ≤ n ∧ v5 = .int .i64 (hA L k : Nat) ∧ v14 = .int .i64 k ∧ Hid (∀ i (hi : i < L.length), i < k → tkN L[i] ≤ hA L i) ∧ Hid (Gro w wr 3 1 (.slice (some ⟨g, 0, none⟩) n n) n (is (hK L n k)))) (fun _ v14 _ => n - (intOf v14).toNat)
  case atStart => exact ⟨0, by omega, rfl, rfl, hideI (fun i _ h => by omega), HG0⟩
  case round =>
    obtain ⟨k, hk, rfl, rfl, HA, HG⟩ := hrel
    by_cases hlt : k < n
    · have hkl : k < L.length := by rw [← HN.out]; exact hlt
      have hkk : (k : Int) < (n : Int) := by omega
      obtain ⟨b, off, rfl, hc⟩ := HL.out (by intro e; rw [e] at hkl; simp at hkl)
      obtain ⟨x0, x1, x2⟩ := hc k hkl
      have y0 := HG.out.kept.cell x0 (fun f => f)
      have y1 := HG.out.kept.cell x1 (fun f => f)
      have y2 := HG.out.kept.cell x2 (fun f => f)
      have HS : Hid (tkN L[k] ≤ hA L k → (∀ i (hi : i < L.length), i < k + 1 → tkN L[i] ≤ hA L i) ∧ ((hA L (k + 1) : Nat) : Int) = (hA L k : Int) + (1 - (tkN L[k] : Int))) := hideI (fun e => ⟨fun i hi hik => by
        by_cases hkj : i = k
        · subst hkj; exact e
        · exact HA.out i hi (by omega), by rw [hA_next hkl]; omega⟩)
      have HB : Hid (¬ tkN L[k] ≤ hA L k → ¬ StOk L) := hideI (fun e f => e (f k hkl))
      have hxo := HLX.out L[k] (List.getElem_mem hkl)
      have hhk : hA L k ≤ k := hA_le L k
      have HSET : Hid (∀ W, Gro w W 3 1 (.slice (some ⟨g, 0, none⟩) n n) n (is (hK L n k)) → Gro w (W.setCell ⟨g, k, none⟩ (.int .i64 (hA L k : Nat))) 3 1 (.slice (some ⟨g, 0, none⟩) n n) n (is (hK L n (k + 1))) ∧ W.frozen? ⟨g, k, none⟩ = false ∧ ∃ u, W.cell? ⟨g, k, none⟩ = some (.int .i64 u)) := hideI (fun W h => by
        have q := h.set k (.int .i64 (hA L k : Nat))
        rw [isV_set, hK_set] at q
        refine ⟨q.1, q.2, (hK L n k)[k]'(by simp [hK]; exact hlt), h.at (isV_get (by rw [List.getElem?_eq_getElem]))⟩)
      generalize L[k] = x at *
      have HKx := hideI (Kept.alloc wr (.cells #[.int .i64 x.op, .int .u64 (x.a : Int), .int .u64 (x.b : Int)] 74))
      have HG1 := hideI (HG.out.later HKx.out)
      have CT := hideI (taken_any x _ (HT.out.kept HG1.out.kept) hxo)
      generalize hA L k = h0 at *
      generalize tkN x = t at *
      obtain ⟨op, xa, xb⟩ := x
      simp only at y0 y1 y2 CT HKx HG1
      clear hxo HA x0 x1 x2 hc HG
      have hw1 : IntKind.u64.wrap (h0 : Int) = (h0 : Int) := by rw [IntKind.wrap_u64]; omega
      by_cases hle : t ≤ h0
      · have hgt : ¬ (t : Int) > (h0 : Int) := by omega
        have hgt2 : ¬ (h0 : Int) < (t : Int) := by omega
        have hw2 : IntKind.i64.wrap (t : Int) = (t : Int) := by rw [IntKind.wrap_i64]; omega
        obtain ⟨HS1, hs2⟩ := HS.out hle
        have HS1 := hideI HS1
        have HS2 := hideI hs2
        clear hs2 HS HB
        go_wp2_with (go_at_call 41; refine CT.out.mono ?_; clear CT; rintro e W1 ⟨rfl, K1⟩; have HG2 := hideI (HG1.out.later K1); obtain ⟨q1, q2, u, q3⟩ := HSET.out W1 HG2.out; have HG3 := hideI q1; clear q1 K1)
        go_roundw
        case rel => exact ⟨k + 1, hlt, by rw [HS2.out], by go_num, HS1, HG3⟩
        case measure => simp [intOf]; omega
      · have hgt : (t : Int) > (h0 : Int) := by omega
        have hgt2 : (h0 : Int) < (t : Int) := by omega
        have HB2 := hideI (HB.out hle)
        clear HS HB HSET
        go_wp2_with (go_at_call 41; refine CT.out.mono ?_; clear CT; rintro e W1 ⟨rfl, K1⟩; have HG2 := hideI (HG1.out.later K1); clear K1)
        go_ret2
        exact ⟨fun e => absurd e HB2.out, fun _ => rfl, HG2.out.kept⟩
    · obtain rfl : k = n := by omega
      have hkk : ¬ (k : Int) < (k : Int) := by omega
      go_wp2
      go_ret2
      have hst : StOk L := fun i hi => HA.out i hi (by have := HN.out; omega)
      refine ⟨fun _ => ⟨some ⟨g, 0, none⟩, k, by rw [← HN.out]; rfl, ?_⟩, fun e => absurd hst e, HG.out.kept⟩
      have q := HG.out
      rw [HN.out, hK_all] at q
      rw [← HN.out] at q ⊢
      exact q
end Go.Proofs.YtiebmmpnmklpnaaDoor
namespace Go.Proofs.YtiebmmpnmklpnaaDoor
open Go.ChangeShapes Go.WideShapes Go.ChangeAt Go.RowKit

set_option maxRecDepth 20000 in
set_option maxHeartbeats 8000000 in
theorem skips_any (p : Pg) (L : List In) (aL aH : Option Addr) (cL cH : Nat) (w : World) (hL' : InsAt w aL L) (hH : IntsAt w aH (hL L)) (hl : L.length ≤ 1099511627776) (hpa : PaOk p L) (v : Bool) (hv : v = true ↔ SkOk L) :
    Calls Tryd.prog 23 #[.slice aL L.length cL, .slice aH L.length cH] w fun e w' => e = .returned (.bool v) ∧ Kept (fun _ => False) w w' := by
  have HL := hideI hL'
  have HH := hideI hH
  have HPA := hideI hpa
  have HV := hideI hv
  clear hL' hH hpa hv
  obtain ⟨n, hn⟩ : ∃ n, n = L.length := ⟨_, rfl⟩
  have HN := hideI hn
  rw [← hn] at hl ⊢
  clear hn
  go_enter Tryd.func23, Tryd.ntmps23
  go_wp2
  go_loopw [9] (fun v9 wr => ∃ k : Nat, k ≤ n ∧ v9 = .int .i64 k ∧ Hid (∀ i (hi : i < L.length), i < k → (L[i].op = 15 ∨ L[i].op = 16) → hA L (i + 1 + L[i].a) = hA L i) ∧ Hid (Kept (fun _ => False) w wr)) (fun v9 _ => n - (intOf v9).toNat)
  case atStart => exact ⟨0, by omega, rfl, hideI (fun i _ h => by omega), hideI (Kept.refl _ _)⟩
  case round =>
    obtain ⟨k, hk, rfl, HA, HK⟩ := hrel
    by_cases hlt : k < n
    · have hkl : k < L.length := by rw [← HN.out]; exact hlt
      have hkk : (k : Int) < (n : Int) := by omega
      obtain ⟨b, off, rfl, hc⟩ := HL.out (by intro e; rw [e] at hkl; simp at hkl)
      obtain ⟨x0, x1, x2⟩ := hc k hkl
      have y0 := HK.out.cell x0 (fun f => f)
      have y1 := HK.out.cell x1 (fun f => f)
      have y2 := HK.out.cell x2 (fun f => f)
      have HS : Hid (((L[k].op = 15 ∨ L[k].op = 16) → hA L (k + 1 + L[k].a) = hA L k) → ∀ i (hi : i < L.length), i < k + 1 → (L[i].op = 15 ∨ L[i].op = 16) → hA L (i + 1 + L[i].a) = hA L i) := hideI (fun e i hi hik => by
        by_cases hkj : i = k
        · subst hkj; exact e
        · exact HA.out i hi (by omega))
      have HB : Hid ((L[k].op = 15 ∨ L[k].op = 16) → ¬ hA L (k + 1 + L[k].a) = hA L k → v = false) := hideI (fun e1 e2 => isB_f HV.out (fun f => e2 (f k hkl e1)))
      have HC : Hid ((L[k].op = 15 ∨ L[k].op = 16) → k + 1 + L[k].a < n) := hideI (fun e => by
        have q := HPA.out k hkl
        rcases e with e | e
        · have := q.2.2.2.2.1 e; have := HN.out; omega
        · have := q.2.2.2.2.2 e; have := HN.out; omega)
      have HHA : Hid (∀ j, j < n → ∃ hb ho, aH = some ⟨hb, ho, none⟩ ∧ w.cell? ⟨hb, ho + j, none⟩ = some (.int .i64 (hA L j : Nat))) := hideI (fun j hj => by
        obtain ⟨hb, ho, e, q⟩ := HH.out.get (k := j) (by rw [hL_len, ← HN.out]; exact hj)
        refine ⟨hb, ho, e, ?_⟩
        rw [q, hL_at L (by rw [← HN.out]; exact hj)]; rfl)
      generalize L[k] = x at *
      have HKx := hideI (HK.out.trans (Kept.alloc wr (.cells #[.int .i64 x.op, .int .u64 (x.a : Int), .int .u64 (x.b : Int)] 74)) (fun _ f => f.elim))
      obtain ⟨op, xa, xb⟩ := x
      simp only at y0 y1 y2 HS HB HC HKx
      clear HA x0 x1 x2 hc HV
      by_cases hsk : op = 15 ∨ op = 16
      · have hin := HC.out hsk
        obtain ⟨hb, ho, rfl, q1⟩ := HHA.out (k + 1 + xa) hin
        obtain ⟨hb', ho', e', q2⟩ := HHA.out k hlt
        cases e'
        have q1 := HKx.out.cell q1 (fun f => f)
        have q2 := HKx.out.cell q2 (fun f => f)
        have hw2 : IntKind.i64.wrap (xa : Int) = (xa : Int) := by rw [IntKind.wrap_i64]; omega
        have hin2 : (k : Int) + 1 + (xa : Int) < (n : Int) := by omega
        have hin3 : ((k : Int) + 1 + (xa : Int)).toNat = k + 1 + xa := by omega
        have HS2 : Hid (hA L (k + 1 + xa) = hA L k → _) := hideI (fun e => HS.out (fun _ => e))
        have HB2 := hideI (HB.out hsk)
        clear HS HB HC HHA
        generalize hA L (k + 1 + xa) = u1 at *
        generalize hA L k = u2 at *
        have hop : (op != 15) = true ∧ (op != 16) = false ∧ (op == 16) = true ∧ (op == 15) = false ∨ (op != 15) = false ∧ (op == 15) = true ∧ op = 15 := by
          rcases hsk with rfl | rfl
          · exact .inr ⟨rfl, rfl, rfl⟩
          · exact .inl ⟨rfl, rfl, rfl, rfl⟩
        clear hsk
        by_cases hu : u1 = u2
        · have HS3 := hideI (HS2.out hu)
          subst hu
          have hne : ((u1 : Int) != (u1 : Int)) = false := by simp
          clear HS2 HB2
          rcases hop with ⟨o1, o2, o3, o4⟩ | ⟨o1, o2, rfl⟩
          all_goals
            go_wp2
            go_quiet (fail)
            go_wp2
            go_roundw
            case rel => exact ⟨k + 1, hlt, by go_num, HS3, hideI (HKx.out.trans (Kept.drewN _ _) (fun _ f => f.elim))⟩
            case measure => simp [intOf]; omega
        · have hf := HB2.out hu
          subst hf
          have hne : ((u1 : Int) != (u2 : Int)) = true := by rw [bne_iff_ne]; omega
          clear HS2 HB2
          rcases hop with ⟨o1, o2, o3, o4⟩ | ⟨o1, o2, rfl⟩
          all_goals
            go_wp2
            go_quiet (fail)
            go_wp2
            go_ret
            exact ⟨rfl, HKx.out.trans (Kept.drewN _ _) (fun _ f => f.elim)⟩
      · have HS3 := hideI (HS.out (fun e => absurd e hsk))
        have o1 : (op != 15) = true := by rw [bne_iff_ne]; exact fun e => hsk (.inl e)
        have o2 : (op != 16) = true := by rw [bne_iff_ne]; exact fun e => hsk (.inr e)
        have o3 : ¬ op = 15 := fun e => hsk (.inl e)
        have o4 : ¬ op = 16 := fun e => hsk (.inr e)
        clear HS HB HC HHA hsk
        go_wp2
        go_roundw
        case rel => exact ⟨k + 1, hlt, by go_num, HS3, HKx⟩
        case measure => simp [intOf]; omega
    · have hkk : ¬ (k : Int) < (n : Int) := by omega
      have ht := isB_t HV.out (fun i hi => HA.out i hi (by have := HN.out; omega))
      subst ht
      clear HV
      go_wp2
      go_ret
      exact ⟨rfl, HK.out⟩
end Go.Proofs.YtiebmmpnmklpnaaDoor
namespace Go.Proofs.YtiebmmpnmklpnaaDoor
open Go.ChangeShapes Go.WideShapes Go.ChangeAt Go.RowKit

theorem ibL_ge : ∀ (L : List In), L.length ≤ (ibL L).length
  | [] => by simp
  | x :: r => by
    have := ibL_ge r
    rw [ibL_cons, List.length_append, List.length_cons]
    unfold ib
    simp only [List.length_cons]
    omega
/-- What a world must hold for the laws of layer 21. -/
structure VE (w : World) (a0 a1 ac : Addr) : Prop where
  e : Ew w a0 a1 ac
  o : OpT w
  t : TkT w
theorem VE.kept {w w' : World} {a0 a1 ac : Addr} (h : VE w a0 a1 ac) (k : Kept (fun _ => False) w w') : VE w' a0 a1 ac := ⟨h.e.kept k, h.o.kept k, h.t.kept k⟩
/-- What Heights answers. -/
def htP (w : World) (p : Pg) (ac : Addr) (e : Ending) (w' : World) : Prop :=
  (∀ L, Vok p L → ∃ a c, e = .returned (.tuple #[.slice a L.length c, .nilIface]) ∧ Gro w w' 3 1 (.slice a L.length c) L.length (is (hL L))) ∧ ((¬ ∃ L, Vok p L) → e = .returned (.tuple #[.slice none 0 0, errV ac])) ∧ Kept (fun _ => False) w w'
theorem htP_bad {w : World} {p : Pg} {ac : Addr} {e : Ending} {w' : World} (h : ¬ ∃ L, Vok p L) (he : e = .returned (.tuple #[.slice none 0 0, errV ac])) (k : Kept (fun _ => False) w w') : htP w p ac e w' :=
  ⟨fun L hv => absurd ⟨L, hv⟩ h, fun _ => he, k⟩
theorem htP_good {w : World} {p : Pg} {ac : Addr} {e : Ending} {w' : World} {L : List In} {a : Option Addr} {c n : Nat} (h : Vok p L) (hn : n = L.length) (he : e = .returned (.tuple #[.slice a n c, .nilIface])) (k : Gro w w' 3 1 (.slice a n c) n (is (hL L))) : htP w p ac e w' := by
  subst hn
  exact ⟨fun M hv => by obtain rfl := h.uniq hv; exact ⟨a, c, he, k⟩, fun f => absurd ⟨L, h⟩ f, k.kept⟩
theorem gro_lower {w0 w1 w : World} {e : TypeId} {sz n : Nat} {v : Value} {xs : List Value} (h : Gro w1 w e sz v n xs) (k : Kept (fun _ => False) w0 w1) : Gro w0 w e sz v n xs :=
  ⟨own_lowerJ h.own k.size, k.trans h.kept (fun _ f => f.elim)⟩
set_option maxRecDepth 20000 in
set_option maxHeartbeats 8000000 in
theorem heights_any (p : Pg) (aA aC aN aD aO : Option Addr) (cA cC cN cD cO : Nat) (a0 a1 ac : Addr) (w : World) (hP : PgAt w p aA aC aN aD aO) (hO : p.Ok) (hE : VE w a0 a1 ac) :
    Calls Tryd.prog 10 #[.agg #[.slice aA p.av.length cA, .slice aC p.cu.length cC, .slice aN p.nr.length cN, .bool p.al, .slice aD p.dr.length cD, .slice aO p.co.length cO]] w (htP w p ac) := by
  have KA := Kept.alloc w (.cells #[.slice aA p.av.length cA, .slice aC p.cu.length cC, .slice aN p.nr.length cN, .bool p.al, .slice aD p.dr.length cD, .slice aO p.co.length cO] 27)
  have HBX : Hid ((w.alloc (.cells #[.slice aA p.av.length cA, .slice aC p.cu.length cC, .slice aN p.nr.length cN, .bool p.al, .slice aD p.dr.length cD, .slice aO p.co.length cO] 27)).heap[w.heap.size]? = some (.cells #[.slice aA p.av.length cA, .slice aC p.cu.length cC, .slice aN p.nr.length cN, .bool p.al, .slice aD p.dr.length cD, .slice aO p.co.length cO] 27 (0, 0))) := hideI (heap_alloc_new w _)
  obtain ⟨V, hV⟩ : ∃ V, V = w.alloc (.cells #[.slice aA p.av.length cA, .slice aC p.cu.length cC, .slice aN p.nr.length cN, .bool p.al, .slice aD p.dr.length cD, .slice aO p.co.length cO] 27) := ⟨_, rfl⟩
  rw [← hV] at KA HBX
  have HP := hideI (hP.kept KA)
  have HE := hideI (hE.kept KA)
  have HKA := hideI KA
  have HO := hideI hO
  have HB6 := fun (W : World) (K : Kept (fun _ => False) V W) => hideI (box6 (K.heap HBX.out (fun f => f)))
  obtain ⟨b1, hb1⟩ := asB (TbOk p)
  have H1 := hideI (goodTables_any p aA aC aN aD aO cA cC cN cD cO V HP.out hO b1 hb1)
  have HB1 := hideI hb1
  have H2 := fun (W : World) (K : Kept (fun _ => False) V W) => hideI (decode_any p.co aO cO a0 a1 ac W (HP.out.kept K).co hO.co (by have := hO.len; omega) (HE.out.kept K).e (HE.out.kept K).o)
  have HGC := fun (W : World) (K : Kept (fun _ => False) V W) => (HE.out.kept K).e.gc
  have HVB := fun (h : ¬ (TbOk p ∧ ∃ L, dcI p.co = some L ∧ Gd p L)) => hideI (fun (hx : ∃ L, Vok p L) => h (by obtain ⟨L, q⟩ := hx; exact ⟨q.tb, L, q.dc, q.gd⟩))
  obtain ⟨z0, z1, z2, z3, z4, z5⟩ := (HB6 V (Kept.refl _ _)).out
  clear hP hE KA hO hb1
  cases b1 with
  | false =>
    have HV := HVB (fun h => by have := HB1.out.2 h.1; cases this)
    subst hV
    clear H2 HB6 HVB HB1 HBX
    go_enter Tryd.func10, Tryd.ntmps10
    go_wp2_with (go_at_call 18; refine H1.out.mono ?_; clear H1; rintro e W1 ⟨rfl, K1⟩; have HK1 := hideI K1; have gc1 := HGC W1 K1; clear K1 HGC)
    go_quiet (fail)
    go_wp2
    go_ret2
    exact htP_bad HV.out rfl ((HKA.out.trans HK1.out (fun _ f => f.elim)).trans (Kept.drewN _ _) (fun _ f => f.elim))
  | true =>
    cases hd : dcI p.co with
    | none =>
      rw [hd] at H2
      have HV := HVB (fun h => by obtain ⟨L, q, _⟩ := h.2; rw [hd] at q; cases q)
      subst hV
      clear HVB HB1 HBX hd
      go_enter Tryd.func10, Tryd.ntmps10
      go_wp2_with (first
        | (go_at_call 18; refine H1.out.mono ?_; clear H1; rintro e W1 ⟨rfl, K1⟩; have HK1 := hideI K1; have HD := H2 W1 K1; obtain ⟨y0, y1, y2, y3, y4, y5⟩ := (HB6 W1 K1).out; clear K1 H2 HB6)
        | (go_at_call 19; refine HD.out.mono ?_; clear HD; rintro e W2 ⟨h1, -, K2⟩; have he := h1 rfl; unfold errV at he; subst he; have HK2 := hideI (HK1.out.trans K2 (fun _ f => f.elim)); have gc2 := HGC W2 HK2.out; clear K2 HGC h1))
      go_quiet (fail)
      go_wp2
      go_ret2
      exact htP_bad HV.out rfl ((HKA.out.trans HK2.out (fun _ f => f.elim)).trans (Kept.drewN _ _) (fun _ f => f.elim))
    | some L =>
      obtain ⟨b2, hb2⟩ := asB (EnOk L)
      obtain ⟨b3, hb3⟩ := asB (PaOk p L)
      obtain ⟨b4, hb4⟩ := asB (SkOk L)
      have HB2 : Hid (IsB b2 (EnOk L)) := hideI hb2
      have HB3 : Hid (IsB b3 (PaOk p L)) := hideI hb3
      have HB4 : Hid (IsB b4 (SkOk L)) := hideI hb4
      obtain ⟨f1, f2, f3⟩ := dcI_form p.co.length p.co L (Nat.le_refl _) HO.out.co hd
      have HLO := hideI f2
      have HLX : Hid (∀ x ∈ L, 0 ≤ x.op ∧ x.op < 17) := hideI (fun x hx => isO_iff.1 (okI_isO (f3 x hx)))
      have hl26 : L.length ≤ 67108864 := by
        have q1 := ibL_ge L
        rw [f1] at q1
        have q2 := HO.out.len
        omega
      have hl40 : L.length ≤ 1099511627776 := by omega
      have HDD := hideI hd
      have HVN : Hid (¬ Gd p L → ¬ ∃ M, Vok p M) := hideI (fun h hx => h (by obtain ⟨M, q⟩ := hx; have e := q.dc; rw [HDD.out] at e; obtain rfl := Option.some.inj e; exact q.gd))
      have HVY : Hid (Gd p L → Vok p L) := hideI (fun h => ⟨HB1.out.1 rfl, HDD.out, h⟩)
      rw [hd] at H2
      obtain ⟨n, hn⟩ : ∃ n, n = L.length := ⟨_, rfl⟩
      have HN := hideI hn
      have hl27 : n ≤ 67108864 := by omega
      clear hb2 hb3 hb4 f1 f2 f3 hl26 hd HVB HB1 hn HBX
      cases b2 with
      | false =>
        have HV := hideI (HVN.out (fun h => HB2.out.no h.en))
        clear HVN HVY HB3 HB4
        subst hV
        go_enter Tryd.func10, Tryd.ntmps10
        go_wp2_with (first
          | (go_at_call 18; refine H1.out.mono ?_; clear H1; rintro e W1 ⟨rfl, K1⟩; have HK1 := hideI K1; have HD := H2 W1 K1; obtain ⟨y0, y1, y2, y3, y4, y5⟩ := (HB6 W1 K1).out; clear K1 H2)
          | (go_at_call 19; refine HD.out.mono ?_; clear HD; rintro e W2 ⟨-, h2, K2⟩; obtain ⟨aL, cL, he, ho⟩ := h2 L rfl; rw [← HN.out] at he; subst he; have HK2 := hideI (HK1.out.trans K2 (fun _ f => f.elim)); have HI2 := hideI (ins_of_own ho); have HEO := hideI (endsOnce_any L aL cL W2 HI2.out hl40 _ HB2.out); rw [← HN.out] at HEO; clear K2 h2 ho)
          | (go_at_call 20; refine HEO.out.mono ?_; clear HEO; rintro e W3 ⟨rfl, K3⟩; have HK3 := hideI (HK2.out.trans K3 (fun _ f => f.elim)); have HI3 := hideI (HI2.out.kept K3 (fun _ _ f => f)); have gc3 := HGC W3 HK3.out; clear HGC; clear K3))
        go_quiet (fail)
        go_wp2
        go_ret2
        exact htP_bad HV.out rfl ((HKA.out.trans HK3.out (fun _ f => f.elim)).trans (Kept.drewN _ _) (fun _ f => f.elim))
      | true =>
        cases b3 with
        | false =>
          have HV := hideI (HVN.out (fun h => HB3.out.no h.pa))
          clear HVN HVY HB4
          subst hV
          go_enter Tryd.func10, Tryd.ntmps10
          go_wp2_with (first
            | (go_at_call 18; refine H1.out.mono ?_; clear H1; rintro e W1 ⟨rfl, K1⟩; have HK1 := hideI K1; have HD := H2 W1 K1; obtain ⟨y0, y1, y2, y3, y4, y5⟩ := (HB6 W1 K1).out; clear K1 H2)
            | (go_at_call 19; refine HD.out.mono ?_; clear HD; rintro e W2 ⟨-, h2, K2⟩; obtain ⟨aL, cL, he, ho⟩ := h2 L rfl; rw [← HN.out] at he; subst he; have HK2 := hideI (HK1.out.trans K2 (fun _ f => f.elim)); have HI2 := hideI (ins_of_own ho); have HEO := hideI (endsOnce_any L aL cL W2 HI2.out hl40 _ HB2.out); rw [← HN.out] at HEO; clear K2 h2 ho)
            | (go_at_call 20; refine HEO.out.mono ?_; clear HEO; rintro e W3 ⟨rfl, K3⟩; have HK3 := hideI (HK2.out.trans K3 (fun _ f => f.elim)); have HI3 := hideI (HI2.out.kept K3 (fun _ _ f => f)); have HGP := hideI (goodOperands_any p L aA aC aN aD aO aL cA cC cN cD cO cL W3 HO.out HLO.out HI3.out hl40 _ HB3.out); rw [← HN.out] at HGP; obtain ⟨t0, t1, t2, t3, t4, t5⟩ := (HB6 W3 HK3.out).out; clear K3)
            | (go_at_call 21; refine HGP.out.mono ?_; clear HGP; rintro e W4 ⟨rfl, K4⟩; have HK4 := hideI (HK3.out.trans K4 (fun _ f => f.elim)); have gc4 := HGC W4 HK4.out; clear HGC; clear K4))
          go_quiet (fail)
          go_wp2
          go_ret2
          exact htP_bad HV.out rfl ((HKA.out.trans HK4.out (fun _ f => f.elim)).trans (Kept.drewN _ _) (fun _ f => f.elim))
        | true =>
          have HPA := hideI (HB3.out.yes)
          have HEN := hideI (HB2.out.yes)
          by_cases hst : StOk L
          · have HS := hideI hst
            clear hst
            cases b4 with
            | false =>
              have HV := hideI (HVN.out (fun h => HB4.out.no h.sk))
              clear HVN HVY
              subst hV
              go_enter Tryd.func10, Tryd.ntmps10
              go_wp2_with (first
                | (go_at_call 18; refine H1.out.mono ?_; clear H1; rintro e W1 ⟨rfl, K1⟩; have HK1 := hideI K1; have HD := H2 W1 K1; obtain ⟨y0, y1, y2, y3, y4, y5⟩ := (HB6 W1 K1).out; clear K1 H2)
                | (go_at_call 19; refine HD.out.mono ?_; clear HD; rintro e W2 ⟨-, h2, K2⟩; obtain ⟨aL, cL, he, ho⟩ := h2 L rfl; rw [← HN.out] at he; subst he; have HK2 := hideI (HK1.out.trans K2 (fun _ f => f.elim)); have HI2 := hideI (ins_of_own ho); have HEO := hideI (endsOnce_any L aL cL W2 HI2.out hl40 _ HB2.out); rw [← HN.out] at HEO; clear K2 h2 ho)
                | (go_at_call 20; refine HEO.out.mono ?_; clear HEO; rintro e W3 ⟨rfl, K3⟩; have HK3 := hideI (HK2.out.trans K3 (fun _ f => f.elim)); have HI3 := hideI (HI2.out.kept K3 (fun _ _ f => f)); have HGP := hideI (goodOperands_any p L aA aC aN aD aO aL cA cC cN cD cO cL W3 HO.out HLO.out HI3.out hl40 _ HB3.out); rw [← HN.out] at HGP; obtain ⟨t0, t1, t2, t3, t4, t5⟩ := (HB6 W3 HK3.out).out; clear K3)
                | (go_at_call 21; refine HGP.out.mono ?_; clear HGP; rintro e W4 ⟨rfl, K4⟩; have HK4 := hideI (HK3.out.trans K4 (fun _ f => f.elim)); have HI4 := hideI (HI3.out.kept K4 (fun _ _ f => f)); have HST := hideI (straight_any L aL cL W4 HI4.out hl40 HLX.out (HE.out.kept HK4.out).t); rw [← HN.out] at HST; clear K4)
                | (go_at_call 22; refine HST.out.mono ?_; clear HST; rintro e W5 ⟨h5, -, K5⟩; obtain ⟨aH, cH, he, hg5⟩ := h5 HS.out; rw [← HN.out] at he hg5; subst he; have HK5 := hideI (HK4.out.trans K5 (fun _ f => f.elim)); have HI5 := hideI (HI4.out.kept K5 (fun _ _ f => f)); have HG5 := hideI hg5; have HSK := hideI (skips_any p L aL aH cL cH W5 HI5.out (gro_ints hg5 (by rw [hL_len]; exact HN.out)) hl40 HPA.out _ HB4.out); rw [← HN.out] at HSK; clear K5 h5 hg5)
                | (go_at_call 23; refine HSK.out.mono ?_; clear HSK; rintro e W6 ⟨rfl, K6⟩; have HK6 := hideI (HK5.out.trans K6 (fun _ f => f.elim)); have HG6 := hideI (HG5.out.later K6); have gc6 := HGC W6 HK6.out; clear K6 HGC))
              go_quiet (fail)
              go_wp2
              go_ret2
              exact htP_bad HV.out rfl ((HKA.out.trans HK6.out (fun _ f => f.elim)).trans (Kept.drewN _ _) (fun _ f => f.elim))
            | true =>
              have hn0 : 0 < n := by have := HEN.out.1; have := HN.out; omega
              obtain ⟨la, hla⟩ : ∃ la, la = hA L (n - 1) := ⟨_, rfl⟩
              have HLA := hideI hla.symm
              have hi1 : (0 : Int) ≤ (n : Int) - 1 := by omega
              have hi2 : (n : Int) - 1 < (n : Int) := by omega
              have hi3 : ((n : Int) - 1).toNat = n - 1 := by omega
              by_cases hl1 : la = 1
              · have HVG := hideI (HVY.out ⟨HEN.out, HPA.out, HS.out, HB4.out.yes, by rw [← HN.out, HLA.out]; exact hl1⟩)
                have hb1 : ((la : Int) != 1) = false := by rw [hl1]; rfl
                clear HVN HVY hla hl1
                subst hV
                go_enter Tryd.func10, Tryd.ntmps10
                go_wp2_with (first
                  | (go_at_call 18; refine H1.out.mono ?_; clear H1; rintro e W1 ⟨rfl, K1⟩; have HK1 := hideI K1; have HD := H2 W1 K1; obtain ⟨y0, y1, y2, y3, y4, y5⟩ := (HB6 W1 K1).out; clear K1 H2)
                  | (go_at_call 19; refine HD.out.mono ?_; clear HD; rintro e W2 ⟨-, h2, K2⟩; obtain ⟨aL, cL, he, ho⟩ := h2 L rfl; rw [← HN.out] at he; subst he; have HK2 := hideI (HK1.out.trans K2 (fun _ f => f.elim)); have HI2 := hideI (ins_of_own ho); have HEO := hideI (endsOnce_any L aL cL W2 HI2.out hl40 _ HB2.out); rw [← HN.out] at HEO; clear K2 h2 ho)
                  | (go_at_call 20; refine HEO.out.mono ?_; clear HEO; rintro e W3 ⟨rfl, K3⟩; have HK3 := hideI (HK2.out.trans K3 (fun _ f => f.elim)); have HI3 := hideI (HI2.out.kept K3 (fun _ _ f => f)); have HGP := hideI (goodOperands_any p L aA aC aN aD aO aL cA cC cN cD cO cL W3 HO.out HLO.out HI3.out hl40 _ HB3.out); rw [← HN.out] at HGP; obtain ⟨t0, t1, t2, t3, t4, t5⟩ := (HB6 W3 HK3.out).out; clear K3)
                  | (go_at_call 21; refine HGP.out.mono ?_; clear HGP; rintro e W4 ⟨rfl, K4⟩; have HK4 := hideI (HK3.out.trans K4 (fun _ f => f.elim)); have HI4 := hideI (HI3.out.kept K4 (fun _ _ f => f)); have HST := hideI (straight_any L aL cL W4 HI4.out hl40 HLX.out (HE.out.kept HK4.out).t); rw [← HN.out] at HST; clear K4)
                  | (go_at_call 22; refine HST.out.mono ?_; clear HST; rintro e W5 ⟨h5, -, K5⟩; obtain ⟨aH, cH, he, hg5⟩ := h5 HS.out; rw [← HN.out] at he hg5; subst he; have HK5 := hideI (HK4.out.trans K5 (fun _ f => f.elim)); have HI5 := hideI (HI4.out.kept K5 (fun _ _ f => f)); have HG5 := hideI hg5; have HSK := hideI (skips_any p L aL aH cL cH W5 HI5.out (gro_ints hg5 (by rw [hL_len]; exact HN.out)) hl40 HPA.out _ HB4.out); rw [← HN.out] at HSK; clear K5 h5 hg5)
                  | (go_at_call 23; refine HSK.out.mono ?_; clear HSK; rintro e W6 ⟨rfl, K6⟩; have HK6 := hideI (HK5.out.trans K6 (fun _ f => f.elim)); have HG6 := hideI (HG5.out.later K6); have gc6 := HGC W6 HK6.out; obtain ⟨gh, rfl, -, hcc⟩ := HG6.out.cell hn0; have hcl := hcc (n - 1) _ (isV_get (hL_at L (by rw [← HN.out]; omega))); rw [HLA.out] at hcl; clear hcc; clear K6 HGC))
                go_ret2
                exact htP_good HVG.out HN.out rfl (gro_lower HG6.out ((HKA.out.trans HK4.out (fun _ f => f.elim))))
              · have hb1 : ((la : Int) != 1) = true := by rw [bne_iff_ne]; omega
                have HV := hideI (HVN.out (fun h => hl1 (by have := h.one; rw [← HN.out, HLA.out] at this; exact this)))
                clear HVN HVY hla hl1
                subst hV
                go_enter Tryd.func10, Tryd.ntmps10
                go_wp2_with (first
                  | (go_at_call 18; refine H1.out.mono ?_; clear H1; rintro e W1 ⟨rfl, K1⟩; have HK1 := hideI K1; have HD := H2 W1 K1; obtain ⟨y0, y1, y2, y3, y4, y5⟩ := (HB6 W1 K1).out; clear K1 H2)
                  | (go_at_call 19; refine HD.out.mono ?_; clear HD; rintro e W2 ⟨-, h2, K2⟩; obtain ⟨aL, cL, he, ho⟩ := h2 L rfl; rw [← HN.out] at he; subst he; have HK2 := hideI (HK1.out.trans K2 (fun _ f => f.elim)); have HI2 := hideI (ins_of_own ho); have HEO := hideI (endsOnce_any L aL cL W2 HI2.out hl40 _ HB2.out); rw [← HN.out] at HEO; clear K2 h2 ho)
                  | (go_at_call 20; refine HEO.out.mono ?_; clear HEO; rintro e W3 ⟨rfl, K3⟩; have HK3 := hideI (HK2.out.trans K3 (fun _ f => f.elim)); have HI3 := hideI (HI2.out.kept K3 (fun _ _ f => f)); have HGP := hideI (goodOperands_any p L aA aC aN aD aO aL cA cC cN cD cO cL W3 HO.out HLO.out HI3.out hl40 _ HB3.out); rw [← HN.out] at HGP; obtain ⟨t0, t1, t2, t3, t4, t5⟩ := (HB6 W3 HK3.out).out; clear K3)
                  | (go_at_call 21; refine HGP.out.mono ?_; clear HGP; rintro e W4 ⟨rfl, K4⟩; have HK4 := hideI (HK3.out.trans K4 (fun _ f => f.elim)); have HI4 := hideI (HI3.out.kept K4 (fun _ _ f => f)); have HST := hideI (straight_any L aL cL W4 HI4.out hl40 HLX.out (HE.out.kept HK4.out).t); rw [← HN.out] at HST; clear K4)
                  | (go_at_call 22; refine HST.out.mono ?_; clear HST; rintro e W5 ⟨h5, -, K5⟩; obtain ⟨aH, cH, he, hg5⟩ := h5 HS.out; rw [← HN.out] at he hg5; subst he; have HK5 := hideI (HK4.out.trans K5 (fun _ f => f.elim)); have HI5 := hideI (HI4.out.kept K5 (fun _ _ f => f)); have HG5 := hideI hg5; have HSK := hideI (skips_any p L aL aH cL cH W5 HI5.out (gro_ints hg5 (by rw [hL_len]; exact HN.out)) hl40 HPA.out _ HB4.out); rw [← HN.out] at HSK; clear K5 h5 hg5)
                  | (go_at_call 23; refine HSK.out.mono ?_; clear HSK; rintro e W6 ⟨rfl, K6⟩; have HK6 := hideI (HK5.out.trans K6 (fun _ f => f.elim)); have HG6 := hideI (HG5.out.later K6); have gc6 := HGC W6 HK6.out; obtain ⟨gh, rfl, -, hcc⟩ := HG6.out.cell hn0; have hcl := hcc (n - 1) _ (isV_get (hL_at L (by rw [← HN.out]; omega))); rw [HLA.out] at hcl; clear hcc; clear K6 HGC))
                go_quiet (fail)
                go_wp2
                go_ret2
                exact htP_bad HV.out rfl ((HKA.out.trans HK6.out (fun _ f => f.elim)).trans (Kept.drewN _ _) (fun _ f => f.elim))
          · have HS := hideI hst
            clear hst
            have HV := hideI (HVN.out (fun h => HS.out h.st))
            clear HVN HVY
            subst hV
            go_enter Tryd.func10, Tryd.ntmps10
            go_wp2_with (first
              | (go_at_call 18; refine H1.out.mono ?_; clear H1; rintro e W1 ⟨rfl, K1⟩; have HK1 := hideI K1; have HD := H2 W1 K1; obtain ⟨y0, y1, y2, y3, y4, y5⟩ := (HB6 W1 K1).out; clear K1 H2)
              | (go_at_call 19; refine HD.out.mono ?_; clear HD; rintro e W2 ⟨-, h2, K2⟩; obtain ⟨aL, cL, he, ho⟩ := h2 L rfl; rw [← HN.out] at he; subst he; have HK2 := hideI (HK1.out.trans K2 (fun _ f => f.elim)); have HI2 := hideI (ins_of_own ho); have HEO := hideI (endsOnce_any L aL cL W2 HI2.out hl40 _ HB2.out); rw [← HN.out] at HEO; clear K2 h2 ho)
              | (go_at_call 20; refine HEO.out.mono ?_; clear HEO; rintro e W3 ⟨rfl, K3⟩; have HK3 := hideI (HK2.out.trans K3 (fun _ f => f.elim)); have HI3 := hideI (HI2.out.kept K3 (fun _ _ f => f)); have HGP := hideI (goodOperands_any p L aA aC aN aD aO aL cA cC cN cD cO cL W3 HO.out HLO.out HI3.out hl40 _ HB3.out); rw [← HN.out] at HGP; obtain ⟨t0, t1, t2, t3, t4, t5⟩ := (HB6 W3 HK3.out).out; clear K3)
              | (go_at_call 21; refine HGP.out.mono ?_; clear HGP; rintro e W4 ⟨rfl, K4⟩; have HK4 := hideI (HK3.out.trans K4 (fun _ f => f.elim)); have HI4 := hideI (HI3.out.kept K4 (fun _ _ f => f)); have HST := hideI (straight_any L aL cL W4 HI4.out hl40 HLX.out (HE.out.kept HK4.out).t); rw [← HN.out] at HST; clear K4)
              | (go_at_call 22; refine HST.out.mono ?_; clear HST; rintro e W5 ⟨-, h5, K5⟩; have he := h5 HS.out; subst he; have HK5 := hideI (HK4.out.trans K5 (fun _ f => f.elim)); have gc5 := HGC W5 HK5.out; clear K5 h5 HGC))
            go_quiet (fail)
            go_wp2
            go_ret2
            exact htP_bad HV.out rfl ((HKA.out.trans HK5.out (fun _ f => f.elim)).trans (Kept.drewN _ _) (fun _ f => f.elim))
end Go.Proofs.YtiebmmpnmklpnaaDoor
namespace Go.Proofs.YtiebmmpnmklpnaaDoor
open Go.ChangeShapes Go.WideShapes Go.ChangeAt Go.RowKit

/-- The greatest of numbers that aren't below 0. -/
def mxL (l : List Int) : Int := l.foldl max 0
theorem mx_take {l : List Int} {k : Nat} (h : k < l.length) : mxL (l.take (k + 1)) = max (mxL (l.take k)) l[k] := by
  unfold mxL
  rw [List.take_succ_eq_append_getElem h, List.foldl_append]
  rfl
theorem mx_ge (l : List Int) (x : Int) (h : x ∈ l) : x ≤ mxL l := by
  obtain ⟨k, hk, rfl⟩ := List.mem_iff_getElem.1 h
  have key : ∀ j, k < j → j ≤ l.length → l[k] ≤ mxL (l.take j) := by
    intro j
    induction j with
    | zero => intro h; omega
    | succ j ih =>
      intro h1 h2
      rw [mx_take (by omega)]
      by_cases hj : k = j
      · subst hj; omega
      · have := ih (by omega) (by omega); omega
  have := key l.length hk (Nat.le_refl _)
  rwa [List.take_length] at this
theorem mx_le (l : List Int) (m : Int) (h0 : 0 ≤ m) (h : ∀ x ∈ l, x ≤ m) : mxL l ≤ m := by
  have key : ∀ j, j ≤ l.length → mxL (l.take j) ≤ m := by
    intro j
    induction j with
    | zero => intro _; simpa [mxL] using h0
    | succ j ih =>
      intro h1
      rw [mx_take (by omega)]
      have := ih (by omega)
      have := h l[j] (List.getElem_mem (by omega))
      omega
  have := key l.length (Nat.le_refl _)
  rwa [List.take_length] at this
theorem mx_nn (l : List Int) : 0 ≤ mxL l := by
  have key : ∀ j, j ≤ l.length → 0 ≤ mxL (l.take j) := by
    intro j
    induction j with
    | zero => intro _; simp [mxL]
    | succ j ih =>
      intro h1
      rw [mx_take (by omega)]
      have := ih (by omega)
      omega
  have := key l.length (Nat.le_refl _)
  rwa [List.take_length] at this
theorem wpList_maxV {P : Program} {W : World} {ops : Array Oper} {rest : List Oper} {o : Oper} {act : Act} {Q : Exit → Act → World → Prop} {ts : Array TypeId} (hgd : o.guard = none) (s t : Operand)
    (ho : o.op = .call { callee := .builtin .max, args := #[s, t], argTypes := ts }) (x y m : Int) (hs : act.eval s = .int .i64 x) (ht : act.eval t = .int .i64 y) (hm : m = if y > x then y else x)
    (h : wpList P ops Q rest (act.put o.dst (.int .i64 m)) W) : wpList P ops Q (o :: rest) act W := by
  refine wpList_plain hgd fun K hK => ?_
  have hr : ∀ ty, (Builtin.max_ ts ty #[.int .i64 x, .int .i64 y]).run P W = .ok (.int .i64 m) W := fun ty => by rw [hm]; simp [Builtin.max_, Builtin.max2]
  unfold Oper.wp execOp
  simp only [ho, resolve, invoke, builtin, Sem.run_bind, Sem.run_pure, Result.andThen_ok, List.map_toArray, List.map_cons, List.map_nil, hs, ht, hr]
  exact hK _ _ h
set_option maxRecDepth 20000 in
set_option maxHeartbeats 1000000 in
theorem max_any (l : List Int) (a : Option Addr) (c : Nat) (w : World) (h : IntsAt w a l) (hl : l.length ≤ 1099511627776) (hne : l ≠ []) (hnn : ∀ x ∈ l, 0 ≤ x) :
    Calls Tryd.prog 17 #[.slice a l.length c] w fun e w' => e = .returned (.int .i64 (mxL l)) ∧ w' = w := by
  have h0 : 0 < l.length := List.length_pos_iff.2 hne
  obtain ⟨b, off, rfl, hc0⟩ := h.get h0
  have HH := hideI h
  obtain ⟨x0, hx0⟩ : ∃ x0, x0 = l[0]?.getD 0 := ⟨_, rfl⟩
  rw [← hx0, Nat.add_zero] at hc0
  have H1 : Hid (x0 = mxL (l.take 1)) := hideI (by
    have e := mx_take (k := 0) h0
    rw [Nat.zero_add] at e
    rw [e, hx0, List.getElem?_eq_getElem h0]
    have := hnn l[0] (List.getElem_mem h0)
    simp [mxL]
    omega)
  obtain ⟨n, hn⟩ : ∃ n, n = l.length := ⟨_, rfl⟩
  rw [← hn] at hl h0 ⊢
  have HN := hideI hn
  have hn1 : ¬ (n : Int) < 1 := by omega
  clear h hx0 hn hne hnn
  go_enter Tryd.func17, Tryd.ntmps17
  go_wp2
  go_loop [3, 4] (fun mv i => ∃ (k : Nat) (m : Int), 1 ≤ k ∧ k ≤ n ∧ mv = .int .i64 m ∧ i = .int .i64 k ∧ Hid (m = mxL (l.take k))) (fun _ i => n - (intOf i).toNat)
  case atStart => exact ⟨1, x0, by omega, by omega, rfl, rfl, H1⟩
  case round =>
    obtain ⟨k, m, hk1, hk, rfl, rfl, HM⟩ := hrel
    clear hc0
    by_cases hlt : k < n
    · have hkk : (k : Int) < (n : Int) := by omega
      have hkl : k < l.length := by rw [← HN.out]; exact hlt
      obtain ⟨b', off', e, hc⟩ := HH.out.get (k := k) hkl
      cases e
      obtain ⟨x, hx⟩ : ∃ x, x = l[k]?.getD 0 := ⟨_, rfl⟩
      rw [← hx] at hc
      obtain ⟨m', hm'⟩ : ∃ m', m' = if x > m then x else m := ⟨_, rfl⟩
      have HM2 : Hid (m' = mxL (l.take (k + 1))) := hideI (by
        rw [mx_take hkl, ← HM.out, hm']
        rw [List.getElem?_eq_getElem hkl, Option.getD_some] at hx
        rw [← hx]
        split <;> omega)
      have Hm' := hideI hm'
      clear hx hm' HM
      go_wp2_with (refine wpList_maxV rfl _ _ rfl m x m' rfl rfl Hm'.out ?_)
      go_round
      case rel => exact ⟨k + 1, m', by omega, by omega, rfl, by go_num, HM2⟩
      case measure => simp [intOf]; omega
    · have hkk : ¬ (k : Int) < (n : Int) := by omega
      go_wp2
      go_ret
      refine ⟨?_, rfl⟩
      have e := HM.out
      rw [List.take_of_length_le (by have := HN.out; omega)] at e
      rw [← e]; rfl
theorem hL_nn (L : List In) : ∀ x ∈ hL L, 0 ≤ x := by
  intro x hx
  obtain ⟨k, hk, rfl⟩ := List.mem_iff_getElem.1 hx
  rw [hL_get]; omega
theorem hL_mx (L : List In) : mxL (hL L) ≤ L.length := mx_le _ _ (by omega) (fun x hx => by
  obtain ⟨k, hk, rfl⟩ := List.mem_iff_getElem.1 hx
  rw [hL_get]
  rw [hL_len] at hk
  have := hA_le L k
  omega)
/-- What Check answers. -/
def ckP (w : World) (p : Pg) (ac : Addr) (e : Ending) (w' : World) : Prop :=
  (∀ L, Vok p L → e = .returned (.tuple #[.agg #[.int .i64 L.length, .int .i64 (mxL (hL L))], .nilIface])) ∧ ((¬ ∃ L, Vok p L) → e = .returned (.tuple #[.agg #[.int .i64 0, .int .i64 0], errV ac])) ∧ Kept (fun _ => False) w w'
theorem ckP_bad {w : World} {p : Pg} {ac : Addr} {e : Ending} {w' : World} (h : ¬ ∃ L, Vok p L) (he : e = .returned (.tuple #[.agg #[.int .i64 0, .int .i64 0], errV ac])) (k : Kept (fun _ => False) w w') : ckP w p ac e w' :=
  ⟨fun L hv => absurd ⟨L, hv⟩ h, fun _ => he, k⟩
theorem ckP_good {w : World} {p : Pg} {ac : Addr} {e : Ending} {w' : World} {L : List In} {n : Nat} {m : Int} (h : Vok p L) (hn : n = L.length) (hm : m = mxL (hL L)) (he : e = .returned (.tuple #[.agg #[.int .i64 n, .int .i64 m], .nilIface])) (k : Kept (fun _ => False) w w') : ckP w p ac e w' := by
  subst hn hm
  exact ⟨fun M hv => by obtain rfl := h.uniq hv; exact he, fun f => absurd ⟨L, h⟩ f, k⟩
theorem load_pf {W : World} {g : Nat} {x0 x1 : Value} (h : W.heap[g]? = some (.cells #[x0, x1] 31 (0, 0))) : (loadVar 31 ⟨g, 0, none⟩).run Tryd.prog W = .ok (.agg #[x0, x1]) W :=
  run_loadVar_row W g 31 31 #[x0, x1] (0, 0) _ h Tryd.underlying31 rfl (by kernel_rfl)
theorem pf_put2 {W : World} {g : Nat} {x0 x1 v0 v1 : Value} {t : TypeId} (h : W.heap[g]? = some (.cells #[x0, x1] t (0, 0))) : ((W.setCell ⟨g, 0, none⟩ v0).setCell ⟨g, 1, none⟩ v1).heap[g]? = some (.cells #[v0, v1] t (0, 0)) := by
  have h1 := heap_setCell_same W g 0 _ t v0 h
  have h2 := heap_setCell_same _ g 1 _ t v1 h1
  simpa using h2
theorem kept_put2 {F : Nat → Prop} {w W : World} {g : Nat} {v0 v1 : Value} (h : Kept F w W) (hg : w.heap.size ≤ g) : Kept F w ((W.setCell ⟨g, 0, none⟩ v0).setCell ⟨g, 1, none⟩ v1) :=
  (h.trans (Kept.setCell W ⟨g, 0, none⟩ v0) (fun i e => .inr (by simp only at e; omega))).trans (Kept.setCell _ ⟨g, 1, none⟩ v1) (fun i e => .inr (by simp only at e; omega))
end Go.Proofs.YtiebmmpnmklpnaaDoor
namespace Go.Proofs.YtiebmmpnmklpnaaDoor
open Go.ChangeShapes Go.WideShapes Go.ChangeAt Go.RowKit

theorem pf_cells {W : World} {g : Nat} {x0 x1 : Value} {t : TypeId} (z : W.heap[g]? = some (.cells #[x0, x1] t (0, 0))) : (W.cell? ⟨g, 0, none⟩ = some x0 ∧ W.cell? ⟨g, 1, none⟩ = some x1) ∧ (∀ i, W.frozen? ⟨g, i, none⟩ = false) := by
  refine ⟨⟨?_, ?_⟩, fun i => ?_⟩ <;> simp [World.cell?, World.frozen?, z]
set_option maxRecDepth 20000 in
set_option maxHeartbeats 8000000 in
theorem check_any (p : Pg) (aA aC aN aD aO : Option Addr) (cA cC cN cD cO : Nat) (a0 a1 ac : Addr) (w : World) (hP : PgAt w p aA aC aN aD aO) (hO : p.Ok) (hE : VE w a0 a1 ac) :
    Calls Tryd.prog 8 #[.agg #[.slice aA p.av.length cA, .slice aC p.cu.length cC, .slice aN p.nr.length cN, .bool p.al, .slice aD p.dr.length cD, .slice aO p.co.length cO]] w (ckP w p ac) := by
  have KA := Kept.alloc w (.cells #[.slice aA p.av.length cA, .slice aC p.cu.length cC, .slice aN p.nr.length cN, .bool p.al, .slice aD p.dr.length cD, .slice aO p.co.length cO] 27)
  have KB := KA.trans (Kept.alloc _ (.cells #[.int .i64 0, .int .i64 0] 31)) (fun _ f => f.elim)
  have HBX := heap_alloc_new (w.alloc (.cells #[.slice aA p.av.length cA, .slice aC p.cu.length cC, .slice aN p.nr.length cN, .bool p.al, .slice aD p.dr.length cD, .slice aO p.co.length cO] 27)) (.cells #[.int .i64 0, .int .i64 0] 31 (0, 0))
  have hsz : (w.alloc (.cells #[.slice aA p.av.length cA, .slice aC p.cu.length cC, .slice aN p.nr.length cN, .bool p.al, .slice aD p.dr.length cD, .slice aO p.co.length cO] 27)).heap.size = w.heap.size + 1 := by simp
  rw [hsz] at HBX
  have HH := hideI (heights_any p aA aC aN aD aO cA cC cN cD cO a0 a1 ac _ (hP.kept KB) hO (hE.kept KB))
  have HKB := hideI KB
  have HBX := hideI HBX
  obtain ⟨l1, l2, l3, l4, l5⟩ := hO.len
  have HBY := hO.co
  clear KA KB hP hO hE hsz l1 l2 l3 l4
  by_cases hv : ∃ L, Vok p L
  · obtain ⟨L, hv⟩ := hv
    have HV := hideI hv
    obtain ⟨n, hn⟩ : ∃ n, n = L.length := ⟨_, rfl⟩
    have HN := hideI hn
    obtain ⟨m, hm⟩ : ∃ m, m = mxL (hL L) := ⟨_, rfl⟩
    have HM := hideI hm
    have hln : n ≤ 1099511627776 := by
      obtain ⟨f1, -, -⟩ := dcI_form p.co.length p.co L (Nat.le_refl _) HBY hv.dc
      have q1 := ibL_ge L
      rw [f1] at q1
      omega
    have hn0 : 1 ≤ n := by rw [hn]; exact hv.gd.en.1
    have HMX := fun (a : Option Addr) (c : Nat) (W : World) (h : IntsAt W a (hL L)) => hideI (max_any (hL L) a c W h (by rw [hL_len, ← HN.out]; exact hln) (by intro e; have := hL_len L; rw [e] at this; simp at this; omega) (hL_nn L))
    rw [hL_len, ← hn, ← hm] at HMX
    clear hv hn hm HBY l5
    go_enter Tryd.func8, Tryd.ntmps8
    go_wp2_with (first
      | (go_at_call 10; refine HH.out.mono ?_; clear HH; rintro e W1 ⟨h1, -, K1⟩; obtain ⟨aH, cH, he, hg⟩ := h1 L HV.out; rw [← HN.out] at he hg; subst he; have HK1 := hideI (HKB.out.trans K1 (fun _ f => f.elim)); have HB1 := hideI (K1.heap HBX.out (fun f => f)); have HX := HMX aH cH W1 (gro_ints hg (by rw [hL_len]; exact HN.out)); clear K1 h1 hg HMX HBX)
      | (go_at_call 17; refine HX.out.mono ?_; clear HX; rintro e W2 ⟨rfl, rfl⟩; obtain ⟨⟨q0, q1⟩, q2⟩ := pf_cells HB1.out))
    refine bodyPost_ret (results_cellI rfl _ _ _ (w.heap.size + 1) _ rfl (load_pf (pf_put2 HB1.out))) rfl ?_
    exact ckP_good HV.out HN.out HM.out rfl (kept_put2 HK1.out (by omega))
  · have HV := hideI hv
    clear hv HBY l5
    go_enter Tryd.func8, Tryd.ntmps8
    go_wp2_with (go_at_call 10; refine HH.out.mono ?_; clear HH; rintro e W1 ⟨-, h2, K1⟩; have he := h2 HV.out; unfold errV at he; subst he; have HK1 := hideI (HKB.out.trans K1 (fun _ f => f.elim)); have HB1 := hideI (K1.heap HBX.out (fun f => f)); obtain ⟨⟨q0, q1⟩, q2⟩ := pf_cells HB1.out; clear K1 h2 HBX)
    refine bodyPost_ret (results_cellI rfl _ _ _ (w.heap.size + 1) _ rfl (load_pf (pf_put2 HB1.out))) rfl ?_
    exact ckP_bad HV.out rfl (kept_put2 HK1.out (by omega))
end Go.Proofs.YtiebmmpnmklpnaaDoor
