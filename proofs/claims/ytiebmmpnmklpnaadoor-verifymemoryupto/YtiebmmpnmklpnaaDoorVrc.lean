import Derived.Test.YtiebmmpnmklpnaaDoorMrg8
namespace Go.Proofs.YtiebmmpnmklpnaaDoor
open Go.ChangeShapes Go.WideShapes Go.ChangeAt Go.RowKit

def BhOk (x : In) (h : Nat) : Prop := tkN x ≤ h ∧ (x.op = 0 → h = 1)
def OnOk (p : Pg) (x : In) : Prop := (x.op = 3 → x.a < p.av.length) ∧ (x.op = 4 → x.a < p.cu.length) ∧ (x.op = 5 → x.a < p.nr.length) ∧ (x.op = 14 → 1 ≤ x.b ∧ x.b ≤ x.a)
set_option maxRecDepth 20000 in
set_option maxHeartbeats 16000000 in
theorem rbehind_any (x : In) (h : Nat) (w : World) (hx : x.Ok) (hxo : 0 ≤ x.op ∧ x.op < 17) (hh : h ≤ 1099511627776) (v : Bool) (hv : v = true ↔ BhOk x h) :
    Calls Tryd.prog 45 #[.agg #[.int .i64 x.op, .int .u64 x.a, .int .u64 x.b], .int .i64 h] w (spP w x h v) := by
  have HV := hideI hv
  have hxa := hx.ha
  obtain ⟨op, a, b⟩ := x
  obtain ⟨k, rfl⟩ : ∃ k : Nat, op = k := ⟨op.toNat, by simp only at hxo; omega⟩
  have hk : k < 17 := by simp only at hxo; omega
  simp only at hxa
  unfold BhOk at HV
  simp only at HV
  have HK : Hid (Kept (fun _ => False) w (w.alloc (.cells #[.int .i64 (k : Int), .int .u64 (a : Int), .int .u64 (b : Int)] 74))) := hideI (Kept.alloc w _)
  have HTk : Hid (∀ j : Nat, k = j → j ≠ 14 → tkN ⟨(k : Int), a, b⟩ = tkL.getD j 0) := hideI (fun j e hj => by
    subst e
    unfold tkN
    rw [if_neg (by simp only; omega)]
    simp only [Int.toNat_natCast])
  have HTl : Hid (k = 14 → tkN ⟨(k : Int), a, b⟩ = a) := hideI (fun e => by
    subst e; rfl)
  clear hx hxo hv
  by_cases hk0 : k = 0
  · have ht := HTk.out 0 hk0 (by decide)
    rw [show tkL.getD 0 0 = 1 from rfl] at ht
    rw [ht] at HV
    have HTT := hideI ht
    clear HTk HTl ht
    subst hk0
    have hv : v = decide ((h : Int) = 1) := by
      rw [Bool.eq_iff_iff, HV.out]; simp <;> omega
    subst hv
    clear HV
    go_enter Tryd.func45, Tryd.ntmps45
    go_wp2
    go_ret2
    exact ⟨⟨_, rfl, fun e => by rw [HTT.out]; simp at e; omega⟩, HK.out⟩
  by_cases hk1 : k = 1
  · have ht := HTk.out 1 hk1 (by decide)
    rw [show tkL.getD 1 0 = 0 from rfl] at ht
    rw [ht] at HV
    have HTT := hideI ht
    clear HTk HTl ht
    subst hk1
    have ht : v = true := HV.out.2 ⟨by omega, fun e => by (exfalso; revert e; decide)⟩
    subst ht
    clear HV
    go_enter Tryd.func45, Tryd.ntmps45
    go_wp2
    go_ret2
    exact ⟨⟨_, rfl, fun _ => by rw [HTT.out]; omega⟩, HK.out⟩
  by_cases hk2 : k = 2
  · have ht := HTk.out 2 hk2 (by decide)
    rw [show tkL.getD 2 0 = 0 from rfl] at ht
    rw [ht] at HV
    have HTT := hideI ht
    clear HTk HTl ht
    subst hk2
    have ht : v = true := HV.out.2 ⟨by omega, fun e => by (exfalso; revert e; decide)⟩
    subst ht
    clear HV
    go_enter Tryd.func45, Tryd.ntmps45
    go_wp2
    go_ret2
    exact ⟨⟨_, rfl, fun _ => by rw [HTT.out]; omega⟩, HK.out⟩
  by_cases hk3 : k = 3
  · have ht := HTk.out 3 hk3 (by decide)
    rw [show tkL.getD 3 0 = 0 from rfl] at ht
    rw [ht] at HV
    have HTT := hideI ht
    clear HTk HTl ht
    subst hk3
    have ht : v = true := HV.out.2 ⟨by omega, fun e => by (exfalso; revert e; decide)⟩
    subst ht
    clear HV
    go_enter Tryd.func45, Tryd.ntmps45
    go_wp2
    go_ret2
    exact ⟨⟨_, rfl, fun _ => by rw [HTT.out]; omega⟩, HK.out⟩
  by_cases hk4 : k = 4
  · have ht := HTk.out 4 hk4 (by decide)
    rw [show tkL.getD 4 0 = 0 from rfl] at ht
    rw [ht] at HV
    have HTT := hideI ht
    clear HTk HTl ht
    subst hk4
    have ht : v = true := HV.out.2 ⟨by omega, fun e => by (exfalso; revert e; decide)⟩
    subst ht
    clear HV
    go_enter Tryd.func45, Tryd.ntmps45
    go_wp2
    go_ret2
    exact ⟨⟨_, rfl, fun _ => by rw [HTT.out]; omega⟩, HK.out⟩
  by_cases hk5 : k = 5
  · have ht := HTk.out 5 hk5 (by decide)
    rw [show tkL.getD 5 0 = 0 from rfl] at ht
    rw [ht] at HV
    have HTT := hideI ht
    clear HTk HTl ht
    subst hk5
    have ht : v = true := HV.out.2 ⟨by omega, fun e => by (exfalso; revert e; decide)⟩
    subst ht
    clear HV
    go_enter Tryd.func45, Tryd.ntmps45
    go_wp2
    go_ret2
    exact ⟨⟨_, rfl, fun _ => by rw [HTT.out]; omega⟩, HK.out⟩
  by_cases hk6 : k = 6
  · have ht := HTk.out 6 hk6 (by decide)
    rw [show tkL.getD 6 0 = 2 from rfl] at ht
    rw [ht] at HV
    have HTT := hideI ht
    clear HTk HTl ht
    subst hk6
    have hv : v = decide ((2 : Int) ≤ (h : Int)) := by
      rw [Bool.eq_iff_iff, HV.out]; simp <;> omega
    subst hv
    clear HV
    go_enter Tryd.func45, Tryd.ntmps45
    go_wp2
    go_ret2
    exact ⟨⟨_, rfl, fun e => by rw [HTT.out]; simp at e; omega⟩, HK.out⟩
  by_cases hk7 : k = 7
  · have ht := HTk.out 7 hk7 (by decide)
    rw [show tkL.getD 7 0 = 2 from rfl] at ht
    rw [ht] at HV
    have HTT := hideI ht
    clear HTk HTl ht
    subst hk7
    have hv : v = decide ((2 : Int) ≤ (h : Int)) := by
      rw [Bool.eq_iff_iff, HV.out]; simp <;> omega
    subst hv
    clear HV
    go_enter Tryd.func45, Tryd.ntmps45
    go_wp2
    go_ret2
    exact ⟨⟨_, rfl, fun e => by rw [HTT.out]; simp at e; omega⟩, HK.out⟩
  by_cases hk8 : k = 8
  · have ht := HTk.out 8 hk8 (by decide)
    rw [show tkL.getD 8 0 = 2 from rfl] at ht
    rw [ht] at HV
    have HTT := hideI ht
    clear HTk HTl ht
    subst hk8
    have hv : v = decide ((2 : Int) ≤ (h : Int)) := by
      rw [Bool.eq_iff_iff, HV.out]; simp <;> omega
    subst hv
    clear HV
    go_enter Tryd.func45, Tryd.ntmps45
    go_wp2
    go_ret2
    exact ⟨⟨_, rfl, fun e => by rw [HTT.out]; simp at e; omega⟩, HK.out⟩
  by_cases hk9 : k = 9
  · have ht := HTk.out 9 hk9 (by decide)
    rw [show tkL.getD 9 0 = 2 from rfl] at ht
    rw [ht] at HV
    have HTT := hideI ht
    clear HTk HTl ht
    subst hk9
    have hv : v = decide ((2 : Int) ≤ (h : Int)) := by
      rw [Bool.eq_iff_iff, HV.out]; simp <;> omega
    subst hv
    clear HV
    go_enter Tryd.func45, Tryd.ntmps45
    go_wp2
    go_ret2
    exact ⟨⟨_, rfl, fun e => by rw [HTT.out]; simp at e; omega⟩, HK.out⟩
  by_cases hk10 : k = 10
  · have ht := HTk.out 10 hk10 (by decide)
    rw [show tkL.getD 10 0 = 2 from rfl] at ht
    rw [ht] at HV
    have HTT := hideI ht
    clear HTk HTl ht
    subst hk10
    have hv : v = decide ((2 : Int) ≤ (h : Int)) := by
      rw [Bool.eq_iff_iff, HV.out]; simp <;> omega
    subst hv
    clear HV
    go_enter Tryd.func45, Tryd.ntmps45
    go_wp2
    go_ret2
    exact ⟨⟨_, rfl, fun e => by rw [HTT.out]; simp at e; omega⟩, HK.out⟩
  by_cases hk11 : k = 11
  · have ht := HTk.out 11 hk11 (by decide)
    rw [show tkL.getD 11 0 = 1 from rfl] at ht
    rw [ht] at HV
    have HTT := hideI ht
    clear HTk HTl ht
    subst hk11
    have hv : v = decide ((1 : Int) ≤ (h : Int)) := by
      rw [Bool.eq_iff_iff, HV.out]; simp <;> omega
    subst hv
    clear HV
    go_enter Tryd.func45, Tryd.ntmps45
    go_wp2
    go_ret2
    exact ⟨⟨_, rfl, fun e => by rw [HTT.out]; simp at e; omega⟩, HK.out⟩
  by_cases hk12 : k = 12
  · have ht := HTk.out 12 hk12 (by decide)
    rw [show tkL.getD 12 0 = 1 from rfl] at ht
    rw [ht] at HV
    have HTT := hideI ht
    clear HTk HTl ht
    subst hk12
    have hv : v = decide ((1 : Int) ≤ (h : Int)) := by
      rw [Bool.eq_iff_iff, HV.out]; simp <;> omega
    subst hv
    clear HV
    go_enter Tryd.func45, Tryd.ntmps45
    go_wp2
    go_ret2
    exact ⟨⟨_, rfl, fun e => by rw [HTT.out]; simp at e; omega⟩, HK.out⟩
  by_cases hk13 : k = 13
  · have ht := HTk.out 13 hk13 (by decide)
    rw [show tkL.getD 13 0 = 1 from rfl] at ht
    rw [ht] at HV
    have HTT := hideI ht
    clear HTk HTl ht
    subst hk13
    have hv : v = decide ((1 : Int) ≤ (h : Int)) := by
      rw [Bool.eq_iff_iff, HV.out]; simp <;> omega
    subst hv
    clear HV
    go_enter Tryd.func45, Tryd.ntmps45
    go_wp2
    go_ret2
    exact ⟨⟨_, rfl, fun e => by rw [HTT.out]; simp at e; omega⟩, HK.out⟩
  by_cases hk14 : k = 14
  · have ht := HTl.out hk14
    rw [ht] at HV
    clear HTk HTl ht
    subst hk14
    by_cases h4 : a > h
    · have hf := isB_f HV.out (fun e => by have := e.1; omega)
      subst hf
      have g4 : (a : Int) > (h : Int) := by omega
      clear HV
      go_enter Tryd.func45, Tryd.ntmps45
      go_wp2
      go_ret2
      exact ⟨⟨_, rfl, fun e => by cases e⟩, HK.out⟩
    · have ht : v = true := HV.out.2 ⟨by omega, fun e => by (exfalso; revert e; decide)⟩
      subst ht
      have g4 : ¬ (a : Int) > (h : Int) := by omega
      have g5 : IntKind.i64.wrap (a : Int) = (a : Int) := by rw [IntKind.wrap_i64]; omega
      clear HV
      go_enter Tryd.func45, Tryd.ntmps45
      go_wp2
      go_ret2
      exact ⟨⟨_, rfl, fun _ => by rw [show tkN ⟨14, a, b⟩ = a from rfl]; omega⟩, HK.out⟩
  by_cases hk15 : k = 15
  · have ht := HTk.out 15 hk15 (by decide)
    rw [show tkL.getD 15 0 = 1 from rfl] at ht
    rw [ht] at HV
    have HTT := hideI ht
    clear HTk HTl ht
    subst hk15
    have hv : v = decide ((1 : Int) ≤ (h : Int)) := by
      rw [Bool.eq_iff_iff, HV.out]; simp <;> omega
    subst hv
    clear HV
    go_enter Tryd.func45, Tryd.ntmps45
    go_wp2
    go_ret2
    exact ⟨⟨_, rfl, fun e => by rw [HTT.out]; simp at e; omega⟩, HK.out⟩
  by_cases hk16 : k = 16
  · have ht := HTk.out 16 hk16 (by decide)
    rw [show tkL.getD 16 0 = 1 from rfl] at ht
    rw [ht] at HV
    have HTT := hideI ht
    clear HTk HTl ht
    subst hk16
    have hv : v = decide ((1 : Int) ≤ (h : Int)) := by
      rw [Bool.eq_iff_iff, HV.out]; simp <;> omega
    subst hv
    clear HV
    go_enter Tryd.func45, Tryd.ntmps45
    go_wp2
    go_ret2
    exact ⟨⟨_, rfl, fun e => by rw [HTT.out]; simp at e; omega⟩, HK.out⟩
  omega
set_option maxRecDepth 20000 in
set_option maxHeartbeats 16000000 in
theorem roperands_vany (p : Pg) (x : In) (vA vC vN vL vD vO : Value) (aA aC aN : Option Addr) (cA cC cN : Nat) (w : World) (e0 : vA = .slice aA p.av.length cA) (e1 : vC = .slice aC p.cu.length cC) (e2 : vN = .slice aN p.nr.length cN)
    (hO : p.Ok) (hx : x.Ok) (v : Bool) (hv : v = true ↔ OnOk p x) :
    Calls Tryd.prog 46 #[.agg #[vA, vC, vN, vL, vD, vO], .agg #[.int .i64 x.op, .int .u64 x.a, .int .u64 x.b]] w fun e w' => e = .returned (.bool v) ∧ Kept (fun _ => False) w w' := by
  subst e0 e1 e2
  obtain ⟨l1, -, l3, l4, -⟩ := hO.len
  have HV := hideI hv
  have hxa := hx.ha
  have hxb := hx.hb
  obtain ⟨op, a, b⟩ := x
  simp only at hxa hxb ⊢
  unfold OnOk at HV
  simp only at HV
  clear hO hx hv
  generalize p.av.length = n1 at *
  generalize p.cu.length = n2 at *
  generalize p.nr.length = n3 at *
  have HK : Hid (Kept (fun _ => False) w ((w.alloc (.cells #[.slice aA n1 cA, .slice aC n2 cC, .slice aN n3 cN, vL, vD, vO] 27)).alloc (.cells #[.int .i64 op, .int .u64 (a : Int), .int .u64 (b : Int)] 74))) := hideI ((Kept.alloc w _).trans (Kept.alloc _ _) (fun _ f => f.elim))
  by_cases h3 : op = 3
  · subst h3
    have hv3 : v = decide (a < n1) := by
      rw [Bool.eq_iff_iff, HV.out]; simp
    clear HV
    subst hv3
    go_enter Tryd.func46, Tryd.ntmps46
    go_wp2
    go_ret
    exact ⟨rfl, HK.out⟩
  by_cases h4 : op = 4
  · subst h4
    have hv3 : v = decide (a < n2) := by
      rw [Bool.eq_iff_iff, HV.out]; simp
    clear HV
    subst hv3
    go_enter Tryd.func46, Tryd.ntmps46
    go_wp2
    go_ret
    exact ⟨rfl, HK.out⟩
  by_cases h5 : op = 5
  · subst h5
    have hv3 : v = decide (a < n3) := by
      rw [Bool.eq_iff_iff, HV.out]; simp
    clear HV
    subst hv3
    go_enter Tryd.func46, Tryd.ntmps46
    go_wp2
    go_ret
    exact ⟨rfl, HK.out⟩
  by_cases h14 : op = 14
  · subst h14
    by_cases hb0 : 1 ≤ a
    · have hb0i : (1 : Int) ≤ (a : Int) := by omega
      have hb0j : (a : Int) ≥ 1 := by omega
      by_cases hb1 : 1 ≤ b
      · have hv3 : v = decide (b ≤ a) := by
          rw [Bool.eq_iff_iff, HV.out]; simp [hb1]
        have hb2 : (1 : Int) ≤ (b : Int) := by omega
        have hb3 : (b : Int) ≥ 1 := by omega
        clear HV
        subst hv3
        go_enter Tryd.func46, Tryd.ntmps46
        go_wp2
        go_ret
        exact ⟨rfl, HK.out⟩
      · have hf := isB_f HV.out (fun e => hb1 (e.2.2.2 rfl).1)
        have hb2 : ¬ (1 : Int) ≤ (b : Int) := by omega
        have hb3 : ¬ (b : Int) ≥ 1 := by omega
        subst hf
        clear HV
        go_enter Tryd.func46, Tryd.ntmps46
        go_wp2
        go_ret
        exact ⟨rfl, HK.out⟩
    · have hf := isB_f HV.out (fun e => by have := e.2.2.2 rfl; omega)
      have hb0i : ¬ (1 : Int) ≤ (a : Int) := by omega
      have hb0j : ¬ (a : Int) ≥ 1 := by omega
      subst hf
      clear HV
      go_enter Tryd.func46, Tryd.ntmps46
      go_wp2
      go_ret
      exact ⟨rfl, HK.out⟩
  have ht : v = true := HV.out.2 ⟨fun e => absurd e h3, fun e => absurd e h4, fun e => absurd e h5, fun e => absurd e h14⟩
  subst ht
  clear HV
  go_enter Tryd.func46, Tryd.ntmps46
  go_wp2
  go_ret
  exact ⟨rfl, HK.out⟩
end Go.Proofs.YtiebmmpnmklpnaaDoor
