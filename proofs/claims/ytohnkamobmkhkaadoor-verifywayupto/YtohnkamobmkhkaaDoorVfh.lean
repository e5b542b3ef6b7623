import Derived.Test.YtohnkamobmkhkaaDoorVfg
namespace Go.Proofs.YtohnkamobmkhkaaDoor
open Go.ChangeShapes Go.WideShapes Go.ChangeAt Go.RowKit

theorem bin3 {W : World} {g : Nat} {x0 x1 x2 : Value} {t : TypeId} (z : W.heap[g]? = some (.cells #[x0, x1, x2] t (0, 0))) : W.cell? ⟨g, 0, none⟩ = some x0 ∧ W.cell? ⟨g, 1, none⟩ = some x1 ∧ W.cell? ⟨g, 2, none⟩ = some x2 := by
  refine ⟨?_, ?_, ?_⟩ <;> simp [World.cell?, z]
set_option maxRecDepth 20000 in
set_option maxHeartbeats 8000000 in
theorem goodOperand_any (p : Pg) (x : In) (m : Nat) (vA vC vN vL vD vO : Value) (aA aC aN : Option Addr) (cA cC cN : Nat) (w : World) (e0 : vA = .slice aA p.av.length cA) (e1 : vC = .slice aC p.cu.length cC) (e2 : vN = .slice aN p.nr.length cN)
    (hO : p.Ok) (hx : x.Ok) (hm : m ≤ 1099511627776) (v : Bool) (hv : v = true ↔ OpOk p x m) :
    Calls Tryd.prog 45 #[.agg #[vA, vC, vN, vL, vD, vO], .agg #[.int .i64 x.op, .int .u64 x.a, .int .u64 x.b], .int .i64 m] w fun e w' => e = .returned (.bool v) ∧ Kept (fun _ => False) w w' := by
  subst e0 e1 e2
  obtain ⟨l1, -, l3, l4, -⟩ := hO.len
  have HV := hideI hv
  have hxa := hx.ha
  have hxb := hx.hb
  obtain ⟨op, a, b⟩ := x
  simp only at hxa hxb ⊢
  unfold OpOk at HV
  simp only at HV
  clear hO hx hv
  generalize p.av.length = n1 at *
  generalize p.cu.length = n2 at *
  generalize p.nr.length = n3 at *
  obtain ⟨o1, ho1⟩ : ∃ o1, o1 = Obj.cells #[.slice aA n1 cA, .slice aC n2 cC, .slice aN n3 cN, vL, vD, vO] 27 := ⟨_, rfl⟩
  obtain ⟨o2, ho2⟩ : ∃ o2, o2 = Obj.cells #[.int .i64 op, .int .u64 (a : Int), .int .u64 (b : Int)] 56 := ⟨_, rfl⟩
  have HK : Hid (Kept (fun _ => False) w ((w.alloc o1).alloc o2)) := hideI ((Kept.alloc w o1).trans (Kept.alloc _ o2) (fun _ f => f.elim))
  rw [ho1, ho2] at HK
  clear ho1 ho2 o1 o2
  by_cases h3 : op = 3
  · subst h3
    have hv3 : v = decide (a < n1) := by
      rw [Bool.eq_iff_iff, HV.out]; simp
    clear HV
    subst hv3
    go_enter Tryd.func45, Tryd.ntmps45
    go_wp2
    go_ret
    exact ⟨rfl, HK.out⟩
  by_cases h4 : op = 4
  · subst h4
    have hv3 : v = decide (a < n2) := by
      rw [Bool.eq_iff_iff, HV.out]; simp
    clear HV
    subst hv3
    go_enter Tryd.func45, Tryd.ntmps45
    go_wp2
    go_ret
    exact ⟨rfl, HK.out⟩
  by_cases h5 : op = 5
  · subst h5
    have hv3 : v = decide (a < n3) := by
      rw [Bool.eq_iff_iff, HV.out]; simp
    clear HV
    subst hv3
    go_enter Tryd.func45, Tryd.ntmps45
    go_wp2
    go_ret
    exact ⟨rfl, HK.out⟩
  by_cases h14 : op = 14
  · subst h14
    by_cases hb1 : 1 ≤ b
    · have hv3 : v = decide (b ≤ a) := by
        rw [Bool.eq_iff_iff, HV.out]; simp [hb1]
      have hb2 : (1 : Int) ≤ (b : Int) := by omega
      clear HV
      subst hv3
      go_enter Tryd.func45, Tryd.ntmps45
      go_wp2
      go_ret
      exact ⟨rfl, HK.out⟩
    · have hf := isB_f HV.out (fun e => hb1 (e.2.2.2.1 rfl).1)
      have hb2 : ¬ (1 : Int) ≤ (b : Int) := by omega
      subst hf
      clear HV
      go_enter Tryd.func45, Tryd.ntmps45
      go_wp2
      go_ret
      exact ⟨rfl, HK.out⟩
  by_cases h15 : op = 15
  · subst h15
    have hv3 : v = decide (a < m) := by
      rw [Bool.eq_iff_iff, HV.out]; simp
    clear HV
    subst hv3
    go_enter Tryd.func45, Tryd.ntmps45
    go_wp2
    go_ret
    exact ⟨rfl, HK.out⟩
  by_cases h16 : op = 16
  · subst h16
    have hv3 : v = decide (a < m) := by
      rw [Bool.eq_iff_iff, HV.out]; simp
    clear HV
    subst hv3
    go_enter Tryd.func45, Tryd.ntmps45
    go_wp2
    go_ret
    exact ⟨rfl, HK.out⟩
  have ht : v = true := HV.out.2 ⟨fun e => absurd e h3, fun e => absurd e h4, fun e => absurd e h5, fun e => absurd e h14, fun e => absurd e h15, fun e => absurd e h16⟩
  subst ht
  clear HV
  go_enter Tryd.func45, Tryd.ntmps45
  go_wp2
  go_ret
  exact ⟨rfl, HK.out⟩
end Go.Proofs.YtohnkamobmkhkaaDoor
