import Derived.Test.YtehjbceknnopoaaDoorUpb
import Derived.BigQuiet
namespace Go.Proofs.YtehjbceknnopoaaDoor
open Go.ChangeShapes Go.WideShapes Go.ChangeAt Go.RowKit

set_option maxRecDepth 20000 in
set_option maxHeartbeats 4000000 in
theorem same_true (A B : List BkD) (a b : Option Addr) (c d n m : Nat) (w : World) (hA : BksAt w a A) (hB : BksAt w b B) (eA : ∀ x ∈ A, x.At w) (eB : ∀ x ∈ B, x.At w) (he : A.map bkv = B.map bkv) (hn : n = A.length) (hm : m = B.length) (hl : n ≤ 1099511627776) :
    Calls Tryd.prog 13 #[.slice a n c, .slice b m d] w fun e w' => e = .returned (.bool true) ∧ Kept (fun _ => False) w w' := by
  have hnm : m = n := by
    have := congrArg List.length he
    rw [List.length_map, List.length_map] at this
    omega
  have hel : ∀ k (h1 : k < A.length) (h2 : k < B.length), (A[k]).t = (B[k]).t ∧ (A[k]).B = (B[k]).B := by
    intro k h1 h2
    have e : (A.map bkv)[k]'(by rw [List.length_map]; exact h1) = (B.map bkv)[k]'(by rw [List.length_map]; exact h2) := by simp only [he]
    rw [List.getElem_map, List.getElem_map] at e
    simp only [bkv, Prod.mk.injEq] at e
    exact ⟨by omega, e.2⟩
  subst hnm
  have HA := hideC hA
  have HB := hideC hB
  have EA := hideC eA
  have EB := hideC eB
  have HEL := hideC hel
  have HN := hideC hn
  have HM := hideC hm
  clear hA hB eA eB hel he hn hm
  go_enter Tryd.func13, Tryd.ntmps13
  go_wp2
  go_loopw [13] (fun i wr => ∃ k : Nat, k ≤ m ∧ i = .int .i64 k ∧ Hid (Kept (fun _ => False) w wr)) (fun i _ => m - (intOf i).toNat)
  case atStart => exact ⟨0, Nat.zero_le _, rfl, Kept.refl _ _⟩
  case round =>
    obtain ⟨k, hk, rfl, HK⟩ := hrel
    by_cases hlt : k < m
    · have hlA : k < A.length := by rw [← HN.out]; exact hlt
      have hlB : k < B.length := by rw [← HM.out]; exact hlt
      obtain ⟨b1, o1, rfl, hc1⟩ := HA.out (by intro e; rw [e] at hlA; simp at hlA)
      obtain ⟨b2, o2, rfl, hc2⟩ := HB.out (by intro e; rw [e] at hlB; simp at hlB)
      have h0 := HK.out.cell (hc1 k hlA).1 (fun f => f)
      have h1 := HK.out.cell (hc1 k hlA).2 (fun f => f)
      have g0 := HK.out.cell (hc2 k hlB).1 (fun f => f)
      have g1 := HK.out.cell (hc2 k hlB).2 (fun f => f)
      obtain ⟨q1, q2⟩ := HEL.out k hlA hlB
      have cvA : ∀ j, (convert 22 9 (.slice (A[k]).a (A[k]).B.length (A[k]).c)).run Tryd.prog (wr.drewN j) = .ok (.string (strOfNums (A[k]).B)) (wr.drewN j) := fun j => conv_atF (bytes_keptF ((EA.out _ (List.getElem_mem hlA)).kept HK.out).b (Kept.drewN wr j))
      have cvB : ∀ j, (convert 22 9 (.slice (B[k]).a (B[k]).B.length (B[k]).c)).run Tryd.prog (wr.drewN j) = .ok (.string (strOfNums (B[k]).B)) (wr.drewN j) := fun j => conv_atF (bytes_keptF ((EB.out _ (List.getElem_mem hlB)).kept HK.out).b (Kept.drewN wr j))
      rw [← q1] at g0
      rw [← q2] at g1 cvB
      generalize (A[k]).t = t at h0 g0
      generalize (A[k]).a = ax at h1 cvA
      generalize (A[k]).c = cx at h1 cvA
      generalize (B[k]).a = bx at g1 cvB
      generalize (B[k]).c = dx at g1 cvB
      generalize strOfNums (A[k]).B = st at cvA cvB
      generalize (A[k]).B.length = nx at h1 g1 cvA cvB
      have cvA1 : (convert 22 9 (.slice ax nx cx)).run Tryd.prog wr.drew = .ok (.string st) wr.drew := cvA 1
      have cvB1 : (convert 22 9 (.slice bx nx dx)).run Tryd.prog wr.drew = .ok (.string st) wr.drew := cvB 1
      have cvA0 : (convert 22 9 (.slice ax nx cx)).run Tryd.prog wr = .ok (.string st) wr := cvA 0
      have cvB0 : (convert 22 9 (.slice bx nx dx)).run Tryd.prog wr = .ok (.string st) wr := cvB 0
      have i1 : (k : Int) < (m : Int) := by omega
      clear q1 q2 hc1 hc2 HEL
      go_wp2
      go_quiet (fail)
      go_wp2
      go_roundw
      case rel => exact ⟨k + 1, by omega, by go_num, HK.out.trans (Kept.drewN _ _) (fun _ f => f.elim)⟩
      case measure => simp [intOf]; omega
    · have i1 : ¬ ((k : Int) < (m : Int)) := by omega
      go_wp2
      go_ret
      exact ⟨rfl, HK.out⟩
end Go.Proofs.YtehjbceknnopoaaDoor
