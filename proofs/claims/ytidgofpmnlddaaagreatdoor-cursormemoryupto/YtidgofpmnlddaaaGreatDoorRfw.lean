import Derived.Test.YtidgofpmnlddaaaGreatDoorRfv
namespace Go.Proofs.YtidgofpmnlddaaaGreatDoor
open Go.ChangeShapes Go.WideShapes Go.ChangeAt Go.RowKit

/-- What sorted leaves: the numbers less 'less', rising, each once. -/
def sdPost (W : World) (l : List Int) (less : Int) (e : Ending) (w' : World) : Prop := ∃ (a : Option Addr) (c : Nat) (O : List Int), e = .returned (.slice a O.length c) ∧ IntsAt w' a O ∧ Rsg O ∧ (∀ x, x ∈ O ↔ ∃ y ∈ l, x = y - less) ∧ O.length ≤ l.length ∧ Kept (fun _ => False) W w' ∧ Newa W a
theorem ints_takeU {W : World} {b off : Nat} {l : List Int} (h : ∀ k, k < l.length → W.cell? ⟨b, off + k, none⟩ = some (.int .i64 (l[k]?.getD 0))) (m : Nat) : IntsAt W (some ⟨b, off, none⟩) (l.take m) := by
  intro _
  refine ⟨b, off, rfl, fun k hk => ?_⟩
  rw [List.length_take] at hk
  rw [List.getElem?_take, if_pos (by omega)]
  exact h k (by omega)
theorem ints_dropU {W : World} {b off : Nat} {l : List Int} (h : ∀ k, k < l.length → W.cell? ⟨b, off + k, none⟩ = some (.int .i64 (l[k]?.getD 0))) (m : Nat) : IntsAt W (some ⟨b, off + m, none⟩) (l.drop m) := by
  intro _
  refine ⟨b, off + m, rfl, fun k hk => ?_⟩
  rw [List.length_drop] at hk
  rw [List.getElem?_drop, Nat.add_assoc]
  exact h (m + k) (by omega)
theorem ints_oneU (W : World) (x : Int) : IntsAt (W.alloc (.cells #[.int .i64 x] 3)) (some ⟨W.heap.size, 0, none⟩) [x] := by
  intro _
  refine ⟨W.heap.size, 0, rfl, fun k hk => ?_⟩
  obtain rfl : k = 0 := by simp at hk; omega
  rw [Nat.zero_add, cell_of_row _ _ 0 _ _ _ (heap_alloc_new W _)]
  rfl
set_option maxRecDepth 20000 in
set_option maxHeartbeats 8000000 in
theorem rsorted_any (less : Int) (h0 : 0 ≤ less ∧ less ≤ 2147483647) : ∀ (n : Nat) (l : List Int), l.length = n → ∀ (a : Option Addr) (c : Nat) (W : World), IntsAt W a l → (∀ y ∈ l, 0 ≤ y ∧ y ≤ 2147483647) → n ≤ c → n ≤ 274877906944 → Calls Tryz.prog 52 #[.slice a n c, .int .i64 less] W (sdPost W l less) := by
  intro n
  induction n using Nat.strongRecOn with
  | _ n ih =>
    intro l hln a c W hI hB hc hn
    by_cases hz : n = 0
    · subst hz
      obtain rfl : l = [] := List.length_eq_zero_iff.1 hln
      clear ih
      go_enter Tryz.func52, Tryz.ntmps52
      go_wp2
      go_ret
      exact ⟨none, 0, [], rfl, fun e => (e rfl).elim, List.Pairwise.nil, fun x => by simp, Nat.le_refl _, Kept.refl _ _, fun b off e => by cases e⟩
    obtain ⟨b, off, rfl, hcl⟩ := hI (by intro e; rw [e] at hln; simp at hln; omega)
    have z1 : ((n : Int) == 0) = false := by rw [beq_eq_false_iff_ne]; omega
    by_cases ho : n = 1
    · subst ho
      obtain ⟨y, rfl⟩ : ∃ y, l = [y] := by
        match l, hln with
        | [y], _ => exact ⟨y, rfl⟩
      have c0 := hcl 0 (by simp)
      simp only [List.getElem?_cons_zero, Option.getD_some, Nat.add_zero] at c0
      have hy := hB y (by simp)
      have HI := hideP (ints_oneU W (y - less))
      clear ih hcl hB z1
      go_enter Tryz.func52, Tryz.ntmps52
      go_wp2
      go_ret
      exact ⟨_, _, [y - less], rfl, HI.out, List.pairwise_singleton _ _, fun x => by simp, Nat.le_refl _, Kept.alloc _ _, fun b off e => by simp only [Option.some.injEq, Addr.mk.injEq, and_true] at e; rw [e.1]; exact Nat.le_refl _⟩
    have z2 : ((n : Int) == 1) = false := by rw [beq_eq_false_iff_ne]; omega
    obtain ⟨m, hm⟩ : ∃ m, m = n / 2 := ⟨_, rfl⟩
    have e1 : (n : Int).tdiv 2 = (m : Int) := by rw [Int.tdiv_eq_ediv_of_nonneg (by omega)]; omega
    have e2 : (n : Int) / 2 = (m : Int) := by omega
    have hmn : m < n ∧ 0 < m := by omega
    have C1 := hideP (ih m (by omega) (l.take m) (by rw [List.length_take]; omega) (some ⟨b, off, none⟩) c W (ints_takeU hcl m) (fun y hy => hB y (List.mem_of_mem_take hy)) (by omega) (by omega))
    have C2 : Hid (∀ V, Kept (fun _ => False) W V → Calls Tryz.prog 52 #[.slice (some ⟨b, off + m, none⟩) (n - m) (c - m), .int .i64 less] V (sdPost V (l.drop m) less)) := hideP (fun V k => ih (n - m) (by omega) (l.drop m) (by rw [List.length_drop]; omega) (some ⟨b, off + m, none⟩) (c - m) V ((ints_dropU hcl m).kept k) (fun y hy => hB y (List.mem_of_mem_drop hy)) (by omega) (by omega))
    have hL : l = l.take m ++ l.drop m := (List.take_append_drop m l).symm
    have HL := hideP hL
    have HLN := hideP hln
    clear ih hcl hB hln hL hm
    go_enter Tryz.func52, Tryz.ntmps52
    go_wp2_with (go_at_call 52; refine StpQ.go ?_)
    refine ⟨?_⟩
    refine C1.out.mono ?_
    clear C1
    rintro e V1 ⟨a1, c1, O1, rfl, hI1, hR1, hM1, hl1, k1, -⟩
    have HI1 := hideP hI1
    have HR1 := hideP hR1
    have HM1 := hideP hM1
    have HL1 := hideP hl1
    have C3 := hideP (C2.out V1 k1)
    have HK1 := hideP k1
    clear hI1 hR1 hM1 hl1 k1 C2
    go_wp2_with (go_at_call 52; refine StpQ.go ?_)
    refine ⟨?_⟩
    refine C3.out.mono ?_
    clear C3
    rintro e V2 ⟨a2, c3, O2, rfl, hI2, hR2, hM2, hl2, k2, -⟩
    have hl1 := HL1.out
    rw [List.length_take] at hl1
    have hl2' := hl2
    rw [List.length_drop, HLN.out] at hl2'
    have CU := hideP (union_any O1 O2 a1 a2 c1 c3 V2 (HI1.out.kept k2) hI2 HR1.out hR2 (by omega))
    have HM2 := hideP hM2
    have HK2 := hideP (HK1.out.trans k2 (fun _ f => f.elim))
    have HLB : Hid (O1.length + O2.length ≤ l.length) := hideP (by rw [HLN.out]; omega)
    clear hI2 hR2 hM2 hl2 k2 hl1 hl2'
    go_wp2_with (go_at_call 53; refine StpQ.go ?_)
    refine ⟨?_⟩
    refine CU.out.mono ?_
    clear CU
    rintro e V3 ⟨a4, c4, O3, rfl, hI3, hR3, hM3, hl3, k3, n3⟩
    have HP : Hid (sdPost W l less (.returned (.slice a4 O3.length c4)) V3) := hideP ⟨a4, c4, O3, rfl, hI3, hR3, fun x => by
      rw [hM3, HM1.out, HM2.out]
      constructor
      · rintro (⟨y, hy, e⟩ | ⟨y, hy, e⟩)
        · exact ⟨y, List.mem_of_mem_take hy, e⟩
        · exact ⟨y, List.mem_of_mem_drop hy, e⟩
      · rintro ⟨y, hy, e⟩
        rw [HL.out] at hy
        rcases List.mem_append.1 hy with q | q
        · exact .inl ⟨y, q, e⟩
        · exact .inr ⟨y, q, e⟩, by have := HLB.out; omega, HK2.out.trans k3 (fun _ f => f.elim), n3.older HK2.out.size⟩
    clear hI3 hR3 hM3 hl3 k3 n3
    go_wp2
    go_ret
    exact HP.out
end Go.Proofs.YtidgofpmnlddaaaGreatDoor
