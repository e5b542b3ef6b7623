import Derived.Test.YtcbhgpdookappaaDoorDtu
import Derived.Test.YtcbhgpdookappaaDoorDtk
namespace Go.Proofs.YtcbhgpdookappaaDoor.Ds
open Go.ChangeShapes Go.WideShapes Go.ChangeAt Go.RowKit

theorem DbAt.kept {F : Nat → Prop} {w w' : World} (h : DbAt w) (k : Kept F w w') (hF : ¬ F 24) : DbAt w' := fun i x hx => k.cell (h i x hx) hF
theorem bytes_rowV {w : World} {base n g c : Nat} {l : List Int} (h : w.ownsRow base 5 1 (.slice (some ⟨g, 0, none⟩) n c) n (bs l)) : BytesAt w (some ⟨g, 0, none⟩) l := by
  obtain ⟨a', c', e', h', -⟩ := bytes_of_own h
  simp only [Value.slice.injEq] at e'
  exact e'.1 ▸ h'
theorem BytesAt.keptS {w w' : World} {a : Option Addr} {l : List Int} (h : BytesAt w a l) (k : Kept (fun _ => False) w w') : BytesAt w' a l := fun hn => by
  obtain ⟨g, off, e, hc⟩ := h hn
  exact ⟨g, off, e, fun i hi => k.cell (hc i hi) (fun f => f)⟩
theorem IntsAt.keptS {w w' : World} {a : Option Addr} {l : List Int} (h : IntsAt w a l) (k : Kept (fun _ => False) w w') : IntsAt w' a l := fun hn => by
  obtain ⟨g, off, e, hc⟩ := h hn
  exact ⟨g, off, e, fun i hi => k.cell (hc i hi) (fun f => f)⟩
theorem fx_isb : IsBytes [10, 4, 140, 0] := by
  intro x hx
  simp only [List.mem_cons, List.not_mem_nil, or_false] at hx
  omega
set_option maxRecDepth 20000 in
set_option maxHeartbeats 4000000 in
theorem fixed_any (ad : Nat → Addr) (w : World) (hE : Errs14 w ad) (hD : DbAt w) : Calls Tryd.prog 8 #[] w fun e w' => e = .returned (.bool true) ∧ Kept (fun _ => False) w w' := by
  have HE := hideD hE
  have HD := hideD hD
  have CO : Hid (Calls Tryd.prog 18 #[.int .i64 10, .slice (some ⟨w.heap.size, 0, none⟩) 4 4] (w.alloc (.cells #[.int .i64 7, .int .i64 2, .int .i64 2, .int .i64 3] 3)) fun e w' => ∃ p rb, e = .returned (.tuple #[.pointer (some ⟨p, 0, none⟩), .nilIface]) ∧ Hid (SetAt w' p rb 10 (nbOf 10) (wsOf [7, 2, 2, 3])) ∧ Hid (Kept (fun _ => False) w w')) := by
    refine hideD ?_
    have KA := Kept.alloc w (.cells #[.int .i64 7, .int .i64 2, .int .i64 2, .int .i64 3] 3)
    have hL : IntsAt (w.alloc (.cells #[.int .i64 7, .int .i64 2, .int .i64 2, .int .i64 3] 3)) (some ⟨w.heap.size, 0, none⟩) [7, 2, 2, 3] := by
      intro _
      refine ⟨w.heap.size, 0, rfl, fun k hk => ?_⟩
      rw [Nat.zero_add, cell_of_row _ _ _ _ _ _ (heap_alloc_new w _)]
      have : k = 0 ∨ k = 1 ∨ k = 2 ∨ k = 3 := by simp at hk; omega
      rcases this with rfl | rfl | rfl | rfl <;> rfl
    refine (of_in 10 (by decide) _ 4 4 [7, 2, 2, 3] rfl _ (hE.kept KA) hL (by intro x hx; simp only [List.mem_cons, List.not_mem_nil, or_false] at hx; omega) (by decide)).mono ?_
    rintro e w' (⟨-, p, rb, h, hS, -, -, hK⟩ | ⟨h, -⟩)
    · exact ⟨p, rb, h, hideD hS, hideD (KA.trans hK (fun _ f => f.elim))⟩
    · exact absurd (by intro x hx; simp only [List.mem_cons, List.not_mem_nil, or_false] at hx; omega) h
  clear hE hD
  go_enter Tryd.func8, Tryd.ntmps8
  go_wp2_with fail
  go_at_call 18
  refine CO.out.mono ?_
  clear CO
  rintro e W1 ⟨p, rb, rfl, HS1, HK1⟩
  have CN := hideD (count_any p rb 10 (nbOf 10) _ W1 HS1.out)
  rw [fx_cnt] at CN
  go_wp2_with fail
  go_at_call 20
  refine CN.out.mono ?_
  clear CN
  rintro e W2 ⟨he, K2⟩
  obtain rfl : e = .returned (.int .i64 3) := he
  have HS2 := hideD (HS1.out.kept K2 (fun f => f) (fun f => f))
  have HK2 := hideD (HK1.out.trans K2 (fun _ f => f.elim))
  clear HS1 HK1 K2
  have CW := hideD (new_out 1048577 (by omega) W2 (HE.out.kept HK2.out))
  go_wp2_with fail
  go_at_call 29
  refine CW.out.mono ?_
  clear CW
  rintro e W3 ⟨rfl, K3⟩
  have HS3 := hideD (HS2.out.kept K3 (fun f => f) (fun f => f))
  have HK3 := hideD (HK2.out.trans K3 (fun _ f => f.elim))
  clear HS2 HK2 K3
  have CM := hideD (num_range (HE.out.kept HK3.out))
  go_wp2_with fail
  go_at_call 32
  refine CM.out.mono ?_
  clear CM
  rintro e W4 ⟨rfl, e4⟩
  subst e4
  have CE := hideD (encode_any p rb 10 (nbOf 10) _ W4 HS3.out (HD.out.kept HK3.out (fun f => f)))
  rw [fx_enc] at CE
  go_wp2_with fail
  go_at_call 11
  refine CE.out.mono ?_
  clear CE
  rintro e W5 ⟨g, he, -, ho, K5⟩
  obtain rfl : e = .returned (.slice (some ⟨g, 0, none⟩) 4 4) := he
  have KA := Kept.alloc W5 (.cells #[.int .u8 10, .int .u8 4, .int .u8 140, .int .u8 0] 5)
  have hL : BytesAt (W5.alloc (.cells #[.int .u8 10, .int .u8 4, .int .u8 140, .int .u8 0] 5)) (some ⟨W5.heap.size, 0, none⟩) [10, 4, 140, 0] := by
    intro _
    refine ⟨W5.heap.size, 0, rfl, fun k hk => ?_⟩
    rw [Nat.zero_add, cell_of_row _ _ _ _ _ _ (heap_alloc_new W5 _)]
    have : k = 0 ∨ k = 1 ∨ k = 2 ∨ k = 3 := by simp at hk; omega
    rcases this with rfl | rfl | rfl | rfl <;> rfl
  have hB5 : BytesAt W5 (some ⟨g, 0, none⟩) [10, 4, 140, 0] := bytes_rowV ho
  have CQ := hideD (equalS_any [10, 4, 140, 0] [10, 4, 140, 0] _ _ 4 4 _ (BytesAt.keptS hB5 KA) hL)
  rw [eqS_dec fx_isb fx_isb, decide_eq_true rfl] at CQ
  have HS5 := hideD ((HS3.out.kept K5 (fun f => f) (fun f => f)).kept KA (fun f => f) (fun f => f))
  have HK5 := hideD ((HK3.out.trans K5 (fun _ f => f.elim)).trans KA (fun _ f => f.elim))
  clear HS3 HK3 K5 KA hL ho hB5
  go_wp2_with fail
  go_at_call 10
  refine CQ.out.mono ?_
  clear CQ
  rintro e W6 ⟨rfl, e6⟩
  rw [← e6] at HS5 HK5
  clear e6
  have CB := hideD (members_set p rb 10 (nbOf 10) _ W6 HS5.out (HD.out.kept HK5.out (fun f => f)))
  rw [fx_cnt, fx_mem] at CB
  go_wp2_with fail
  go_at_call 19
  refine CB.out.mono ?_
  clear CB
  rintro e W7 ⟨g2, he, ho, K7⟩
  obtain rfl : e = .returned (.slice (some ⟨g2, 0, none⟩) 3 3) := he
  have KA := Kept.alloc W7 (.cells #[.int .i64 2, .int .i64 3, .int .i64 7] 3)
  have hL : IntsAt (W7.alloc (.cells #[.int .i64 2, .int .i64 3, .int .i64 7] 3)) (some ⟨W7.heap.size, 0, none⟩) [2, 3, 7] := by
    intro _
    refine ⟨W7.heap.size, 0, rfl, fun k hk => ?_⟩
    rw [Nat.zero_add, cell_of_row _ _ _ _ _ _ (heap_alloc_new W7 _)]
    have : k = 0 ∨ k = 1 ∨ k = 2 := by simp at hk; omega
    rcases this with rfl | rfl | rfl <;> rfl
  have CI := hideD (eqInts_any [2, 3, 7] [2, 3, 7] _ _ 3 3 3 3 rfl rfl _ (IntsAt.keptS (intsAt_own ho) KA) hL (by decide))
  rw [decide_eq_true rfl] at CI
  have HK7 := hideD ((HK5.out.trans K7 (fun _ f => f.elim)).trans KA (fun _ f => f.elim))
  clear HS5 HK5 K7 KA hL ho
  go_wp2_with fail
  go_at_call 25
  refine CI.out.mono ?_
  clear CI
  rintro e W8 ⟨rfl, K8⟩
  have HK8 := hideD (HK7.out.trans K8 (fun _ f => f.elim))
  clear HK7 K8
  go_wp2_with fail
  go_ret
  exact ⟨rfl, HK8.out⟩
end Go.Proofs.YtcbhgpdookappaaDoor.Ds
