import Derived.Test.YtopmdpfnigceeaaDoorLwD
import Derived.LaidEql
namespace Go.Proofs.YtopmdpfnigceeaaDoor
open Go.ChangeShapes Go.WideShapes Go.ChangeAt Go.RowKit

theorem str_sb (s : ByteArray) : strOfNums (sb s) = s := by
  have : (strOfNums (sb s)).data.toList = s.data.toList := by
    rw [strOfNums_data, sb, List.map_map]
    conv => rhs; rw [← List.map_id s.data.toList]
    apply List.map_congr_left
    intro b _
    simp
  cases h : strOfNums (sb s)
  cases s
  rw [h] at this
  simpa using this

theorem Tryd.compErr : (Tryd.prog.info? 96).map (·.comparable) = some true := by kernel_rfl
theorem Tryd.sizeErr : (Tryd.prog.info? 112).map (·.size) = some 1 := by kernel_rfl
theorem err_same (a : Addr) (W : World) :
    (binOp .eql 39 (.iface 96 (.pointer (some a))) (.iface 96 (.pointer (some a)))).run Tryd.prog W = .ok (.bool true) W := by
  obtain ⟨i, hi, hci⟩ := Option.map_eq_some_iff.1 Tryd.compErr
  obtain ⟨j, hj, hcj⟩ := Option.map_eq_some_iff.1 Tryd.sizeErr
  exact run_eql_iface_ptr_same W a Tryd.underlying39 Tryd.underlying96 hi hci hj

set_option maxRecDepth 20000 in
set_option maxHeartbeats 1000000 in
theorem back_7 (br : Nat) (v : Value) (l : List Int) (p : Nat) (sec : Bool) (nn uu ii : Int) (bv : Value) (s : ByteArray) (lv : Value) (rest : List Int) (w : World) (h : Rd w br v l p) (a0 a1 : Addr) (g0 : w.cell? ⟨2, 0, none⟩ = some (errV a0)) (g1 : w.cell? ⟨5, 0, none⟩ = some (errV a1)) (hd : l.drop p = (uvb s.size ++ sb s) ++ rest) :
    Calls Tryd.prog 12 #[.pointer (some ⟨br, 0, none⟩), .agg #[.int .i64 7, .bool sec, .int .i64 nn, .int .u64 uu, .int .i64 ii, bv, .string s, lv]] w fun e w' => RGot br v l (p + (uvb s.size ++ sb s).length) w e w' := by
  have hle := drop_at h.le hd
  have hsm := h.sm
  rw [List.length_append, sb_length] at hle
  have k0 := (Kept.alloc w (opB 7 sec nn uu ii bv s lv)).cell g0 (fun f => f)
  have k1 := (Kept.alloc w (opB 7 sec nn uu ii bv s lv)).cell g1 (fun f => f)
  have c1 := rtext_ok br v l p s.size (uvb s.size).length s.size a0 a1 (w.alloc (opB 7 sec nn uu ii bv s lv)) (h.alloc _) (by rw [hd, List.append_assoc]; exact rdu_uvb s.size _ (by omega)) (by omega) (by omega) (by omega) k0 k1
  have e0 : (l.drop (p + (uvb s.size).length)).take s.size = sb s := by
    rw [← List.drop_drop, hd, List.append_assoc, List.drop_left, List.take_append_of_le_length (by rw [sb_length]; omega), List.take_of_length_le (by rw [sb_length]; omega)]
  rw [e0, str_sb, show p + (uvb s.size).length + s.size = p + (uvb s.size ++ sb s).length by rw [List.length_append, sb_length]; omega] at c1
  have hs9 : s.size ≤ 140737488355328 := by omega
  have C1 := hide c1
  have HH := hide h
  clear h hd c1 e0 hle hsm
  go_enter Tryd.func12, Tryd.ntmps12
  go_wp2_with (go_at_call 36; refine C1.out.mono ?_; rintro e w2 ⟨rfl, q1, q2⟩; have z1 := box_kept HH.out q2; unfold opB at z1; have Q1 := hide q1; have Q2 := hide q2; clear q1 q2; have y0 : w2.cell? ⟨w.heap.size, 0, none⟩ = some (.int .i64 7) := (by simp [World.cell?, z1]); have y6 : w2.cell? ⟨w.heap.size, 6, none⟩ = some (.string s) := (by simp [World.cell?, z1]); clear z1)
  go_ret
  exact RGot.of HH.out Q1.out Q2.out (by first | rfl | simp)

set_option maxRecDepth 20000 in
set_option maxHeartbeats 1000000 in
theorem back_10 (br : Nat) (v : Value) (l : List Int) (p : Nat) (sec : Bool) (nn : Int) (uu : Nat) (ii : Int) (bv : Value) (s : ByteArray) (lv : Value) (rest : List Int) (w : World) (h : Rd w br v l p) (a0 a1 a2 : Addr) (g0 : w.cell? ⟨2, 0, none⟩ = some (errV a0)) (g1 : w.cell? ⟨5, 0, none⟩ = some (errV a1)) (g2 : w.cell? ⟨0, 0, none⟩ = some (errV a2)) (hg2 : 0 ≠ br) (hn : uu < 18446744073709551616) (hd : l.drop p = uvb uu ++ rest) :
    Calls Tryd.prog 12 #[.pointer (some ⟨br, 0, none⟩), .agg #[.int .i64 10, .bool sec, .int .i64 nn, .int .u64 uu, .int .i64 ii, bv, .string s, lv]] w fun e w' => RGot br v l (p + (uvb uu).length) w e w' := by
  have hr : rdu 0 0 (l.drop p) = .ok (uu, (uvb uu).length) := by rw [hd]; exact rdu_uvb uu rest hn
  obtain ⟨W, hW⟩ : ∃ W, W = w.alloc (opB 10 sec nn uu ii bv s lv) := ⟨_, rfl⟩
  have hk := Kept.alloc w (opB 10 sec nn uu ii bv s lv)
  rw [← hW] at hk
  have k0 := hk.cell g0 (fun f => f)
  have k1 := hk.cell g1 (fun f => f)
  have k2 := hk.cell g2 (fun f => f)
  have hA : Rd W br v l p := by rw [hW]; exact h.alloc _
  by_cases hb : uu ≤ 9223372036854775807
  · have c1 := rupto_ok br v l p uu (uvb uu).length uu a0 a1 W hA hr (by omega) (by omega) k0 k1
    have C1 := hide c1
    have HH := hide h
    clear h hd c1 hr hk k0 k1 k2 hA g0 g1 g2
    subst hW
    go_enter Tryd.func12, Tryd.ntmps12
    go_wp2_with (go_at_call 40; refine C1.out.mono ?_; rintro e w2 ⟨rfl, q1, q2⟩; have z1 := box_kept HH.out q2; unfold opB at z1; have Q1 := hide q1; have Q2 := hide q2; clear q1 q2; have y0 : w2.cell? ⟨w.heap.size, 0, none⟩ = some (.int .i64 10) := (by simp [World.cell?, z1]); have y3 : w2.cell? ⟨w.heap.size, 3, none⟩ = some (.int .u64 uu) := (by simp [World.cell?, z1]); clear z1)
    go_ret
    exact RGot.of HH.out Q1.out Q2.out (by first | rfl | simp)
  · have c1 := rupto_bad br v l p 9223372036854775807 a2 W hA (fun a c hB n => (upat_lim l a c p uu (uvb uu).length 9223372036854775807 a0 a1 a2 (W.drewN n) hB h.isb h.le (by have := h.sm; omega) k0 k1 k2 hr (by omega) (by omega)))
    have c2 : ∀ n, Calls Tryd.prog 20 #[.pointer (some ⟨br, 0, none⟩)] (W.drewN n) fun e w' => e = .returned (.tuple #[.int .u64 uu, .nilIface]) ∧ Rd w' br v l (p + (uvb uu).length) ∧ Kept (fun i => i = br) W w' := by
      intro n
      refine (ruv_ok br v l p uu (uvb uu).length a0 a1 (W.drewN n) (hA.drewN n) hr k0 k1).mono ?_
      rintro e w' ⟨rfl, q1, q2⟩
      exact ⟨rfl, q1, ((Kept.drewN W n).mono (fun _ f => f.elim)).trans q2 (fun _ e => .inl e)⟩
    have C1 := hide c1
    have C2 := hide c2
    have HH := hide h
    clear h hd c1 c2 hr hk k0 k1 hA g0 g1 g2
    have kk : Hid (∀ w2, Kept (fun i => i = br) W w2 → w2.cell? ⟨0, 0, none⟩ = some (errV a2)) := fun w2 hk => hk.cell k2 hg2
    clear k2
    subst hW
    unfold errV at C1 kk
    have heq := err_same a2
    go_enter Tryd.func12, Tryd.ntmps12
    go_wp2_with (first | (go_at_call 40; refine C1.out.mono ?_; rintro e w1 ⟨rfl, n, rfl⟩) | (go_at_call 20; refine (C2.out _).mono ?_; rintro e w2 ⟨rfl, q1, q2⟩; have z1 := box_kept HH.out q2; have z2 := kk.out _ q2; unfold opB at z1; have Q1 := hide q1; have Q2 := hide q2; clear q1 q2; have y0 : w2.cell? ⟨w.heap.size, 0, none⟩ = some (.int .i64 10) := (by simp [World.cell?, z1]); have y3 : w2.cell? ⟨w.heap.size, 3, none⟩ = some (.int .u64 uu) := (by simp [World.cell?, z1]); clear z1))
    go_ret
    exact RGot.of HH.out Q1.out Q2.out (by first | rfl | simp)
end Go.Proofs.YtopmdpfnigceeaaDoor
