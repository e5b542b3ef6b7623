import Derived.Test.YtccmhceehciggaaDoorGdb2
import Derived.Test.YtccmhceehciggaaDoorLvs2
namespace Go.Proofs.YtccmhceehciggaaDoor
open Go.ChangeShapes Go.WideShapes Go.ChangeAt Go.RowKit Go.Maps Go.WideMaps

theorem gc_one {F : List Fd} {x : Vl} (h : gschema F = true) : gcode F [x] = vcode F x := by rw [gc_list h (by simp), lcode_one]
theorem vs_one (w : World) (x : Vl) (t : TypeId) : VsAt (w.alloc (.cells #[.string x.n, .string x.t] t)) (some ⟨w.heap.size, 0, none⟩) [x] := by
  intro _
  refine ⟨w.heap.size, 0, rfl, fun k hk => ?_⟩
  obtain rfl : k = 0 := by simpa using hk
  simp
set_option maxRecDepth 20000 in
set_option maxHeartbeats 4000000 in
theorem goodOne_walk (F : List Fd) (a : Option Addr) (c : Nat) (xs : List Vl) (va : Option Addr) (vc : Nat) (ad : Nat → Addr) (sy sr : Value) (w : World) (hF : FsAt w a F) (hO : ∀ f ∈ F, f.Ok) (hFl : F.length ≤ 4398046511104)
    (hV : VsAt w va xs) (hVo : ∀ x ∈ xs, x.Ok) (hVl : xs.length ≤ 4398046511104) (hE : Er4 w ad sy sr) (hW : Words w) :
    Calls Tryd.prog 6 #[.agg #[.slice a F.length c], .slice va xs.length vc] w fun e w' => e = .returned (.bool true) ∧ Kept (fun _ => False) w w' := by
  have KA := Kept.alloc w (.cells #[.slice a F.length c] 24)
  have HL := hideW (lives_any (ad 4) (w.alloc (.cells #[.slice a F.length c] 24)) (hW.kept KA) (KA.cell hE.e4 (fun f => f)))
  have HE := hideW hE
  have HF := hideW hF
  have HO := hideW hO
  have HV := hideW hV
  have HVo := hideW hVo
  have HB := hideW (show (w.alloc (.cells #[.slice a F.length c] 24)).cell? ⟨w.heap.size, 0, none⟩ = some (.slice a F.length c) by simp)
  have CG : Hid (∀ W, Kept (fun _ => False) (w.alloc (.cells #[.slice a F.length c] 24)) W → Calls Tryd.prog 13 #[.agg #[.slice a F.length c], .slice va xs.length vc] W fun e W' => e = .returned (evOf ad (gcode F xs)) ∧ Kept (fun _ => False) (w.alloc (.cells #[.slice a F.length c] 24)) W') := hideW (fun W q => by
    have q2 := KA.trans q (fun _ f => f.elim)
    exact (good_any F a c xs va vc ad sy sr W (hF.kept q2) hO hFl (hV.kept q2) hVo hVl (hE.kept q2)).mono (fun e W' h => ⟨h.1, q.trans h.2 (fun _ f => f.elim)⟩))
  have CC : Hid (∀ W, Kept (fun _ => False) (w.alloc (.cells #[.slice a F.length c] 24)) W → Calls Tryd.prog 9 #[.agg #[.slice a F.length c]] W fun e W' => e = .returned (chkV (.iface 91 (.pointer (some (ad 4)))) F) ∧ Kept (fun _ => False) (w.alloc (.cells #[.slice a F.length c] 24)) W') := hideW (fun W q => by
    have q2 := KA.trans q (fun _ f => f.elim)
    exact (check_any F a c _ _ W (hF.kept q2) hO hFl (hE.kept q2).e4).mono (fun e W' h => ⟨h.1, q.trans h.2 (fun _ f => f.elim)⟩))
  have CG1 : Hid (∀ (x : Vl) (W : World) (va' : Option Addr) (vc' : Nat), x.Ok → VsAt W va' [x] → Kept (fun _ => False) (w.alloc (.cells #[.slice a F.length c] 24)) W → Calls Tryd.prog 13 #[.agg #[.slice a F.length c], .slice va' 1 vc'] W fun e W' => e = .returned (evOf ad (gcode F [x])) ∧ Kept (fun _ => False) (w.alloc (.cells #[.slice a F.length c] 24)) W') := hideW (fun x W va' vc' ho hv q => by
    have q2 := KA.trans q (fun _ f => f.elim)
    exact (good_any F a c [x] va' vc' ad sy sr W (hF.kept q2) hO hFl hv (fun y hy => by rw [List.mem_singleton] at hy; subst hy; exact ho) (by simp) (hE.kept q2)).mono (fun e W' h => ⟨h.1, q.trans h.2 (fun _ f => f.elim)⟩))
  clear hF hO hV hVo hE hW
  cases hG : gschema F with
  | false =>
    have hEv : evOf ad (gcode F xs) = .iface 91 (.pointer (some (ad 4))) := by rw [gc_schema hG, ev_pos ad (by decide)]
    have hq := fun W => errEq W (ad 4)
    rw [chk_bad _ hG] at CC
    clear hG
    go_enter Tryd.func6, Tryd.ntmps6
    go_wp2_with (first
      | (go_at_call 7; refine HL.out.mono ?_; clear HL; rintro e W1 ⟨rfl, hk1⟩; have hB1 := hk1.cell HB.out (fun f => f))
      | (go_at_call 13; refine (CG.out _ hk1).mono ?_; clear CG; rintro e W2 ⟨rfl, hk2⟩; have hB2 := hk2.cell HB.out (fun f => f))
      | (go_at_call 9; refine (CC.out _ hk2).mono ?_; clear CC; rintro e W3 ⟨rfl, hk3⟩; have h4 := (HE.out.kept (KA.trans hk3 (fun _ f => f.elim))).e4))
    go_ret
    exact ⟨rfl, KA.trans hk3 (fun _ f => f.elim)⟩
  | true =>
    rw [chk_good _ hG] at CC
    by_cases hM : 64 < xs.length
    · have hM' : 64 < (xs.length : Int) := by omega
      have hEv : evOf ad (gcode F xs) = .iface 91 (.pointer (some (ad 2))) := by rw [gc_many hG hM, ev_pos ad (by decide)]
      have hq := fun W => errEq W (ad 2)
      clear hG hM
      go_enter Tryd.func6, Tryd.ntmps6
      go_wp2_with (first
        | (go_at_call 7; refine HL.out.mono ?_; clear HL; rintro e W1 ⟨rfl, hk1⟩; have hB1 := hk1.cell HB.out (fun f => f))
        | (go_at_call 13; refine (CG.out _ hk1).mono ?_; clear CG; rintro e W2 ⟨rfl, hk2⟩; have hB2 := hk2.cell HB.out (fun f => f))
        | (go_at_call 9; refine (CC.out _ hk2).mono ?_; clear CC; rintro e W3 ⟨rfl, hk3⟩; have h4 := (HE.out.kept (KA.trans hk3 (fun _ f => f.elim))).e2))
      go_ret
      exact ⟨rfl, KA.trans hk3 (fun _ f => f.elim)⟩
    · have hM' : ¬ 64 < (xs.length : Int) := by omega
      have HC := hideW (gc_list hG hM)
      have HC1 := hideW (fun x => gc_one (x := x) hG)
      clear hG
      go_enter Tryd.func6, Tryd.ntmps6
      go_wp2_with (first
        | (go_at_call 7; refine HL.out.mono ?_; clear HL; rintro e W1 ⟨rfl, hk1⟩; have hB1 := hk1.cell HB.out (fun f => f))
        | (go_at_call 13; refine (CG.out _ hk1).mono ?_; clear CG; rintro e W2 ⟨rfl, hk2⟩; have hB2 := hk2.cell HB.out (fun f => f))
        | (go_at_call 9; refine (CC.out _ hk2).mono ?_; clear CC; rintro e W3 ⟨rfl, hk3⟩))
      go_loopw [30] (fun i wr => ∃ (k : Nat), k ≤ xs.length ∧ i = .int .i64 k ∧ Hid (lcode F (xs.take k) = 0) ∧ Hid (Kept (fun _ => False) (w.alloc (.cells #[.slice a F.length c] 24)) wr)) (fun i _ => xs.length - (intOf i).toNat)
      case atStart => exact ⟨0, by omega, rfl, rfl, hideW hk3⟩
      case round =>
        obtain ⟨k, hk, rfl, hL, hK⟩ := hrel
        have hKw := hideW (KA.trans hK.out (fun _ f => f.elim))
        have hBr := hK.out.cell HB.out (fun f => f)
        have hbr := World.block_lt_of_cell? wr _ hBr
        by_cases hlt : k < xs.length
        · obtain ⟨vb, voff, rfl, hc⟩ := HV.out (by intro e; rw [e] at hlt; simp at hlt)
          obtain ⟨x0, x1⟩ := hc k hlt
          have hxo := HVo.out _ (List.getElem_mem hlt)
          have hnx := lcode_next hlt hL.out
          obtain ⟨x, hx⟩ : ∃ x, x = xs[k] := ⟨_, rfl⟩
          rw [← hx] at x0 x1 hxo hnx
          have y0 := hKw.out.cell x0 (fun f => f)
          have y1 := hKw.out.cell x1 (fun f => f)
          have NX := hideW hnx
          have HXO := hideW hxo
          have hi2 : ((k : Nat) : Int) < (xs.length : Int) := by omega
          have hK2 := hideW ((hK.out.trans (Kept.alloc wr (.cells #[.string x.n, .string x.t] 41)) (fun _ f => f.elim)).trans (Kept.alloc _ (.cells #[.string x.n, .string x.t] 41)) (fun _ f => f.elim))
          have hvs := vs_one (wr.alloc (.cells #[.string x.n, .string x.t] 41)) x 41
          rw [show (wr.alloc (.cells #[.string x.n, .string x.t] 41)).heap.size = wr.heap.size + 1 by simp] at hvs
          have CX := hideW (CG1.out x _ _ 1 HXO.out hvs hK2.out)
          rw [HC1.out x] at CX
          clear x0 x1 hc hx hnx hxo hvs
          by_cases hv : vcode F x = 0
          · rw [hv, ev_zero] at CX
            have HL2 := hideW (NX.out.1 hv)
            clear hv
            go_wp2_with (go_at_call 13; refine CX.out.mono ?_; clear CX; rintro e W5 ⟨rfl, hk5⟩)
            go_roundw
            case rel => exact ⟨k + 1, by omega, by go_num, HL2, hideW hk5⟩
            case measure => simp [intOf]; omega
          · rw [ev_pos ad hv] at CX
            have hEv : evOf ad (gcode F xs) = .iface 91 (.pointer (some (ad (vcode F x)))) := by rw [HC.out, NX.out.2 hv, ev_pos ad hv]
            have hq := fun W => errEq W (ad (vcode F x))
            clear hv
            go_wp2_with (go_at_call 13; refine CX.out.mono ?_; clear CX; rintro e W5 ⟨rfl, hk5⟩)
            go_ret
            exact ⟨rfl, KA.trans hk5 (fun _ f => f.elim)⟩
        · obtain rfl : k = xs.length := by omega
          have hEv : evOf ad (gcode F xs) = .nilIface := by have e := hL.out; rw [List.take_length] at e; rw [HC.out, e]; rfl
          go_wp2
          go_ret
          exact ⟨rfl, hKw.out⟩
end Go.Proofs.YtccmhceehciggaaDoor
