import Derived.Test.YtccmhceehciggaaDoorRck
import Derived.Test.YtccmhceehciggaaDoorGdb2
import Derived.Test.YtccmhceehciggaaDoorDcr
namespace Go.Proofs.YtccmhceehciggaaDoor
open Go.ChangeShapes Go.WideShapes Go.ChangeAt Go.RowKit Go.Maps

theorem tk2_bad {t : ByteArray} (h : t.size = 0 ∨ 64 < t.size) : tkB 2 t = false := by
  rw [tkB, if_pos rfl]; exact decide_eq_false (by omega)
theorem tk2_good {t : ByteArray} (h : ¬ t.size = 0) (h2 : ¬ 64 < t.size) : tkB 2 t = true := by
  rw [tkB, if_pos rfl]; exact decide_eq_true (by omega)
theorem tk3 {t : ByteArray} : tkB 3 t = decB t.data.toList := by rw [tkB, if_neg (by decide), if_pos rfl]
theorem tk0 {k : Int} {t : ByteArray} (h : ¬ k = 2) (h2 : ¬ k = 3) : tkB k t = true := by rw [tkB, if_neg h, if_neg h2]
/-- The number of what is said. -/
def gnum (c : Nat) : Int := if c = 0 then 0 else if c = 1 then 12 else if c = 2 then 3 else if c = 3 then 13 else 11
set_option maxRecDepth 20000 in
set_option maxHeartbeats 8000000 in
/-- The document's Good. -/
theorem rgood_any (F : List Fd) (a : Option Addr) (c : Nat) (xs : List Vl) (va : Option Addr) (vc : Nat) (w : World) (hF : FsAt w a F) (hO : ∀ f ∈ F, f.Ok) (hFl : F.length ≤ 4398046511104)
    (hV : VsAt w va xs) (hVo : ∀ x ∈ xs, x.Ok) (hVl : xs.length ≤ 4398046511104) :
    Calls Tryd.prog 14 #[.agg #[.slice a F.length c], .slice va xs.length vc] w fun e w' => e = .returned (.int .i64 (gnum (gcode F xs))) ∧ Kept (fun _ => False) w w' := by
  obtain ⟨B0, hB0⟩ : ∃ B0, B0 = w.alloc (.cells #[.slice a F.length c] 24) := ⟨_, rfl⟩
  have KA : Kept (fun _ => False) w B0 := by rw [hB0]; exact Kept.alloc _ _
  have HB : Hid (B0.cell? ⟨w.heap.size, 0, none⟩ = some (.slice a F.length c)) := hideW (by rw [hB0]; simp)
  have HK := hideW (rcheck_any F a c B0 (hF.kept KA) hO)
  rw [hB0] at HK
  have HKA := hideW KA
  have HF := hideW hF
  have HV := hideW hV
  have HVo := hideW hVo
  have HB' := HB
  rw [hB0] at HB'
  clear hF hO hV hVo KA
  cases hG : gschema F with
  | false =>
    have HX := hideW (show gnum (gcode F xs) = 11 by rw [gc_schema hG]; rfl)
    rw [chkN_bad hG] at HK
    clear hG
    go_enter Tryd.func14, Tryd.ntmps14
    go_wp2_with (go_at_call 10; refine HK.out.mono ?_; clear HK; rintro e W1 ⟨rfl, hk1⟩)
    go_ret
    exact ⟨ret_n HX.out, (Kept.alloc _ _).trans hk1 (fun _ f => f.elim)⟩
  | true =>
    rw [chkN_good hG] at HK
    by_cases hM : 64 < xs.length
    · have hM' : 64 < (xs.length : Int) := by omega
      have HX := hideW (show gnum (gcode F xs) = 3 by rw [gc_many hG hM]; rfl)
      clear hG hM
      go_enter Tryd.func14, Tryd.ntmps14
      go_wp2_with (go_at_call 10; refine HK.out.mono ?_; clear HK; rintro e W1 ⟨rfl, hk1⟩)
      go_ret
      exact ⟨ret_n HX.out, (Kept.alloc _ _).trans hk1 (fun _ f => f.elim)⟩
    · have hM' : ¬ 64 < (xs.length : Int) := by omega
      have HC := hideW (gc_list hG hM)
      clear hG
      go_enter Tryd.func14, Tryd.ntmps14
      go_wp2_with (go_at_call 10; refine HK.out.mono ?_; clear HK; rintro e W1 ⟨rfl, hk1⟩)
      rw [← hB0] at hk1
      clear hB0 HB'
      go_loopw [23] (fun i wr => ∃ (k : Nat), k ≤ xs.length ∧ i = .int .i64 k ∧ Hid (lcode F (xs.take k) = 0) ∧ Hid (Kept (fun _ => False) B0 wr)) (fun i _ => xs.length - (intOf i).toNat)
      case atStart => exact ⟨0, by omega, rfl, hideW rfl, hideW hk1⟩
      case round =>
        obtain ⟨k, hk, rfl, hL, hK⟩ := hrel
        have hKw := hideW (HKA.out.trans hK.out (fun _ f => f.elim))
        have hBr := hK.out.cell HB.out (fun f => f)
        have hbr := World.block_lt_of_cell? wr _ hBr
        by_cases hlt : k < xs.length
        · obtain ⟨vb, voff, rfl, hc⟩ := HV.out (by intro e; rw [e] at hlt; simp at hlt)
          obtain ⟨x0, x1⟩ := hc k hlt
          have hxo := HVo.out _ (List.getElem_mem hlt)
          have hnx := lcode_next hlt hL.out
          obtain ⟨x, hx⟩ : ∃ x, x = xs[k] := ⟨_, rfl⟩
          rw [← hx] at x0 x1 hxo hnx
          have y0 := hKw.out.cell x0 (fun f => f)
          have y1 := hKw.out.cell x1 (fun f => f)
          have NX := hideW hnx
          have hi2 : ((k : Nat) : Int) < (xs.length : Int) := by omega
          have PS : Hid (∀ W, Calls Tryd.prog 22 #[.string x.t] W fun e W' => e = .returned (.tuple #[.int .i64 (decV x.t.data.toList), .bool (decB x.t.data.toList)]) ∧ W' = W) := hideW (fun W => rparse_any x.t W hxo.t)
          have FN : Hid (∀ W, Kept (fun _ => False) w W → Calls Tryd.prog 12 #[.agg #[.slice a F.length c], .string x.n] W fun e W' => e = .returned (.tuple #[.int .i64 (fiN F x.n), .bool (fiB F x.n)]) ∧ Kept (fun _ => False) W W') := hideW (fun W q => rfind_any F x.n a c W (HF.out.kept q) hFl)
          have K1 : Hid (Kept (fun _ => False) wr (wr.alloc (.cells #[.string x.n, .string x.t] 41))) := hideW (Kept.alloc _ _)
          have hV1w := hideW (hKw.out.trans K1.out (fun _ f => f.elim))
          have HB1 := hideW (K1.out.cell hBr (fun f => f))
          have HV0 : Hid ((wr.alloc (.cells #[.string x.n, .string x.t] 41)).cell? ⟨wr.heap.size, 0, none⟩ = some (.string x.n)) := hideW (by simp)
          have HV1 : Hid ((wr.alloc (.cells #[.string x.n, .string x.t] 41)).cell? ⟨wr.heap.size, 1, none⟩ = some (.string x.t)) := hideW (by simp)
          have hxt := hxo.t
          clear x0 x1 hc hx hnx hxo
          cases hf : fi F x.n with
          | none =>
            rw [show fiN F x.n = 0 by rw [fiN, hf]; rfl, show fiB F x.n = false by rw [fiB, hf]; rfl] at FN
            have HX := hideW (show gnum (gcode F xs) = 12 by
              have hv : vcode F x = 1 := by rw [vcode, hf]
              rw [HC.out, NX.out.2 (by rw [hv]; decide), hv]; rfl)
            clear hf
            go_wp2_with (go_at_call 12; refine (FN.out _ hV1w.out).mono ?_; clear FN; rintro e W4 ⟨rfl, hk4⟩; have q0 := hk4.cell HB1.out (fun f => f); have q1 := hk4.cell HV0.out (fun f => f); have q2 := hk4.cell HV1.out (fun f => f))
            go_ret
            exact ⟨ret_n HX.out, (hKw.out.trans K1.out (fun _ f => f.elim)).trans hk4 (fun _ f => f.elim)⟩
          | some i =>
            have hil := fi_lt hf
            rw [show fiN F x.n = (i : Int) by rw [fiN, hf]; rfl, show fiB F x.n = true by rw [fiB, hf]; rfl] at FN
            by_cases h4 : 4096 < x.t.size
            · have h4' : 4096 < (x.t.size : Int) := by omega
              have HX := hideW (show gnum (gcode F xs) = 3 by
                have hv : vcode F x = 2 := by rw [vcode, hf]; simp only; rw [if_pos h4]
                rw [HC.out, NX.out.2 (by rw [hv]; decide), hv]; rfl)
              clear hf h4
              go_wp2_with (go_at_call 12; refine (FN.out _ hV1w.out).mono ?_; clear FN; rintro e W4 ⟨rfl, hk4⟩; have q0 := hk4.cell HB1.out (fun f => f); have q1 := hk4.cell HV0.out (fun f => f); have q2 := hk4.cell HV1.out (fun f => f))
              go_ret
              exact ⟨ret_n HX.out, (hKw.out.trans K1.out (fun _ f => f.elim)).trans hk4 (fun _ f => f.elim)⟩
            · have h4' : ¬ 4096 < (x.t.size : Int) := by omega
              obtain ⟨b, off, rfl, hcF⟩ := HF.out (by intro e; rw [e] at hil; simp at hil)
              obtain ⟨-, z1, -, -, -⟩ := hcF i hil
              obtain ⟨kd, hkd⟩ : ∃ kd, kd = F[i].k := ⟨_, rfl⟩
              rw [← hkd] at z1
              have HVC := hideW (show vcode F x = if tkB kd x.t then 0 else 3 by rw [vcode, hf]; simp only; rw [if_neg h4, List.getElem?_eq_getElem hil, hkd]; rfl)
              have HZ := hideW z1
              have hilI : ((i : Nat) : Int) < (F.length : Int) := by omega
              clear hf h4 hcF hkd z1
              by_cases d2 : kd = 2
              · subst d2
                by_cases hz : x.t.size = 0
                · have m0 : ((x.t.size : Int) == 0) = true := by simp [hz]
                  have HX := hideW (show gnum (gcode F xs) = 13 by
                    have hv : vcode F x = 3 := by rw [HVC.out, tk2_bad (Or.inl hz)]; rfl
                    rw [HC.out, NX.out.2 (by rw [hv]; decide), hv]; rfl)
                  clear hz
                  go_wp2_with (first
                    | (go_at_call 12; refine (FN.out _ hV1w.out).mono ?_; clear FN; rintro e W4 ⟨rfl, hk4⟩; have q0 := hk4.cell HB1.out (fun f => f); have q1 := hk4.cell HV0.out (fun f => f); have q2 := hk4.cell HV1.out (fun f => f); have q3 := (hV1w.out.trans hk4 (fun _ f => f.elim)).cell (HZ.out) (fun f => f))
                    | (go_at_call 22; refine (PS.out _).mono ?_; rintro e W5 ⟨rfl, e5⟩; subst e5))
                  go_ret
                  exact ⟨ret_n HX.out, (hKw.out.trans K1.out (fun _ f => f.elim)).trans hk4 (fun _ f => f.elim)⟩
                · have m0 : ((x.t.size : Int) == 0) = false := beq_eq_false_iff_ne.2 (by omega)
                  by_cases hz2 : 64 < x.t.size
                  · have m1 : 64 < (x.t.size : Int) := by omega
                    have HX := hideW (show gnum (gcode F xs) = 13 by
                      have hv : vcode F x = 3 := by rw [HVC.out, tk2_bad (Or.inr hz2)]; rfl
                      rw [HC.out, NX.out.2 (by rw [hv]; decide), hv]; rfl)
                    clear hz hz2
                    go_wp2_with (first
                      | (go_at_call 12; refine (FN.out _ hV1w.out).mono ?_; clear FN; rintro e W4 ⟨rfl, hk4⟩; have q0 := hk4.cell HB1.out (fun f => f); have q1 := hk4.cell HV0.out (fun f => f); have q2 := hk4.cell HV1.out (fun f => f); have q3 := (hV1w.out.trans hk4 (fun _ f => f.elim)).cell (HZ.out) (fun f => f))
                      | (go_at_call 22; refine (PS.out _).mono ?_; rintro e W5 ⟨rfl, e5⟩; subst e5))
                    go_ret
                    exact ⟨ret_n HX.out, (hKw.out.trans K1.out (fun _ f => f.elim)).trans hk4 (fun _ f => f.elim)⟩
                  · have m1 : ¬ 64 < (x.t.size : Int) := by omega
                    have HX := hideW (NX.out.1 (by rw [HVC.out, tk2_good hz hz2]; rfl))
                    clear hz hz2
                    go_wp2_with (first
                      | (go_at_call 12; refine (FN.out _ hV1w.out).mono ?_; clear FN; rintro e W4 ⟨rfl, hk4⟩; have q0 := hk4.cell HB1.out (fun f => f); have q1 := hk4.cell HV0.out (fun f => f); have q2 := hk4.cell HV1.out (fun f => f); have q3 := (hV1w.out.trans hk4 (fun _ f => f.elim)).cell (HZ.out) (fun f => f))
                      | (go_at_call 22; refine (PS.out _).mono ?_; rintro e W5 ⟨rfl, e5⟩; subst e5))
                    go_roundw
                    case rel => exact ⟨k + 1, by omega, by go_num, HX, hideW ((hK.out.trans K1.out (fun _ f => f.elim)).trans hk4 (fun _ f => f.elim))⟩
                    case measure => simp [intOf]; omega
              · by_cases d3 : kd = 3
                · subst d3
                  cases hD : decB x.t.data.toList with
                  | true =>
                    rw [hD] at PS
                    have HX := hideW (NX.out.1 (by rw [HVC.out, tk3, hD]; rfl))
                    clear hD d2
                    go_wp2_with (first
                      | (go_at_call 12; refine (FN.out _ hV1w.out).mono ?_; clear FN; rintro e W4 ⟨rfl, hk4⟩; have q0 := hk4.cell HB1.out (fun f => f); have q1 := hk4.cell HV0.out (fun f => f); have q2 := hk4.cell HV1.out (fun f => f); have q3 := (hV1w.out.trans hk4 (fun _ f => f.elim)).cell (HZ.out) (fun f => f))
                      | (go_at_call 22; refine (PS.out _).mono ?_; rintro e W5 ⟨rfl, e5⟩; subst e5))
                    go_roundw
                    case rel => exact ⟨k + 1, by omega, by go_num, HX, hideW ((hK.out.trans K1.out (fun _ f => f.elim)).trans hk4 (fun _ f => f.elim))⟩
                    case measure => simp [intOf]; omega
                  | false =>
                    rw [hD] at PS
                    have HX := hideW (show gnum (gcode F xs) = 13 by
                      have hv : vcode F x = 3 := by rw [HVC.out, tk3, hD]; rfl
                      rw [HC.out, NX.out.2 (by rw [hv]; decide), hv]; rfl)
                    clear hD d2
                    go_wp2_with (first
                      | (go_at_call 12; refine (FN.out _ hV1w.out).mono ?_; clear FN; rintro e W4 ⟨rfl, hk4⟩; have q0 := hk4.cell HB1.out (fun f => f); have q1 := hk4.cell HV0.out (fun f => f); have q2 := hk4.cell HV1.out (fun f => f); have q3 := (hV1w.out.trans hk4 (fun _ f => f.elim)).cell (HZ.out) (fun f => f))
                      | (go_at_call 22; refine (PS.out _).mono ?_; rintro e W5 ⟨rfl, e5⟩; subst e5))
                    go_ret
                    exact ⟨ret_n HX.out, (hKw.out.trans K1.out (fun _ f => f.elim)).trans hk4 (fun _ f => f.elim)⟩
                · have g2 : (kd == 2) = false := by simp [d2]
                  have g3 : (kd == 3) = false := by simp [d3]
                  have HX := hideW (NX.out.1 (by rw [HVC.out, tk0 d2 d3]; rfl))
                  clear d2 d3
                  go_wp2_with (first
                    | (go_at_call 12; refine (FN.out _ hV1w.out).mono ?_; clear FN; rintro e W4 ⟨rfl, hk4⟩; have q0 := hk4.cell HB1.out (fun f => f); have q1 := hk4.cell HV0.out (fun f => f); have q2 := hk4.cell HV1.out (fun f => f); have q3 := (hV1w.out.trans hk4 (fun _ f => f.elim)).cell (HZ.out) (fun f => f))
                    | (go_at_call 22; refine (PS.out _).mono ?_; rintro e W5 ⟨rfl, e5⟩; subst e5))
                  go_roundw
                  case rel => exact ⟨k + 1, by omega, by go_num, HX, hideW ((hK.out.trans K1.out (fun _ f => f.elim)).trans hk4 (fun _ f => f.elim))⟩
                  case measure => simp [intOf]; omega
        · obtain rfl : k = xs.length := by omega
          have HX := hideW (show gnum (gcode F xs) = 0 by have e := hL.out; rw [List.take_length] at e; rw [HC.out, e]; rfl)
          go_wp2
          go_ret
          exact ⟨ret_n HX.out, hKw.out⟩
end Go.Proofs.YtccmhceehciggaaDoor
