import Derived.Test.YtklocdifkcnchaaDoorMrg3
import Derived.Test.YtklocdifkcnchaaDoorMrg4
namespace Go.Proofs.YtklocdifkcnchaaDoor
open Go.ChangeShapes Go.WideShapes Go.ChangeAt Go.RowKit
variable {w : World}

/-! The law SyntaxWays. -/
theorem rw_take {a0 : Option Addr} {R : List Tn} (h : Rw w a0 R) (k : Nat) : Rw w a0 (R.take k) := fun hne => by
  have h0 : R ≠ [] := by rintro rfl; simp at hne
  obtain ⟨g, o, e, hc⟩ := h h0
  exact ⟨g, o, e, fun j y hy => hc j y (by
    rw [List.getElem?_take] at hy
    split at hy
    · exact hy
    · cases hy)⟩
theorem fol_len (R : List Tn) (f : Nat) : (folX R f).length ≤ 22 := by
  unfold folX
  split
  · simp
  · exact lack_len _ _
theorem scan_listC (l : List UInt8) (L : List Lx) (n : Nat) (w : World) (ad : Addr) (hC : ClsAt w) (hS : SynAt w ad) (hl : l.length ≤ 400000000000) (h : scanF l = (L, none)) (hn : n = L.length) (h0 : 0 < n) :
    Calls Tryd.prog 5 #[.string (bq l)] w fun x w' => (∃ g c, x = .returned (.tuple #[.slice (some ⟨g, 0, none⟩) n c, .int .i64 0, .nilIface]) ∧ n ≤ c ∧ ∀ k y, L[k]? = some y → LxAt w' g k y) ∧ Kept (fun _ => False) w w' := by
  refine (scan_none l w ad hC hS hl (by rw [h])).mono ?_
  rintro x w' ⟨⟨a, c, m, rfl, hT⟩, hk⟩
  rw [h] at hT
  have hm : m = n := by rw [hn]; exact hT.len
  subst hm
  have hc2 : m ≤ c := by
    rcases hT.gro.own.2 with ⟨_, e2⟩ | ⟨g, cap, cur, e1, _, _, hn2, _⟩
    · omega
    · injection e1 with _ _ e3
      omega
  obtain ⟨g, rfl, hc⟩ := hT.ats h0
  refine ⟨⟨g, c, rfl, hc2, fun k y hy => ?_⟩, hk⟩
  obtain ⟨hk2, e⟩ := List.getElem?_eq_some_iff.1 hy
  rw [← e]
  exact hc k hk2
/-- What is known of a token ahead of the fault, and of that at it. -/
theorem way_past {l : List UInt8} {L : List Lx} (h : scanF l = (L, none)) {k : Nat} {x : Lx} (hx : L[k]? = some x) (hp : k < (runR (rowL L)).2.at') : (x.k : Int) ∈ folX ((rowL L).take k) (L.length * 10 + 5) ∧ 0 < (folX ((rowL L).take k) (L.length * 10 + 5)).length := by
  have hl : (rowL L).length = L.length := by unfold rowL; rw [List.length_map]
  have := fol_past (R := rowL L) (i := k) (kk := x.k) (y := tnL x) ⟨row_at hx, rfl⟩ ((tkr_of h).small x (List.mem_of_getElem? hx)) (L.length * 10 + 5) (by
    have e : runX (rowL L) (L.length * 10 + 5) = runR (rowL L) := by unfold runX runR; rw [hl]
    rw [e]; exact hp)
  exact this
theorem way_fault {l : List UInt8} {L : List Lx} (h : scanF l = (L, none)) {k : Nat} {x : Lx} (hx : L[k]? = some x) (hb : (runR (rowL L)).1 = false) (hp : (runR (rowL L)).2.at' = k) (h2 : x.k ≠ 2) (h20 : x.k ≠ 20) : (x.k : Int) ∉ folX ((rowL L).take k) (L.length * 10 + 5) := by
  have hl : (rowL L).length = L.length := by unfold rowL; rw [List.length_map]
  have e : runX (rowL L) (L.length * 10 + 5) = runR (rowL L) := by unfold runX runR; rw [hl]
  exact fol_fault (R := rowL L) (i := k) (kk := x.k) (y := tnL x) ⟨row_at hx, rfl⟩ ((tkr_of h).small x (List.mem_of_getElem? hx)) (L.length * 10 + 5) (by rw [e]; exact hb) (by rw [e]; exact hp) h2 h20
theorem way_end {L : List Lx} (h : (runR (rowL L)).1 = true) : folX (rowL L) (L.length * 10 + 5) = [] := by
  have hl : (rowL L).length = L.length := by unfold rowL; rw [List.length_map]
  have e : runX (rowL L) (L.length * 10 + 5) = runR (rowL L) := by unfold runX runR; rw [hl]
  unfold folX
  rw [e, h]
  rfl
set_option maxRecDepth 20000 in
set_option maxHeartbeats 4000000 in
theorem ways_fault (l : List UInt8) (w : World) (ad : Addr) (hC : ClsAt w) (hS : SynAt w ad) (hl : l.length ≤ 300000000000) (f : Nat) (hZ : (scanF l).2 = some f) :
    Calls Tryd.prog 3 #[.string (bq l)] w fun e w' => e = .returned (.bool true) ∧ Kept (fun _ => False) w w' := by
  have CV := hideL (lives_yes ad hC hS)
  have C1 := hideL (fun W (k : Kept (fun _ => False) w W) => scan_some l W ad (hC.later k) (hS.later k) (by omega) f hZ)
  generalize bq l = s at *
  clear hC hS hZ hl
  go_enter Tryd.func3, Tryd.ntmps3
  go_wp2_with (first
    | (go_at_call 4; refine CV.out.mono ?_; clear CV; rintro x W1 ⟨rfl, k1⟩; have K1 := hideL k1; clear k1)
    | (go_at_call 5; refine (C1.out _ K1.out).mono ?_; clear C1; rintro x W2 ⟨rfl, k2⟩; have K2 := hideL (K1.out.trans k2 (fun _ f => f.elim)); clear K1 k2))
  go_ret
  exact ⟨rfl, K2.out⟩
set_option maxRecDepth 20000 in
set_option maxHeartbeats 4000000 in
theorem ways_long (l : List UInt8) (w : World) (ad : Addr) (hC : ClsAt w) (hS : SynAt w ad) (hl : l.length ≤ 300000000000) (L : List Lx) (h1 : scanF l = (L, none)) (hL : 300 < L.length) :
    Calls Tryd.prog 3 #[.string (bq l)] w fun e w' => e = .returned (.bool true) ∧ Kept (fun _ => False) w w' := by
  have CV := hideL (lives_yes ad hC hS)
  obtain ⟨n, hn⟩ : ∃ n, n = L.length := ⟨_, rfl⟩
  have C1 := hideL (fun W (k : Kept (fun _ => False) w W) => scan_list l L n W ad (hC.later k) (hS.later k) (by omega) h1 hn (by omega))
  have hz : (300 : Int) < (n : Int) := by omega
  generalize bq l = s at *
  clear hC hS h1 hl hL hn
  go_enter Tryd.func3, Tryd.ntmps3
  go_wp2_with (first
    | (go_at_call 4; refine CV.out.mono ?_; clear CV; rintro x W1 ⟨rfl, k1⟩; have K1 := hideL k1; clear k1)
    | (go_at_call 5; refine (C1.out _ K1.out).mono ?_; clear C1; rintro x W2 ⟨⟨g, c2, rfl, l2⟩, k2⟩; have K2 := hideL (K1.out.trans k2 (fun _ f => f.elim)); clear K1 k2 l2))
  go_ret
  exact ⟨rfl, K2.out⟩
set_option maxRecDepth 20000 in
set_option maxHeartbeats 4000000 in
theorem ways_yes (l : List UInt8) (w : World) (ad : Addr) (hC : ClsAt w) (hS : SynAt w ad) (hl : l.length ≤ 300000000000) (L : List Lx) (h1 : scanF l = (L, none)) (hL : L.length ≤ 300) (hr : (runR (rowL L)).1 = true) :
    Calls Tryd.prog 3 #[.string (bq l)] w fun e w' => e = .returned (.bool true) ∧ Kept (fun _ => False) w w' := by
  have CV := hideL (lives_yes ad hC hS)
  obtain ⟨n, hn⟩ : ∃ n, n = L.length := ⟨_, rfl⟩
  have p0 : 0 < L.length := by have := (scan_pos l (by rw [h1])).1; rw [h1] at this; exact this
  have C1 := hideL (fun W (k : Kept (fun _ => False) w W) => scan_listC l L n W ad (hC.later k) (hS.later k) (by omega) h1 hn (by omega))
  have C2 := hideL (fun W (k : Kept (fun _ => False) w W) => check_any l ad (hC.later k) (hS.later k) (by omega))
  obtain ⟨tn, htn⟩ : ∃ tn, tn = (runR (rowL L)).2.top.n := ⟨_, rfl⟩
  have HC : Hid (∀ W e w', ckPost W ad l e w' → e = .returned (.tuple #[.int .i64 ((tn : Nat) : Int), .int .i64 0, .nilIface]) ∧ Kept (fun _ => False) W w') := hideL (fun W e w' h => by
    obtain ⟨h, hk⟩ := h
    refine ⟨?_, hk⟩
    rcases h with ⟨L', hL', h⟩ | ⟨f, hf, _⟩
    · obtain rfl : L' = L := by rw [h1] at hL'; exact (Prod.mk.inj hL').1.symm
      rcases h with ⟨_, h⟩ | ⟨h, _⟩
      · rw [h, htn]
      · rw [hr] at h; cases h
    · rw [h1] at hf; cases hf)
  have hwh := run_whole h1 hr
  have HPast := hideL (fun k x (hx : L[k]? = some x) (hk : k < n) => way_past h1 hx (by rw [hwh, ← hn]; exact hk))
  have HEnd := hideL (way_end hr)
  have CF := hideL (fun W (k g c : Nat) (hk : k ≤ n) (h : ∀ j y, L[j]? = some y → LxAt W g j y) => follow_anyF (w := W) (rc := c) (R := (rowL L).take k) (L.length * 10 + 5) (by rw [List.length_take]; unfold rowL; rw [List.length_map]; omega) k (by rw [List.length_take]; unfold rowL; rw [List.length_map]; omega) (rw_take (rw_list h) k) (by rw [List.length_take]; unfold rowL; rw [List.length_map]; omega))
  have HB := hideL (fun k => fol_len ((rowL L).take k) (L.length * 10 + 5))
  unfold lkPost at CF
  have HM := hideL hn
  have hmb : n ≤ 300 := by omega
  have hm0 : 0 < n := by omega
  have HTk : Hid ((rowL L).take n = rowL L) := hideL (List.take_of_length_le (by unfold rowL; rw [List.length_map]; omega))
  have h300 : ¬ (300 : Int) < (n : Int) := by omega
  obtain ⟨FX, hFX⟩ : ∃ FX : Nat → List Int, FX = fun k => folX ((rowL L).take k) (L.length * 10 + 5) := ⟨_, rfl⟩
  have HFX : Hid (∀ k, folX ((rowL L).take k) (L.length * 10 + 5) = FX k) := hideL (fun k => by rw [hFX])
  generalize bq l = s at *
  generalize ckPost = CP at *
  clear hC hS hr hl h1 hL hn p0 hFX hwh htn
  go_enter Tryd.func3, Tryd.ntmps3
  go_wp2_with (first
    | (go_at_call 4; refine CV.out.mono ?_; clear CV; rintro x W1 ⟨rfl, k1⟩; have K1 := hideL k1; clear k1)
    | (go_at_call 5; refine (C1.out _ K1.out).mono ?_; clear C1; rintro x W2 ⟨⟨g, c, rfl, hc, l2⟩, k2⟩; have K2 := hideL (K1.out.trans k2 (fun _ f => f.elim)); have L2 := hideL l2; clear K1 k2 l2)
    | (go_at_call 6; refine (C2.out _ K2.out).mono ?_; clear C2; intro x W3 q3; obtain ⟨rfl, k3⟩ := HC.out _ _ _ q3; have K3 := hideL (K2.out.trans k3 (fun _ f => f.elim)); have L3 := hideL (fun j y hj => (L2.out j y hj).later k3); clear K2 L2 k3 q3 HC))
  go_loopw [36] (fun iv wr => ∃ (k : Nat), k ≤ n ∧ iv = .int .i64 k ∧ Hid (∀ j y, L[j]? = some y → LxAt wr g j y) ∧ Hid (Kept (fun _ => False) w wr)) (fun iv _ => n - (intOf iv).toNat)
  case atStart => exact ⟨0, by omega, rfl, L3, K3⟩
  case round =>
    obtain ⟨k, hk, rfl, HLs, HK⟩ := hrel
    clear L3 K3
    by_cases hlt : k < n
    · have hkl : k < L.length := by rw [← HM.out]; omega
      obtain ⟨⟨kk, tt, nn, aa, ee⟩, hxk⟩ : ∃ x, L[k]? = some x := ⟨_, List.getElem?_eq_getElem hkl⟩
      have hkz : (k : Int) < (n : Int) := by omega
      have hkc : (k : Int) ≤ (c : Int) := by omega
      have hlx := HLs.out k _ hxk
      obtain ⟨hm1, hm2⟩ := HPast.out k _ hxk hlt
      rw [HFX.out] at hm1 hm2
      have hm3 := HB.out k
      rw [HFX.out] at hm3
      have KA := Kept.alloc wr (.cells #[.int .i64 (kk : Int), .string (bq tt), .int .i64 nn, .int .i64 (aa : Int), .int .i64 (ee : Int)] 31)
      have LA := hideL (fun j y hj => (HLs.out j y hj).later KA)
      have C4 := hideL (CF.out _ k g c (by omega) LA.out)
      rw [HFX.out] at C4
      obtain ⟨z0, -, -, z3, -⟩ := lx_new wr (.int .i64 (kk : Int)) (.string (bq tt)) (.int .i64 nn) (.int .i64 (aa : Int)) (.int .i64 (ee : Int))
      have Z0 := hideL z0
      have Z3 := hideL z3
      obtain ⟨y0, y1, y2, y3, y4⟩ := hlx
      dsimp only at y0 y1 y2 y3 y4
      have HK1 := hideL (HK.out.trans KA (fun _ f => f.elim))
      obtain ⟨m, hm⟩ : ∃ m, m = (FX k).length := ⟨_, rfl⟩
      rw [← hm] at C4 hm3 hm2
      have HMm := hideL hm
      have hmz : ((m : Int) == 0) = false := by simp only [beq_eq_false_iff_ne]; omega
      have CH := hideL (fun W W0 a c (hG : Gro W0 W 3 1 (.slice a m c) m (iv (FX k))) => has_any (FX k) (kk : Int) a m c W0 HMm.out (by omega) hG)
      rw [decide_eq_true hm1] at CH
      generalize hV : wr.alloc (.cells #[.int .i64 (kk : Int), .string (bq tt), .int .i64 nn, .int .i64 (aa : Int), .int .i64 (ee : Int)] 31) = V at C4 LA Z0 Z3 HK1
      have HV := hideL hV
      clear hV KA z0 z3 hm HLs HK CF hm1
      go_wp2_with (go_at_call 7; refine Stp13.go ?_)
      rw [HV.out]
      refine ⟨?_⟩
      refine C4.out.mono ?_
      rintro x W4 ⟨a4, c4, rfl, G4⟩
      have HG := hideL G4
      have z0 := G4.kept.cell Z0.out (fun f => f)
      have z3 := G4.kept.cell Z3.out (fun f => f)
      have K4 := hideL (HK1.out.trans G4.kept (fun _ f => f.elim))
      have L4 := hideL (fun j y hj => (LA.out j y hj).later G4.kept)
      clear G4 Z0 Z3 HK1 LA C4 HV y0 y1 y2 y3 y4
      go_wp2_with (go_at_call 8; refine (CH.out _ _ _ _ HG.out).mono ?_; clear CH; rintro x W5 ⟨rfl, e5⟩; obtain rfl := e5.symm)
      go_roundw
      case rel => exact ⟨k + 1, by omega, by go_num, L4, K4⟩
      case measure => simp [intOf] <;> omega
    · obtain rfl : k = n := by omega
      have C4 := hideL (CF.out wr k g c (by omega) HLs.out)
      rw [HTk.out, HEnd.out] at C4
      clear hlt HPast CF HFX HB
      go_wp2_with (go_at_call 7; refine C4.out.mono ?_; clear C4; rintro x W4 ⟨a4, c4, rfl, G4⟩; have K4 := hideL (HK.out.trans G4.kept (fun _ f => f.elim)); clear G4)
      go_ret
      exact ⟨rfl, K4.out⟩
set_option maxRecDepth 20000 in
set_option maxHeartbeats 4000000 in
theorem ways_no (l : List UInt8) (w : World) (ad : Addr) (hC : ClsAt w) (hS : SynAt w ad) (hl : l.length ≤ 300000000000) (L : List Lx) (h1 : scanF l = (L, none)) (hL : L.length ≤ 300) (hr : (runR (rowL L)).1 = false) :
    Calls Tryd.prog 3 #[.string (bq l)] w fun e w' => e = .returned (.bool true) ∧ Kept (fun _ => False) w w' := by
  have CV := hideL (lives_yes ad hC hS)
  obtain ⟨n, hn⟩ : ∃ n, n = L.length := ⟨_, rfl⟩
  have p0 : 0 < L.length := by have := (scan_pos l (by rw [h1])).1; rw [h1] at this; exact this
  have C1 := hideL (fun W (k : Kept (fun _ => False) w W) => scan_listC l L n W ad (hC.later k) (hS.later k) (by omega) h1 hn (by omega))
  have C2 := hideL (fun W (k : Kept (fun _ => False) w W) => check_any l ad (hC.later k) (hS.later k) (by omega))
  have hrl : (rowL L).length = L.length := by unfold rowL; rw [List.length_map]
  have hin := runR_in (end_list h1) hr
  rw [hrl] at hin
  obtain ⟨P, hP⟩ : ∃ P, P = (runR (rowL L)).2.at' := ⟨_, rfl⟩
  rw [← hP] at hin
  obtain ⟨px, hpx⟩ : ∃ px, px = L[P] := ⟨_, rfl⟩
  have hpx' : L[P]? = some px := by rw [hpx]; exact List.getElem?_eq_getElem hin
  have hpl : (tkA (rowL L) P).a = (px.a : Int) := by unfold tkA; rw [row_at hpx']; rfl
  have HC : Hid (∀ W e w', ckPost W ad l e w' → e = .returned (.tuple #[.int .i64 0, .int .i64 (px.a : Int), .iface 89 (.pointer (some ad))]) ∧ Kept (fun _ => False) W w') := hideL (fun W e w' h => by
    obtain ⟨h, hk⟩ := h
    refine ⟨?_, hk⟩
    rcases h with ⟨L', hL', h⟩ | ⟨f, hf, _⟩
    · obtain rfl : L' = L := by rw [h1] at hL'; exact (Prod.mk.inj hL').1.symm
      rcases h with ⟨h, _⟩ | ⟨_, h⟩
      · rw [hr] at h; cases h
      · rw [h, ← hP, hpl]; rfl
    · rw [h1] at hf; cases hf)
  have HPast := hideL (fun k x (hx : L[k]? = some x) (hk : k < P) => And.intro (way_past h1 hx (by rw [← hP]; exact hk)) ((tkr_of h1).rise k P x px hk hx hpx').1)
  have HFau := hideL (fun (h2 : px.k ≠ 2) (h20 : px.k ≠ 20) => way_fault h1 hpx' hr hP.symm h2 h20)
  have HPX := hideL hpx'
  have hPn : P < n := by omega
  have CF := hideL (fun W (k g c : Nat) (hk : k ≤ n) (h : ∀ j y, L[j]? = some y → LxAt W g j y) => follow_anyF (w := W) (rc := c) (R := (rowL L).take k) (L.length * 10 + 5) (by rw [List.length_take]; unfold rowL; rw [List.length_map]; omega) k (by rw [List.length_take]; unfold rowL; rw [List.length_map]; omega) (rw_take (rw_list h) k) (by rw [List.length_take]; unfold rowL; rw [List.length_map]; omega))
  have HB := hideL (fun k => fol_len ((rowL L).take k) (L.length * 10 + 5))
  unfold lkPost at CF
  have HM := hideL hn
  have hmb : n ≤ 300 := by omega
  have hm0 : 0 < n := by omega
  have h300 : ¬ (300 : Int) < (n : Int) := by omega
  obtain ⟨FX, hFX⟩ : ∃ FX : Nat → List Int, FX = fun k => folX ((rowL L).take k) (L.length * 10 + 5) := ⟨_, rfl⟩
  have HFX : Hid (∀ k, folX ((rowL L).take k) (L.length * 10 + 5) = FX k) := hideL (fun k => by rw [hFX])
  generalize bq l = s at *
  generalize ckPost = CP at *
  clear hC hS hr hl h1 hL hn p0 hFX hrl hpx hP hpl hpx'
  go_enter Tryd.func3, Tryd.ntmps3
  go_wp2_with (first
    | (go_at_call 4; refine CV.out.mono ?_; clear CV; rintro x W1 ⟨rfl, k1⟩; have K1 := hideL k1; clear k1)
    | (go_at_call 5; refine (C1.out _ K1.out).mono ?_; clear C1; rintro x W2 ⟨⟨g, c, rfl, hc, l2⟩, k2⟩; have K2 := hideL (K1.out.trans k2 (fun _ f => f.elim)); have L2 := hideL l2; clear K1 k2 l2)
    | (go_at_call 6; refine (C2.out _ K2.out).mono ?_; clear C2; intro x W3 q3; obtain ⟨rfl, k3⟩ := HC.out _ _ _ q3; have K3 := hideL (K2.out.trans k3 (fun _ f => f.elim)); have L3 := hideL (fun j y hj => (L2.out j y hj).later k3); clear K2 L2 k3 q3 HC))
  go_loopw [36] (fun iv wr => ∃ (k : Nat), k ≤ P ∧ iv = .int .i64 k ∧ Hid (∀ j y, L[j]? = some y → LxAt wr g j y) ∧ Hid (Kept (fun _ => False) w wr)) (fun iv _ => n - (intOf iv).toNat)
  case atStart => exact ⟨0, by omega, rfl, L3, K3⟩
  case round =>
    obtain ⟨k, hk, rfl, HLs, HK⟩ := hrel
    clear L3 K3
    by_cases hlt : k < P
    · have hkl : k < L.length := by rw [← HM.out]; omega
      obtain ⟨⟨kk, tt, nn, aa, ee⟩, hxk⟩ : ∃ x, L[k]? = some x := ⟨_, List.getElem?_eq_getElem hkl⟩
      have hkz : (k : Int) < (n : Int) := by omega
      have hkc : (k : Int) ≤ (c : Int) := by omega
      have hlx := HLs.out k _ hxk
      obtain ⟨⟨hm1, hm2⟩, hri⟩ := HPast.out k _ hxk hlt
      rw [HFX.out] at hm1 hm2
      have hm3 := HB.out k
      rw [HFX.out] at hm3
      have KA := Kept.alloc wr (.cells #[.int .i64 (kk : Int), .string (bq tt), .int .i64 nn, .int .i64 (aa : Int), .int .i64 (ee : Int)] 31)
      have LA := hideL (fun j y hj => (HLs.out j y hj).later KA)
      have C4 := hideL (CF.out _ k g c (by omega) LA.out)
      rw [HFX.out] at C4
      obtain ⟨z0, -, -, z3, -⟩ := lx_new wr (.int .i64 (kk : Int)) (.string (bq tt)) (.int .i64 nn) (.int .i64 (aa : Int)) (.int .i64 (ee : Int))
      have Z0 := hideL z0
      have Z3 := hideL z3
      obtain ⟨y0, y1, y2, y3, y4⟩ := hlx
      dsimp only at y0 y1 y2 y3 y4
      have HK1 := hideL (HK.out.trans KA (fun _ f => f.elim))
      obtain ⟨m, hm⟩ : ∃ m, m = (FX k).length := ⟨_, rfl⟩
      rw [← hm] at C4 hm3 hm2
      have HMm := hideL hm
      have hmz : ((m : Int) == 0) = false := by simp only [beq_eq_false_iff_ne]; omega
      have CH := hideL (fun W W0 a c (hG : Gro W0 W 3 1 (.slice a m c) m (iv (FX k))) => has_any (FX k) (kk : Int) a m c W0 HMm.out (by omega) hG)
      rw [decide_eq_true hm1] at CH
      have hri2 : ¬ (px.a : Int) ≤ (aa : Int) := by have : aa < px.a := hri; omega
      generalize hV : wr.alloc (.cells #[.int .i64 (kk : Int), .string (bq tt), .int .i64 nn, .int .i64 (aa : Int), .int .i64 (ee : Int)] 31) = V at C4 LA Z0 Z3 HK1
      have HV := hideL hV
      clear hV KA z0 z3 hm HLs HK CF hm1 hri
      go_wp2_with (go_at_call 7; refine Stp13.go ?_)
      rw [HV.out]
      refine ⟨?_⟩
      refine C4.out.mono ?_
      rintro x W4 ⟨a4, c4, rfl, G4⟩
      have HG := hideL G4
      have z0 := G4.kept.cell Z0.out (fun f => f)
      have z3 := G4.kept.cell Z3.out (fun f => f)
      have K4 := hideL (HK1.out.trans G4.kept (fun _ f => f.elim))
      have L4 := hideL (fun j y hj => (LA.out j y hj).later G4.kept)
      clear G4 Z0 Z3 HK1 LA C4 HV y0 y1 y2 y3 y4
      go_wp2_with (go_at_call 8; refine (CH.out _ _ _ _ HG.out).mono ?_; clear CH; rintro x W5 ⟨rfl, e5⟩; obtain rfl := e5.symm)
      go_roundw
      case rel => exact ⟨k + 1, by omega, by go_num, L4, K4⟩
      case measure => simp [intOf] <;> omega
    · obtain rfl : k = P := by omega
      have hxk := HPX.out
      obtain ⟨kk, tt, nn, aa, ee⟩ := px
      dsimp only at *
      clear hlt HPast HPX
      by_cases h2 : kk = 2
      · subst h2
        clear HFau
        have hkz : (k : Int) < (n : Int) := by omega
        have hkc : (k : Int) ≤ (c : Int) := by omega
        have hlx := HLs.out k _ hxk
        have hm3 := HB.out k
        rw [HFX.out] at hm3
        have KA := Kept.alloc wr (.cells #[.int .i64 (2 : Int), .string (bq tt), .int .i64 nn, .int .i64 (aa : Int), .int .i64 (ee : Int)] 31)
        have LA := hideL (fun j y hj => (HLs.out j y hj).later KA)
        have C4 := hideL (CF.out _ k g c (by omega) LA.out)
        rw [HFX.out] at C4
        obtain ⟨z0, -, -, z3, -⟩ := lx_new wr (.int .i64 (2 : Int)) (.string (bq tt)) (.int .i64 nn) (.int .i64 (aa : Int)) (.int .i64 (ee : Int))
        have Z0 := hideL z0
        have Z3 := hideL z3
        obtain ⟨y0, y1, y2, y3, y4⟩ := hlx
        dsimp only at y0 y1 y2 y3 y4
        have HK1 := hideL (HK.out.trans KA (fun _ f => f.elim))
        obtain ⟨m, hm⟩ : ∃ m, m = (FX k).length := ⟨_, rfl⟩
        rw [← hm] at C4 hm3
        have HMm := hideL hm
        generalize hV : wr.alloc (.cells #[.int .i64 (2 : Int), .string (bq tt), .int .i64 nn, .int .i64 (aa : Int), .int .i64 (ee : Int)] 31) = V at C4 LA Z0 Z3 HK1
        have HV := hideL hV
        clear hV KA z0 z3 hm HLs HK CF
        go_wp2_with (go_at_call 7; refine Stp13.go ?_)
        rw [HV.out]
        refine ⟨?_⟩
        refine C4.out.mono ?_
        rintro x W4 ⟨a4, c4, rfl, G4⟩
        have HG := hideL G4
        have z0 := G4.kept.cell Z0.out (fun f => f)
        have z3 := G4.kept.cell Z3.out (fun f => f)
        have K4 := hideL (HK1.out.trans G4.kept (fun _ f => f.elim))
        have L4 := hideL (fun j y hj => (LA.out j y hj).later G4.kept)
        clear G4 Z0 Z3 HK1 LA C4 HV y0 y1 y2 y3 y4
        go_wp2_with fail
        go_ret
        exact ⟨rfl, K4.out⟩
      · by_cases h20 : kk = 20
        · subst h20
          clear HFau
          have hkz : (k : Int) < (n : Int) := by omega
          have hkc : (k : Int) ≤ (c : Int) := by omega
          have hlx := HLs.out k _ hxk
          have hm3 := HB.out k
          rw [HFX.out] at hm3
          have KA := Kept.alloc wr (.cells #[.int .i64 (20 : Int), .string (bq tt), .int .i64 nn, .int .i64 (aa : Int), .int .i64 (ee : Int)] 31)
          have LA := hideL (fun j y hj => (HLs.out j y hj).later KA)
          have C4 := hideL (CF.out _ k g c (by omega) LA.out)
          rw [HFX.out] at C4
          obtain ⟨z0, -, -, z3, -⟩ := lx_new wr (.int .i64 (20 : Int)) (.string (bq tt)) (.int .i64 nn) (.int .i64 (aa : Int)) (.int .i64 (ee : Int))
          have Z0 := hideL z0
          have Z3 := hideL z3
          obtain ⟨y0, y1, y2, y3, y4⟩ := hlx
          dsimp only at y0 y1 y2 y3 y4
          have HK1 := hideL (HK.out.trans KA (fun _ f => f.elim))
          obtain ⟨m, hm⟩ : ∃ m, m = (FX k).length := ⟨_, rfl⟩
          rw [← hm] at C4 hm3
          have HMm := hideL hm
          generalize hV : wr.alloc (.cells #[.int .i64 (20 : Int), .string (bq tt), .int .i64 nn, .int .i64 (aa : Int), .int .i64 (ee : Int)] 31) = V at C4 LA Z0 Z3 HK1
          have HV := hideL hV
          clear hV KA z0 z3 hm HLs HK CF
          go_wp2_with (go_at_call 7; refine Stp13.go ?_)
          rw [HV.out]
          refine ⟨?_⟩
          refine C4.out.mono ?_
          rintro x W4 ⟨a4, c4, rfl, G4⟩
          have HG := hideL G4
          have z0 := G4.kept.cell Z0.out (fun f => f)
          have z3 := G4.kept.cell Z3.out (fun f => f)
          have K4 := hideL (HK1.out.trans G4.kept (fun _ f => f.elim))
          have L4 := hideL (fun j y hj => (LA.out j y hj).later G4.kept)
          clear G4 Z0 Z3 HK1 LA C4 HV y0 y1 y2 y3 y4
          go_wp2_with fail
          go_ret
          exact ⟨rfl, K4.out⟩
        · have hf := HFau.out h2 h20
          rw [HFX.out] at hf
          have b2 : ((kk : Int) == 2) = false := by simp only [beq_eq_false_iff_ne]; omega
          have b20 : ((kk : Int) == 20) = false := by simp only [beq_eq_false_iff_ne]; omega
          clear HFau
          have hkz : (k : Int) < (n : Int) := by omega
          have hkc : (k : Int) ≤ (c : Int) := by omega
          have hlx := HLs.out k _ hxk
          have hm3 := HB.out k
          rw [HFX.out] at hm3
          have KA := Kept.alloc wr (.cells #[.int .i64 (kk : Int), .string (bq tt), .int .i64 nn, .int .i64 (aa : Int), .int .i64 (ee : Int)] 31)
          have LA := hideL (fun j y hj => (HLs.out j y hj).later KA)
          have C4 := hideL (CF.out _ k g c (by omega) LA.out)
          rw [HFX.out] at C4
          obtain ⟨z0, -, -, z3, -⟩ := lx_new wr (.int .i64 (kk : Int)) (.string (bq tt)) (.int .i64 nn) (.int .i64 (aa : Int)) (.int .i64 (ee : Int))
          have Z0 := hideL z0
          have Z3 := hideL z3
          obtain ⟨y0, y1, y2, y3, y4⟩ := hlx
          dsimp only at y0 y1 y2 y3 y4
          have HK1 := hideL (HK.out.trans KA (fun _ f => f.elim))
          obtain ⟨m, hm⟩ : ∃ m, m = (FX k).length := ⟨_, rfl⟩
          rw [← hm] at C4 hm3
          have HMm := hideL hm
          have CH := hideL (fun W W0 a c (hG : Gro W0 W 3 1 (.slice a m c) m (iv (FX k))) => has_any (FX k) (kk : Int) a m c W0 HMm.out (by omega) hG)
          rw [decide_eq_false hf] at CH
          generalize hV : wr.alloc (.cells #[.int .i64 (kk : Int), .string (bq tt), .int .i64 nn, .int .i64 (aa : Int), .int .i64 (ee : Int)] 31) = V at C4 LA Z0 Z3 HK1
          have HV := hideL hV
          clear hV KA z0 z3 hm HLs HK CF hf
          go_wp2_with (go_at_call 7; refine Stp13.go ?_)
          rw [HV.out]
          refine ⟨?_⟩
          refine C4.out.mono ?_
          rintro x W4 ⟨a4, c4, rfl, G4⟩
          have HG := hideL G4
          have z0 := G4.kept.cell Z0.out (fun f => f)
          have z3 := G4.kept.cell Z3.out (fun f => f)
          have K4 := hideL (HK1.out.trans G4.kept (fun _ f => f.elim))
          have L4 := hideL (fun j y hj => (LA.out j y hj).later G4.kept)
          clear G4 Z0 Z3 HK1 LA C4 HV y0 y1 y2 y3 y4
          go_wp2_with (go_at_call 8; refine (CH.out _ _ _ _ HG.out).mono ?_; clear CH; rintro x W5 ⟨rfl, e5⟩; obtain rfl := e5.symm)
          go_ret
          exact ⟨rfl, K4.out⟩
theorem ways_all (l : List UInt8) (w : World) (ad : Addr) (hC : ClsAt w) (hS : SynAt w ad) (hl : l.length ≤ 300000000000) :
    Calls Tryd.prog 3 #[.string (bq l)] w fun e w' => e = .returned (.bool true) ∧ Kept (fun _ => False) w w' := by
  cases hZ : (scanF l).2 with
  | some f => exact ways_fault l w ad hC hS hl f hZ
  | none =>
    have h1 : scanF l = ((scanF l).1, none) := by rw [← hZ]
    rcases Nat.lt_or_ge 300 (scanF l).1.length with h | h
    · exact ways_long l w ad hC hS hl _ h1 h
    · cases hr : (runR (rowL (scanF l).1)).1 with
      | true => exact ways_yes l w ad hC hS hl _ h1 h hr
      | false => exact ways_no l w ad hC hS hl _ h1 h hr
theorem ways_ex (l : List UInt8) (w : World) (hC : ClsAt w) (hS : ∃ ad, SynAt w ad) (hl : l.length ≤ 300000000000) :
    Calls Tryd.prog 3 #[.string (bq l)] w fun e w' => e = .returned (.bool true) ∧ Kept (fun _ => False) w w' := by
  obtain ⟨ad, hS⟩ := hS
  exact ways_all l w ad hC hS hl
end Go.Proofs.YtklocdifkcnchaaDoor
