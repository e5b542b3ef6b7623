import Derived.Test.YtakjaablankipaaDoorLzo
import Derived.Test.YtakjaablankipaaDoorNsx
namespace Go.Proofs.YtakjaablankipaaDoor
open Go.ChangeShapes Go.WideShapes Go.ChangeAt Go.RowKit

/-! LexerScans. -/
set_option maxRecDepth 20000 in
set_option maxHeartbeats 4000000 in
theorem rscan_nil (w : World) : Calls Tryd.prog 7 #[.string (bq [])] w (rsPost w (scanF [])) := by
  have e : scanF [] = ([endT 0], none) := by unfold scanF; rw [sc_nil]; rfl
  rw [e]
  have CS := hideL (fun W => signs_any [] W (by simp))
  have HP : Hid (∀ a c w', Tks w w' a c 1 [endT 0] → rsPost w ([endT 0], none) (.returned (.tuple #[.slice a 1 c, .int .i64 0, .int .i64 0])) w') := hideL (fun a c w' h => .inl ⟨rfl, a, c, 1, rfl, h⟩)
  have HE : Hid ((0 : Int) = ((endT 0).k : Int) ∧ (⟨#[]⟩ : ByteArray) = bq (endT 0).t ∧ (0 : Int) = (endT 0).n ∧ (0 : Int) = ((endT 0).a : Int) ∧ (0 : Int) = ((endT 0).e : Int)) := hideL ⟨rfl, rfl, rfl, rfl, rfl⟩
  have hs0 : (bq []).size = 0 := rfl
  generalize rsPost w ([endT 0], none) = Q at *
  generalize bq [] = s at *
  have h0 : (sgp 0 []).length = 0 := rfl
  rw [h0] at CS
  unfold sgPost at CS
  clear e h0
  go_enter Tryd.func7, Tryd.ntmps7
  go_wp2_with (go_at_call 16; refine (CS.out _).mono ?_; clear CS; rintro e W9 ⟨a9, c9, rfl, G9⟩; have HT := hideL (tks_empty w W9 G9.gro.kept); clear G9)
  go_loopw [6, 7] (fun ov iv wr => ∃ a c, iv = .int .i64 0 ∧ ov = .slice a 0 c ∧ Hid (Tks w wr a c 0 [])) (fun _ _ _ => 0)
  case atStart => exact ⟨_, _, rfl, rfl, HT⟩
  case round =>
    obtain ⟨a, c, rfl, rfl, HTr⟩ := hrel
    clear HT
    go_wp2_with (at_builtin; refine wpList_pushLx rfl _ _ rfl _ _ 0 [] (endT 0) _ _ _ _ _ rfl HTr _ (by first | rfl | simp) rfl HE (by omega) ?_; intro a4 c4 W4 H4 K4; clear HTr K4)
    go_ret3
    exact HP.out _ _ _ H4.out
theorem rscan_any (l : List UInt8) (w : World) (hl : l.length ≤ 400000000000) : Calls Tryd.prog 7 #[.string (bq l)] w (rsPost w (scanF l)) := by
  cases l with
  | nil => exact rscan_nil w
  | cons c l => exact rscan_cons (c :: l) w hl (by simp)
theorem rscan_list (l : List UInt8) (L : List Lx) (n : Nat) (w : World) (hl : l.length ≤ 400000000000) (h : scanF l = (L, none)) (hn : n = L.length) (h0 : 0 < n) :
    Calls Tryd.prog 7 #[.string (bq l)] w fun x w' => (∃ g c, x = .returned (.tuple #[.slice (some ⟨g, 0, none⟩) n c, .int .i64 0, .int .i64 0]) ∧ ∀ k y, L[k]? = some y → LxAt w' g k y) ∧ Kept (fun _ => False) w w' := by
  refine (rscan_any l w hl).mono ?_
  rw [h]
  rintro x w' (⟨_, a, c, m, rfl, hT⟩ | ⟨f, hf, _⟩)
  · have hT : Tks w w' a c m L := hT
    have hm : m = n := by rw [hn]; exact hT.len
    subst hm
    obtain ⟨g, rfl, hc⟩ := hT.ats h0
    refine ⟨⟨g, c, rfl, fun k y hy => ?_⟩, hT.gro.kept⟩
    obtain ⟨hk2, e⟩ := List.getElem?_eq_some_iff.1 hy
    rw [← e]
    exact hc k hk2
  · cases hf
theorem rscan_some (l : List UInt8) (w : World) (hl : l.length ≤ 400000000000) (f : Nat) (h : (scanF l).2 = some f) :
    Calls Tryd.prog 7 #[.string (bq l)] w fun x w' => (∃ a c, x = .returned (.tuple #[.slice a 0 c, .int .i64 (f : Int), .int .i64 16])) ∧ Kept (fun _ => False) w w' := by
  refine (rscan_any l w hl).mono ?_
  rintro x w' (⟨h1, _⟩ | ⟨f', hf, ⟨a, c, rfl⟩, hk⟩)
  · rw [h] at h1; cases h1
  · rw [h] at hf
    obtain rfl := Option.some.inj hf
    exact ⟨⟨a, c, rfl⟩, hk⟩
set_option maxRecDepth 20000 in
set_option maxHeartbeats 4000000 in
theorem same_nil (a : Option Addr) (c : Nat) (w : World) : Calls Tryd.prog 8 #[.slice none 0 0, .slice a 0 c] w fun e w' => e = .returned (.bool true) ∧ Kept (fun _ => False) w w' := by
  go_enter Tryd.func8, Tryd.ntmps8
  go_wp2
  go_loopw [13] (fun i wr => i = .int .i64 0 ∧ Hid (Kept (fun _ => False) w wr)) (fun _ _ => 0)
  case atStart => exact ⟨rfl, hideL (Kept.refl _ _)⟩
  case round =>
    obtain ⟨rfl, HK⟩ := hrel
    go_wp2
    go_ret
    exact ⟨rfl, HK.out⟩
set_option maxRecDepth 20000 in
set_option maxHeartbeats 4000000 in
theorem scans_all (l : List UInt8) (w : World) (ad : Nat → Addr) (hC : ClsAt w) (hE : Errs16 w ad) (hl : l.length ≤ 400000000000 - 1) :
    Calls Tryd.prog 3 #[.string (bq l)] w fun e w' => e = .returned (.bool true) ∧ Kept (fun _ => False) w w' := by
  have hS : SynAt w (ad 15) := ⟨hE.s15.var⟩
  have CV := hideL (lives13_any w (ad 15) hC hS)
  cases hZ : (scanF l).2 with
  | none =>
    obtain ⟨L, hL⟩ : ∃ L, L = (scanF l).1 := ⟨_, rfl⟩
    obtain ⟨n, hn⟩ : ∃ n, n = L.length := ⟨_, rfl⟩
    have h1 : scanF l = (L, none) := by rw [hL, ← hZ]
    obtain ⟨p0, p1, -⟩ := scan_pos l hZ
    rw [← hL, ← hn] at p0 p1
    have hnb : n ≤ 400000000000 := by omega
    have C1 := hideL (fun W (k : Kept (fun _ => False) w W) => scan_list l L n W (ad 15) (hC.later k) (hS.later k) (by omega) h1 hn p0)
    have C2 := hideL (fun W => rscan_list l L n W (by omega) h1 hn p0)
    have C3 := hideL (fun (ga gb ca cb : Nat) (W : World) (hA : ∀ k y, L[k]? = some y → LxAt W ga k y) (hB : ∀ k y, L[k]? = some y → LxAt W gb k y) => same_true L n ga gb ca cb W hn hnb hA hB)
    generalize bq l = s at *
    clear hC hS hE hZ hL hn h1 p1 hl
    go_enter Tryd.func3, Tryd.ntmps3
    go_wp2_with (first
      | (go_at_call 5; refine CV.out.mono ?_; clear CV; rintro x W1 ⟨rfl, k1⟩; have K1 := hideL k1; clear k1)
      | (go_at_call 6; refine (C1.out _ K1.out).mono ?_; clear C1; rintro x W2 ⟨⟨g2, c2, rfl, l2⟩, k2⟩; have K2 := hideL (K1.out.trans k2 (fun _ f => f.elim)); have L2 := hideL l2; clear K1 k2 l2)
      | (go_at_call 7; refine (C2.out _).mono ?_; clear C2; rintro x W3 ⟨⟨g3, c3, rfl, l3⟩, k3⟩; have K3 := hideL (K2.out.trans k3 (fun _ f => f.elim)); have L3 := hideL l3; have M3 := hideL (fun k y e => (L2.out k y e).later k3); clear K2 k3 l3 L2)
      | (go_at_call 8; refine (C3.out _ _ _ _ _ M3.out L3.out).mono ?_; clear C3; rintro x W4 ⟨rfl, k4⟩; have K4 := hideL (K3.out.trans k4 (fun _ f => f.elim)); clear k4 K3 L3 M3)
      | (go_at_call 9; refine (num_nil _).mono ?_; rintro x W5 ⟨rfl, e5⟩; subst e5))
    go_ret
    exact ⟨rfl, K4.out⟩
  | some f =>
    have C1 := hideL (fun W (k : Kept (fun _ => False) w W) => scan_some l W (ad 15) (hC.later k) (hS.later k) (by omega) f hZ)
    have C2 := hideL (fun W => rscan_some l W (by omega) f hZ)
    have C5 := hideL (fun W (k : Kept (fun _ => False) w W) => num_syntax (hE.kept k))
    have q1 : ((f : Int) == (f : Int)) = true := by simp
    generalize bq l = s at *
    generalize ad 15 = a15 at *
    clear hC hS hE hZ hl
    go_enter Tryd.func3, Tryd.ntmps3
    go_wp2_with (first
      | (go_at_call 5; refine CV.out.mono ?_; clear CV; rintro x W1 ⟨rfl, k1⟩; have K1 := hideL k1; clear k1)
      | (go_at_call 6; refine (C1.out _ K1.out).mono ?_; clear C1; rintro x W2 ⟨rfl, k2⟩; have K2 := hideL (K1.out.trans k2 (fun _ f => f.elim)); clear K1 k2)
      | (go_at_call 7; refine (C2.out _).mono ?_; clear C2; rintro x W3 ⟨⟨a3, c3, rfl⟩, k3⟩; have K3 := hideL (K2.out.trans k3 (fun _ f => f.elim)); clear K2 k3)
      | (go_at_call 8; refine (same_nil _ _ _).mono ?_; rintro x W4 ⟨rfl, k4⟩; have K4 := hideL (K3.out.trans k4 (fun _ f => f.elim)); clear k4 K3)
      | (go_at_call 9; refine (C5.out _ K4.out).mono ?_; clear C5; rintro x W5 ⟨rfl, e5⟩; subst e5))
    go_ret
    exact ⟨rfl, K4.out⟩
end Go.Proofs.YtakjaablankipaaDoor
