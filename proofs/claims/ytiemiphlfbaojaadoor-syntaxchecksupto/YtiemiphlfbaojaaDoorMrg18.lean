import Derived.Test.YtiemiphlfbaojaaDoorWzi
import Derived.Test.YtiemiphlfbaojaaDoorMrg12
import Derived.Test.YtiemiphlfbaojaaDoorMrg13
import Derived.Test.YtiemiphlfbaojaaDoorMrg16
import Derived.Test.YtiemiphlfbaojaaDoorMrg17
namespace Go.Proofs.YtiemiphlfbaojaaDoor
open Go.ChangeShapes Go.WideShapes Go.ChangeAt Go.RowKit
variable {w : World}

/-! The document's scanned and Check. -/
def snPost (w : World) (R : List Tn) (n : Nat) (x : Ending) (w' : World) : Prop := Kept (fun _ => False) w w' ∧ ((rfR R ≠ none ∧ ∃ g c, x = .returned (.tuple #[.slice (some ⟨g, 0, none⟩) n c, .int .i64 0, .int .i64 0]) ∧ Rw w' (some ⟨g, 0, none⟩) R) ∨ ∃ i, rfR (R.take i) ≠ none ∧ rfR (R.take (i + 1)) = none ∧ x = .returned (.tuple #[.slice none 0 0, .int .i64 (tkA R i).a, .int .i64 16]))
set_option maxRecDepth 20000 in
set_option maxHeartbeats 4000000 in
theorem scanned_none (l : List UInt8) (L : List Lx) (n : Nat) (w : World) (hl : l.length ≤ 400000000000) (h : scanF l = (L, none)) (hn : n = L.length) (h0 : 0 < n) (hb : n ≤ 400000000000) : Calls Tryd.prog 14 #[.string (bq l)] w (snPost w (rowL L) n) := by
  have C1 := hideL (rscan_list l L n w hl h hn h0)
  have hrl : n = (rowL L).length := by unfold rowL; rw [List.length_map]; exact hn
  have C2 := hideL (fun (W : World) (g c : Nat) (hR : Rw W (some ⟨g, 0, none⟩) (rowL L)) => fault_any (rowL L) n hrl (some ⟨g, 0, none⟩) c W hR (by omega))
  have HL : Hid (∀ (W : World) (g : Nat), (∀ k y, L[k]? = some y → LxAt W g k y) → Rw W (some ⟨g, 0, none⟩) (rowL L)) := hideL (fun W g h => rw_list h)
  have HN := hideL hrl
  have HP1 : Hid (∀ g c w', Kept (fun _ => False) w w' → rfR (rowL L) ≠ none → Rw w' (some ⟨g, 0, none⟩) (rowL L) → snPost w (rowL L) n (.returned (.tuple #[.slice (some ⟨g, 0, none⟩) n c, .int .i64 0, .int .i64 0])) w') := hideL (fun g c w' k a b => ⟨k, .inl ⟨a, g, c, rfl, b⟩⟩)
  have HP2 : Hid (∀ i w' (z : Int), Kept (fun _ => False) w w' → rfR ((rowL L).take i) ≠ none → rfR ((rowL L).take (i + 1)) = none → z = (tkA (rowL L) i).a → snPost w (rowL L) n (.returned (.tuple #[.slice none 0 0, .int .i64 z, .int .i64 16])) w') := hideL (fun i w' z k a b e => ⟨k, .inr ⟨i, a, b, by rw [e]⟩⟩)
  generalize snPost w (rowL L) n = QQ at *
  generalize rowL L = R at *
  generalize bq l = s at *
  clear hl h hn hrl
  go_enter Tryd.func14, Tryd.ntmps14
  go_wp2_with (first
    | (go_at_call 25; refine C1.out.mono ?_; clear C1; rintro x W1 ⟨⟨g1, c1, rfl, l1⟩, k1⟩; have K1 := hideL k1; have R1 := hideL (HL.out _ _ l1); clear k1 l1)
    | (go_at_call 26; refine Stp13.go ?_))
  refine ⟨?_⟩
  refine (C2.out W1 g1 c1 R1.out).mono ?_
  clear C2
  rintro x W2 ⟨k2, ⟨i, rfl, hi, ha, hb2⟩ | ⟨rfl, ha⟩⟩
  · have K2 := hideL (K1.out.trans k2 (fun _ f => f.elim))
    have R2 := hideL (R1.out.later k2)
    have HA := hideL ha
    have HB := hideL hb2
    have hil : i < n := by rw [HN.out]; exact hi
    have hiz : (i : Int) < (n : Int) := by omega
    have hi0 : ¬ (i : Int) < 0 := by omega
    have hi1 : (0 : Int) ≤ (i : Int) := by omega
    have hy : R[i]? = some R[i] := List.getElem?_eq_getElem hi
    have et : tkA R i = R[i] := by unfold tkA; rw [hy]; rfl
    obtain ⟨g9, o9, e9, hc⟩ := R2.out (by intro e; rw [e] at hi; simp at hi)
    have y3 := (hc i _ hy).c3
    rw [← et] at y3
    injection e9 with e9
    injection e9 with eg eo _
    subst eg
    subst eo
    rw [Nat.zero_add] at y3
    have HZ : Hid ((tkA R i).a = (tkA R i).a) := hideL rfl
    generalize hz : (tkA R i).a = z at y3
    have HZ2 := hideL hz
    clear k2 ha hb2 hi hy et hc hz HZ K1 R1
    go_wp2_with fail
    go_region
    go_wp2_with fail
    go_ret3
    exact HP2.out i _ _ (K2.out.trans (Kept.drew _) (fun _ f => f.elim)) HA.out HB.out HZ2.out.symm
  · have K2 := hideL (K1.out.trans k2 (fun _ f => f.elim))
    have R2 := hideL (R1.out.later k2)
    have HA := hideL ha
    clear k2 ha K1 R1
    go_wp2_with fail
    first | exact HP1.out _ _ _ K2.out HA.out R2.out | (go_ret3; exact HP1.out _ _ _ K2.out HA.out R2.out)
set_option maxRecDepth 20000 in
set_option maxHeartbeats 4000000 in
theorem scanned_some (l : List UInt8) (w : World) (hl : l.length ≤ 400000000000) (f : Nat) (h : (scanF l).2 = some f) : Calls Tryd.prog 14 #[.string (bq l)] w fun x w' => x = .returned (.tuple #[.slice none 0 0, .int .i64 (f : Int), .int .i64 16]) ∧ Kept (fun _ => False) w w' := by
  have C1 := hideL (rscan_some l w hl f h)
  generalize bq l = s at *
  clear hl h
  go_enter Tryd.func14, Tryd.ntmps14
  go_wp2_with (go_at_call 25; refine C1.out.mono ?_; clear C1; rintro x W1 ⟨⟨a1, c1, rfl⟩, k1⟩; have K1 := hideL k1; clear k1)
  go_ret3
  exact ⟨rfl, K1.out⟩
set_option maxRecDepth 20000 in
set_option maxHeartbeats 4000000 in
theorem rcheck_some (l : List UInt8) (w : World) (hl : l.length ≤ 400000000000) (f : Nat) (h : (scanF l).2 = some f) : Calls Tryd.prog 7 #[.string (bq l)] w fun x w' => x = .returned (.tuple #[.int .i64 0, .int .i64 (f : Int), .int .i64 16]) ∧ Kept (fun _ => False) w w' := by
  have C1 := hideL (scanned_some l w hl f h)
  generalize bq l = s at *
  clear hl h
  go_enter Tryd.func7, Tryd.ntmps7
  go_wp2_with (go_at_call 14; refine C1.out.mono ?_; clear C1; rintro x W1 ⟨rfl, k1⟩; have K1 := hideL k1; clear k1)
  go_ret3
  exact ⟨rfl, K1.out⟩
def rcPost (w : World) (R : List Tn) (x : Ending) (w' : World) : Prop := Kept (fun _ => False) w w' ∧ ((rfR R ≠ none ∧ x = .returned (.tuple #[.int .i64 ((nsL R 0 0 0 [] : Nat) : Int), .int .i64 0, .int .i64 0])) ∨ ∃ i, rfR (R.take i) ≠ none ∧ rfR (R.take (i + 1)) = none ∧ x = .returned (.tuple #[.int .i64 0, .int .i64 (tkA R i).a, .int .i64 16]))
set_option maxRecDepth 20000 in
set_option maxHeartbeats 4000000 in
theorem rcheck_none (l : List UInt8) (L : List Lx) (n : Nat) (w : World) (hl : l.length ≤ 400000000000) (h : scanF l = (L, none)) (hn : n = L.length) (h0 : 0 < n) (hb : n ≤ 2000000) : Calls Tryd.prog 7 #[.string (bq l)] w (rcPost w (rowL L)) := by
  have C1 := hideL (scanned_none l L n w hl h hn h0 (by omega))
  have hrl : n = (rowL L).length := by unfold rowL; rw [List.length_map]; exact hn
  have C2 := hideL (fun (W : World) (g c : Nat) (hR : Rw W (some ⟨g, 0, none⟩) (rowL L)) (hOK : rfR (rowL L) ≠ none) => nest_any (rowL L) n hrl (some ⟨g, 0, none⟩) c W hR hb hOK (end_list h))
  have HP1 : Hid (∀ w', Kept (fun _ => False) w w' → rfR (rowL L) ≠ none → rcPost w (rowL L) (.returned (.tuple #[.int .i64 ((nsL (rowL L) 0 0 0 [] : Nat) : Int), .int .i64 0, .int .i64 0])) w') := hideL (fun w' k a => ⟨k, .inl ⟨a, rfl⟩⟩)
  have HP2 : Hid (∀ i w', Kept (fun _ => False) w w' → rfR ((rowL L).take i) ≠ none → rfR ((rowL L).take (i + 1)) = none → rcPost w (rowL L) (.returned (.tuple #[.int .i64 0, .int .i64 (tkA (rowL L) i).a, .int .i64 16])) w') := hideL (fun i w' k a b => ⟨k, .inr ⟨i, a, b, rfl⟩⟩)
  generalize rcPost w (rowL L) = QQ at *
  generalize rowL L = R at *
  generalize nsL R 0 0 0 [] = N at *
  generalize bq l = s at *
  clear hl h hn hrl
  go_enter Tryd.func7, Tryd.ntmps7
  go_wp2_with (go_at_call 14; refine Stp13.go ?_)
  refine ⟨?_⟩
  refine C1.out.mono ?_
  clear C1
  rintro x W1 ⟨k1, ⟨ha, g1, c1, rfl, r1⟩ | ⟨i, ha, hb2, rfl⟩⟩
  · have K1 := hideL k1
    have R1 := hideL r1
    have HA := hideL ha
    clear k1 r1 ha
    go_wp2_with (go_at_call 15; refine (C2.out _ _ _ R1.out HA.out).mono ?_; clear C2; rintro x W2 ⟨rfl, k2⟩; have K2 := hideL (K1.out.trans k2 (fun _ f => f.elim)); clear k2 K1)
    first | exact HP1.out _ K2.out HA.out | (go_ret3; exact HP1.out _ K2.out HA.out)
  · have K1 := hideL k1
    have HA := hideL ha
    have HB := hideL hb2
    generalize hz : (tkA R i).a = z at *
    have HZ := hideL hz
    have HP2i := hideL (fun w' k => HP2.out i w' k HA.out HB.out)
    rw [hz] at HP2i
    clear k1 ha hb2 hz HP2
    go_wp2_with fail
    first | exact HP2i.out _ K1.out | (go_ret3; exact HP2i.out _ K1.out)
end Go.Proofs.YtiemiphlfbaojaaDoor
namespace Go.Proofs.YtiemiphlfbaojaaDoor
open Go.ChangeShapes Go.WideShapes Go.ChangeAt Go.RowKit
variable {w : World}

/-! The law SyntaxChecks. -/
set_option maxRecDepth 20000 in
set_option maxHeartbeats 4000000 in
theorem checks_good (s : ByteArray) (w : World) (ad : Addr) (hC : ClsAt w) (hS : SynAt w ad) (N : Int)
    (c1 : ∀ W, Kept (fun _ => False) w W → Calls Tryd.prog 6 #[.string s] W fun x w' => x = .returned (.tuple #[.int .i64 N, .int .i64 0, .nilIface]) ∧ Kept (fun _ => False) W w')
    (c2 : ∀ W, Kept (fun _ => False) w W → Calls Tryd.prog 7 #[.string s] W fun x w' => x = .returned (.tuple #[.int .i64 N, .int .i64 0, .int .i64 0]) ∧ Kept (fun _ => False) W w') :
    Calls Tryd.prog 3 #[.string s] w fun e w' => e = .returned (.bool true) ∧ Kept (fun _ => False) w w' := by
  have CV := hideL (lives_yes ad hC hS)
  have C1 := hideL c1
  have C2 := hideL c2
  have q1 : (N == N) = true := by simp
  clear c1 c2 hC hS
  go_enter Tryd.func3, Tryd.ntmps3
  go_wp2_with (first
    | (go_at_call 5; refine CV.out.mono ?_; clear CV; rintro x W1 ⟨rfl, k1⟩; have K1 := hideL k1; clear k1)
    | (go_at_call 6; refine (C1.out _ K1.out).mono ?_; clear C1; rintro x W2 ⟨rfl, k2⟩; have K2 := hideL (K1.out.trans k2 (fun _ f => f.elim)); clear K1 k2)
    | (go_at_call 7; refine (C2.out _ K2.out).mono ?_; clear C2; rintro x W3 ⟨rfl, k3⟩; have K3 := hideL (K2.out.trans k3 (fun _ f => f.elim)); clear K2 k3)
    | (go_at_call 8; refine (num_nil _).mono ?_; rintro x W5 ⟨rfl, e5⟩; subst e5))
  go_ret
  exact ⟨rfl, K3.out⟩
set_option maxRecDepth 20000 in
set_option maxHeartbeats 4000000 in
theorem checks_bad (s : ByteArray) (w : World) (ad : Nat → Addr) (hC : ClsAt w) (hE : Errs16 w ad) (P : Int)
    (c1 : ∀ W, Kept (fun _ => False) w W → Calls Tryd.prog 6 #[.string s] W fun x w' => x = .returned (.tuple #[.int .i64 0, .int .i64 P, synV (ad 15)]) ∧ Kept (fun _ => False) W w')
    (c2 : ∀ W, Kept (fun _ => False) w W → Calls Tryd.prog 7 #[.string s] W fun x w' => x = .returned (.tuple #[.int .i64 0, .int .i64 P, .int .i64 16]) ∧ Kept (fun _ => False) W w') :
    Calls Tryd.prog 3 #[.string s] w fun e w' => e = .returned (.bool true) ∧ Kept (fun _ => False) w w' := by
  have hS : SynAt w (ad 15) := ⟨hE.s15.var⟩
  have CV := hideL (lives_yes (ad 15) hC hS)
  have C1 := hideL c1
  have C2 := hideL c2
  have C5 := hideL (fun W (k : Kept (fun _ => False) w W) => num_syntax (hE.kept k))
  have q1 : (P == P) = true := by simp
  unfold synV at C1
  generalize ad 15 = a15 at *
  clear c1 c2 hC hS hE
  go_enter Tryd.func3, Tryd.ntmps3
  go_wp2_with (first
    | (go_at_call 5; refine CV.out.mono ?_; clear CV; rintro x W1 ⟨rfl, k1⟩; have K1 := hideL k1; clear k1)
    | (go_at_call 6; refine (C1.out _ K1.out).mono ?_; clear C1; rintro x W2 ⟨rfl, k2⟩; have K2 := hideL (K1.out.trans k2 (fun _ f => f.elim)); clear K1 k2)
    | (go_at_call 7; refine (C2.out _ K2.out).mono ?_; clear C2; rintro x W3 ⟨rfl, k3⟩; have K3 := hideL (K2.out.trans k3 (fun _ f => f.elim)); clear K2 k3)
    | (go_at_call 8; refine (C5.out _ K3.out).mono ?_; clear C5; rintro x W5 ⟨rfl, e5⟩; subst e5))
  go_ret
  exact ⟨rfl, K3.out⟩
theorem checks_all (l : List UInt8) (w : World) (ad : Nat → Addr) (hC : ClsAt w) (hE : Errs16 w ad) (hl : l.length ≤ 1100000) :
    Calls Tryd.prog 3 #[.string (bq l)] w fun e w' => e = .returned (.bool true) ∧ Kept (fun _ => False) w w' := by
  have hS : SynAt w (ad 15) := ⟨hE.s15.var⟩
  have ck := fun W (k : Kept (fun _ => False) w W) => check_any (w := W) l (ad 15) (hC.later k) (hS.later k) (by omega)
  cases hZ : (scanF l).2 with
  | some f =>
    refine checks_bad (bq l) w ad hC hE (f : Int) (fun W k => (ck W k).mono ?_) (fun W k => rcheck_some l W (by omega) f hZ)
    rintro x w' ⟨⟨L, h, _⟩ | ⟨f', h, rfl⟩, k2⟩
    · rw [h] at hZ; cases hZ
    · rw [hZ] at h
      cases h
      exact ⟨rfl, k2⟩
  | none =>
    obtain ⟨L, hL⟩ : ∃ L, L = (scanF l).1 := ⟨_, rfl⟩
    obtain ⟨n, hn⟩ : ∃ n, n = L.length := ⟨_, rfl⟩
    have h1 : scanF l = (L, none) := by rw [hL, ← hZ]
    obtain ⟨p0, p1, -⟩ := scan_pos l hZ
    rw [← hL, ← hn] at p0 p1
    have hrl : n = (rowL L).length := by unfold rowL; rw [List.length_map]; exact hn
    have rk := fun W => rcheck_none l L n W (by omega) h1 hn p0 (by omega)
    cases hr : (runR (rowL L)).1 with
    | true =>
      have ha : (runR (rowL L)).2.at' = (rowL L).length := by rw [run_whole h1 hr, ← hrl]; exact hn.symm
      have hOK := run_ok hr ha
      have hN := run_nest hr ha
      refine checks_good (bq l) w (ad 15) hC hS ((nsL (rowL L) 0 0 0 [] : Nat) : Int) (fun W k => (ck W k).mono ?_) (fun W k => (rk W).mono ?_)
      · rintro x w' ⟨⟨L', h, hh⟩ | ⟨f', h, rfl⟩, k2⟩
        · rw [h1] at h
          cases h
          rcases hh with ⟨_, rfl⟩ | ⟨hf, _⟩
          · exact ⟨by rw [hN], k2⟩
          · rw [hr] at hf; cases hf
        · rw [hZ] at h; cases h
      · rintro x w' ⟨k2, ⟨_, rfl⟩ | ⟨i, _, hi, _⟩⟩
        · exact ⟨rfl, k2⟩
        · exact absurd (rf_take hi) hOK
    | false =>
      have ha : (runR (rowL L)).2.at' < (rowL L).length := runR_in (end_list h1) hr
      obtain ⟨b1, b2⟩ := runR_bad14 hr ha
      refine checks_bad (bq l) w ad hC hE ((tkA (rowL L) (runR (rowL L)).2.at').a) (fun W k => (ck W k).mono ?_) (fun W k => (rk W).mono ?_)
      · rintro x w' ⟨⟨L', h, hh⟩ | ⟨f', h, rfl⟩, k2⟩
        · rw [h1] at h
          cases h
          rcases hh with ⟨hf, _⟩ | ⟨_, rfl⟩
          · rw [hr] at hf; cases hf
          · exact ⟨rfl, k2⟩
        · rw [hZ] at h; cases h
      · rintro x w' ⟨k2, ⟨hOK, _⟩ | ⟨i, a1, a2, rfl⟩⟩
        · exact absurd (rf_take b2) hOK
        · rw [rf_first a1 a2 b1 b2]
          exact ⟨rfl, k2⟩
end Go.Proofs.YtiemiphlfbaojaaDoor
