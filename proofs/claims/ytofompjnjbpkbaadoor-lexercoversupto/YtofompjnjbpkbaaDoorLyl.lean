import Derived.Test.YtofompjnjbpkbaaDoorLyk
namespace Go.Proofs.YtofompjnjbpkbaaDoor
open Go.ChangeShapes Go.WideShapes Go.ChangeAt Go.RowKit

theorem scan_none (l : List UInt8) (w : World) (ad : Addr) (hC : ClsAt w) (hS : SynAt w ad) (hl : l.length ≤ 400000000000) (h : (scanF l).2 = none) :
    Calls Tryd.prog 9 #[.string (bq l)] w fun x w' => (∃ a c m, x = .returned (.tuple #[.slice a m c, .int .i64 0, .nilIface]) ∧ Tks w w' a c m (scanF l).1) ∧ Kept (fun _ => False) w w' := by
  refine (lscan_any l w ad hC hS hl).mono ?_
  rintro x w' (⟨_, a, c, m, rfl, hT⟩ | ⟨f, hf, _⟩)
  · exact ⟨⟨a, c, m, rfl, hT⟩, hT.gro.kept⟩
  · rw [h] at hf; cases hf
theorem scan_some (l : List UInt8) (w : World) (ad : Addr) (hC : ClsAt w) (hS : SynAt w ad) (hl : l.length ≤ 400000000000) (f : Nat) (h : (scanF l).2 = some f) :
    Calls Tryd.prog 9 #[.string (bq l)] w fun x w' => x = .returned (.tuple #[.slice none 0 0, .int .i64 (f : Int), .iface 68 (.pointer (some ad))]) ∧ Kept (fun _ => False) w w' := by
  refine (lscan_any l w ad hC hS hl).mono ?_
  rintro x w' (⟨hf, _⟩ | ⟨f', hf, rfl, hk⟩)
  · rw [h] at hf; cases hf
  · rw [h] at hf
    cases hf
    exact ⟨rfl, hk⟩
set_option maxRecDepth 20000 in
set_option maxHeartbeats 4000000 in
theorem faults_walk (l : List UInt8) (w : World) (ad : Addr) (hC : ClsAt w) (hS : SynAt w ad) (hl : l.length ≤ 400000000000) :
    Calls Tryd.prog 7 #[.string (bq l)] w fun e w' => e = .returned (.bool true) ∧ Kept (fun _ => False) w w' := by
  have CV := hideL (lives13_any w ad hC hS)
  cases hZ : (scanF l).2 with
  | none =>
    have C1 := hideL (fun W (k : Kept (fun _ => False) w W) => scan_none l W ad (hC.later k) (hS.later k) hl hZ)
    generalize bq l = s at *
    clear hC hS hZ
    go_enter Tryd.func7, Tryd.ntmps7
    go_wp2_with (first
      | (go_at_call 8; refine CV.out.mono ?_; clear CV; rintro x W1 ⟨rfl, k1⟩; have K1 := hideL k1; clear k1)
      | (go_at_call 9; refine (C1.out _ K1.out).mono ?_; clear C1; rintro x W2 ⟨⟨a2, c2, m2, rfl, -⟩, k2⟩; have K2 := hideL (K1.out.trans k2 (fun _ f => f.elim)); clear K1 k2))
    go_ret
    exact ⟨rfl, K2.out⟩
  | some f =>
    obtain ⟨hf, hb, h2, h3⟩ := scan_fault l f hZ
    have hb := hb hf
    have C1 := hideL (fun W (k : Kept (fun _ => False) w W) => scan_some l W ad (hC.later k) (hS.later k) hl f hZ)
    have C2 := hideL (fun W (k : Kept (fun _ => False) w W) => scan_none (l.take f) W ad (hC.later k) (hS.later k) (by rw [List.length_take]; omega) h2)
    have C3 := hideL (fun W (k : Kept (fun _ => False) w W) => scan_some (l.drop f) W ad (hC.later k) (hS.later k) (by rw [List.length_drop]; omega) 0 h3)
    have hbl : [l[f]].all (fun c => cl c == 101) = false := by simp [hb]
    have CB := hideL (fun W => blanks_any [l[f]] W (by simp))
    rw [hbl] at CB
    have x1 : (bq l).extract f (f + 1) = bq [l[f]] := by
      rw [bq_extract, show f + 1 - f = 1 by omega, List.drop_eq_getElem_cons hf]; rfl
    have x2 : (bq l).extract 0 f = bq (l.take f) := by
      rw [bq_extract, List.drop_zero, Nat.sub_zero]
    have x3 : (bq l).extract f (bq l).size = bq (l.drop f) := by
      rw [bq_extract, bq_size, List.take_of_length_le (by rw [List.length_drop]; exact Nat.le_refl _)]
    have hz : (bq l).size = l.length := bq_size l
    have HS := hideL hS
    generalize bq (l.take f) = v2 at *
    generalize bq (l.drop f) = v3 at *
    generalize bq [l[f]] = v1 at *
    generalize bq l = s at *
    have i1 : (f : Int) < (s.size : Int) := by omega
    have i2 : (f : Int) ≤ (s.size : Int) := by omega
    have i3 : (f : Int) + 1 ≤ (s.size : Int) := by omega
    have i4 : ((f : Int) + 1).toNat = f + 1 := by omega
    have sl1 : ∀ W : World, (Instr.slice 9 (.string s) (some (.int .i64 (f : Int))) (some (.int .i64 ((f : Int) + 1))) none).run Tryd.prog W = .ok (.string v1) W := fun W => by
      rw [run_slice_string W 9 s .i64 .i64 (f : Int) ((f : Int) + 1) Tryd.underlying9 (by omega) (by omega) i3, i4, Int.toNat_natCast, x1]
    have hfb : f ≤ 400000000000 := by omega
    have hsb : s.size ≤ 400000000000 := by omega
    clear hC hS hZ hb h2 h3 hbl hf hz
    go_enter Tryd.func7, Tryd.ntmps7
    go_wp2_with (first
      | (go_at_call 8; refine CV.out.mono ?_; clear CV; rintro x W1 ⟨rfl, k1⟩; have K1 := hideL k1; clear k1)
      | (go_at_call 9; refine (C1.out _ K1.out).mono ?_; clear C1; rintro x W2 ⟨rfl, k2⟩; have K2 := hideL (K1.out.trans k2 (fun _ f => f.elim)); have b2 := (HS.out.later K2.out).var; unfold synV at b2; have q2 := errNeL W2 ad; clear K1 k2)
      | (go_at_call 13; refine (CB.out _).mono ?_; clear CB; rintro x W3 ⟨rfl, e3⟩; subst e3)
      | (go_at_call 9; refine (C2.out _ K2.out).mono ?_; clear C2; rintro x W4 ⟨⟨a4, c4, m4, rfl, -⟩, k4⟩; have K4 := hideL (K2.out.trans k4 (fun _ f => f.elim)); clear K2 k4 b2 q2)
      | (go_at_call 9; refine (C3.out _ K4.out).mono ?_; clear C3; rintro x W5 ⟨rfl, k5⟩; have K5 := hideL (K4.out.trans k5 (fun _ f => f.elim)); have b5 := (HS.out.later K5.out).var; unfold synV at b5; have q5 := errEqL W5 ad; clear K4 k5))
    go_ret
    exact ⟨rfl, K5.out⟩
theorem faults_all (l : List UInt8) (w : World) (hC : ClsAt w) (hS : ∃ ad, SynAt w ad) (hl : l.length ≤ 400000000000) :
    Calls Tryd.prog 7 #[.string (bq l)] w fun e w' => e = .returned (.bool true) ∧ Kept (fun _ => False) w w' := by
  obtain ⟨ad, hS⟩ := hS
  exact faults_walk l w ad hC hS hl
end Go.Proofs.YtofompjnjbpkbaaDoor
