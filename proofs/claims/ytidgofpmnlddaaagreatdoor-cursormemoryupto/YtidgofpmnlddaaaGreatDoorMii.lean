import Derived.Test.YtidgofpmnlddaaaGreatDoorMia
namespace Go.Proofs.YtidgofpmnlddaaaGreatDoor
open Go.ChangeShapes Go.WideShapes Go.ChangeAt Go.RowKit


set_option maxRecDepth 20000 in
set_option maxHeartbeats 2000000 in
theorem spareI_any (mk : Nat → Nat → Int) (hmk : MarkI mk) (l : List Int) (a : Option Addr) (c : Nat) (w : World) (hB : IntsAt w a l) (ha : a = none → c = 0) (hl : l.length ≤ 1099511620000) :
    Calls Tryz.prog 33 #[.slice a l.length c] w fun e w' => ∃ g c', e = .returned (.tuple #[.slice (some ⟨g, 0, none⟩) l.length c', .slice (some ⟨g, 0, none⟩) (l.length + 80) c']) ∧ Gro w w' 3 1 (.slice (some ⟨g, 0, none⟩) (l.length + 80) c') (l.length + 80) (is (l ++ mis mk 7 80)) := by
  obtain ⟨n, hn⟩ : ∃ n, n = l.length := ⟨_, rfl⟩
  obtain ⟨i0, hi, hz0, hz1, hz2⟩ := info_partsP Tryz.infoI
  obtain ⟨w1, hrun, hown, hgrow⟩ := run_make_own (P := Tryz.prog) (w := w) w.heap.size 24 3 i0 (.int .i64 0) 1 Tryz.underlying24 hi hz0 hz1 .i64 .i64 (n + 80) (by rw [hz2]; omega) (by unfold maxLen; omega) (Nat.le_refl _)
  rw [show ((n + 80 : Nat) : Int) = (n : Int) + 80 by omega] at hrun
  have k1 : Kept (fun _ => False) w w1 := (Kept.grown hgrow).mono (fun _ e => by cases e)
  have PE : Hid (Gro w w1 3 1 (.slice (some ⟨w.heap.size, 0, none⟩) 0 (n + 80)) 0 (is [])) := ⟨hown, k1⟩
  have QE : Hid (IntsAt w1 a l) := hB.kept k1
  clear hi hz0 hz1 hz2 hown hgrow k1
  have NL := hideP hn
  have ZL := hideP ha
  rw [← hn]
  have hln : n ≤ 1099511620000 := by omega
  have i1 : ((n : Int) + 80).toNat = n + 80 := by omega
  have i3 : IntKind.i64.wrap ((n : Int) + 80) = (n : Int) + 80 := by rw [IntKind.wrap_i64]; omega
  clear hB ha hn hl
  have HM := hideP hmk
  clear hmk
  go_enter Tryz.func33, Tryz.ntmps33
  go_wp2_with (at_builtin; refine StpQ.go ?_)
  refine ⟨?_⟩
  refine wpList_catYI rfl _ _ rfl _ 0 [] l rfl PE a n c rfl NL QE ZL (by omega) ?_
  clear PE QE
  intro a1 c1 W1 O1 _
  rw [Nat.zero_add, List.nil_append] at O1
  rw [Nat.zero_add]
  go_wp2_with fail
  go_loopw [4, 5] (fun f i wr => ∃ (k : Nat) (af : Option Addr) (m cf : Nat), k ≤ 80 ∧ m = n + k ∧ i = .int .i64 k ∧ f = .slice af m cf ∧ Hid (Gro w wr 3 1 (.slice af m cf) m (is (l ++ mis mk 7 k)))) (fun _ i _ => 80 - (intOf i).toNat)
  case atStart => exact ⟨0, a1, n, c1, Nat.zero_le _, rfl, rfl, rfl, by show Gro w W1 _ _ _ _ (is (l ++ [])); rw [List.append_nil]; exact O1.out⟩
  case round =>
    obtain ⟨k, af, m, cf, hk, hm, rfl, rfl, HO⟩ := hrel
    subst hm
    clear O1
    by_cases hlt : k < 80
    · have MC := hideP (HM.out 7 k (by decide) (by omega))
      have z7 : ((7 : Nat) : Int) = 7 := rfl
      rw [z7] at MC
      have HS : Hid ((l ++ mis mk 7 k) ++ [mk 7 k] = l ++ mis mk 7 (k + 1)) := hideP (by rw [mis_succ, List.append_assoc])
      generalize mk 7 k = q at MC HS
      have i2 : (k : Int) < 80 := by omega
      clear HM
      go_wp2_with (first | (go_at_call 25; refine (MC.out _).mono ?_; rintro e W4 ⟨rfl, e4⟩; subst e4) | (at_builtin; refine StpQ.go ?_))
      refine ⟨?_⟩
      refine wpList_pushN rfl _ _ rfl _ (n + k) (l ++ mis mk 7 k) (q) rfl HO _ rfl rfl (by omega) ?_
      intro g3 c3 W3 O3 _
      rw [HS.out] at O3
      go_wp2_with fail
      go_roundw
      case rel => exact ⟨k + 1, some ⟨g3, 0, none⟩, n + k + 1, c3, by omega, by omega, by go_num, rfl, O3⟩
      case measure => simp [intOf]; omega
    · obtain rfl : k = 80 := by omega
      obtain ⟨g, rfl, hcf, _⟩ := gro_capM HO.out (by omega)
      have j1 : (n : Int) ≤ (cf : Int) := by omega
      have j2 : n ≤ cf := by omega
      have i2 : ¬ ((80 : Nat) : Int) < 80 := by omega
      clear HM
      go_wp2
      go_ret2
      exact ⟨g, cf, rfl, HO.out⟩
set_option maxRecDepth 20000 in
set_option maxHeartbeats 2000000 in
theorem keptI_any (mk : Nat → Nat → Int) (hmk : MarkI mk) (l : List Int) (g cf : Nat) (b : Option Addr) (c n N : Nat) (w : World) (hF : IntsAt w (some ⟨g, 0, none⟩) (l ++ mis mk 7 80)) (hB : IntsAt w b l) (hn : n = l.length) (hN : N = n + 80) (hl : l.length ≤ 1099511620000) :
    Calls Tryz.prog 35 #[.slice (some ⟨g, 0, none⟩) N cf, .slice b n c] w fun e w' => e = .returned (.bool true) ∧ Kept (fun _ => False) w w' := by
  obtain ⟨g', o', eg, hcf⟩ := hF (by intro e; have := congrArg List.length e; rw [List.length_append, mis_length] at this; simp at this)
  simp only [Option.some.injEq, Addr.mk.injEq, and_true] at eg
  obtain ⟨rfl, rfl⟩ := eg
  have cA : Hid (∀ W, Kept (fun _ => False) w W → ∀ k, k < n → W.cell? ⟨g, k, none⟩ = some (.int .i64 (l[k]?.getD 0))) := by
    intro W q k hk
    have h := q.cell (hcf k (by rw [List.length_append, mis_length]; omega)) (fun f => f)
    rw [List.getElem?_append_left (by omega), Nat.zero_add] at h
    exact h
  have cM : Hid (∀ W, Kept (fun _ => False) w W → ∀ k, k < 80 → W.cell? ⟨g, n + k, none⟩ = some (.int .i64 (mk 7 k))) := by
    intro W q k hk
    have h := q.cell (hcf (n + k) (by rw [List.length_append, mis_length]; omega)) (fun f => f)
    rw [List.getElem?_append_right (by omega), show n + k - l.length = k by omega, mis_get _ _ _ _ hk, Nat.zero_add] at h
    exact h
  have cB : Hid (∀ W, Kept (fun _ => False) w W → l ≠ [] → ∃ b0 o0, b = some ⟨b0, o0, none⟩ ∧ ∀ k, k < n → W.cell? ⟨b0, o0 + k, none⟩ = some (.int .i64 (l[k]?.getD 0))) := by
    intro W q hne
    obtain ⟨b0, o0, e, h⟩ := (hB.kept q) hne
    exact ⟨b0, o0, e, fun k hk => h k (by omega)⟩
  have hne : n ≠ 0 → l ≠ [] := by intro h e; rw [e] at hn; exact h hn
  have HM := hideP hmk
  have hnb : n ≤ 1099511620000 := by omega
  subst hN
  clear hF hB hcf hmk hn hl
  go_enter Tryz.func35, Tryz.ntmps35
  go_wp2
  go_loopw [15] (fun i wr => ∃ k : Nat, k ≤ n ∧ i = .int .i64 k ∧ Hid (Kept (fun _ => False) w wr)) (fun i _ => n - (intOf i).toNat)
  case atStart => exact ⟨0, Nat.zero_le _, rfl, Kept.refl _ _⟩
  case round =>
    obtain ⟨k, hk, rfl, HK⟩ := hrel
    by_cases hlt : k < n
    · obtain ⟨b0, o0, rfl, hb0⟩ := cB.out wr HK.out (hne (by omega))
      have x1 := cA.out wr HK.out k hlt
      have x2 := hb0 k hlt
      generalize l[k]?.getD 0 = y at x1 x2
      have i2 : (k : Int) < (n : Int) := by omega
      have i3 : (k : Int) < (n : Int) + 80 := by omega
      have i4 : k < n + 80 := by omega
      clear hb0 cA cB cM HM
      go_wp2
      go_quiet (fail)
      go_wp2
      go_roundw
      case rel => exact ⟨k + 1, by omega, by go_num, HK.out.trans (Kept.drewN _ _) (fun _ f => f.elim)⟩
      case measure => simp [intOf]; omega
    · have hkn : k = n := by omega
      subst hkn
      have i2 : ¬ ((k : Int) < (k : Int)) := by omega
      clear hlt hk cA cB
      go_wp2
      go_loopw [6] (fun i wr => ∃ j : Nat, j ≤ 80 ∧ i = .int .i64 j ∧ Hid (Kept (fun _ => False) w wr)) (fun i _ => 80 - (intOf i).toNat)
      case atStart => exact ⟨0, Nat.zero_le _, rfl, HK⟩
      case round =>
        obtain ⟨j, hj, rfl, HJ⟩ := hrel
        clear HK
        by_cases hjl : j < 80
        · have MC := hideP (fun (W : World) => HM.out 7 j (by decide) (by omega) W)
          have z7 : ((7 : Nat) : Int) = 7 := rfl
          rw [z7] at MC
          have x1 := cM.out wr HJ.out j hjl
          generalize mk 7 j = q at x1 MC
          have j1 : (j : Int) < 80 := by omega
          have j2 : ((k : Int) + (j : Int)).toNat = k + j := by omega
          have j3 : (k : Int) + (j : Int) < (k : Int) + 80 := by omega
          have j5 : IntKind.i64.wrap ((k : Int) + (j : Int)) = (k : Int) + (j : Int) := by rw [IntKind.wrap_i64]; omega
          have j6 : (0 : Int) ≤ (k : Int) + (j : Int) := by omega
          have j4 : k + j < k + 80 := by omega
          clear cM HM
          go_wp2
          go_region_with (go_at_call 25; refine (MC.out _).mono ?_; rintro e W5 ⟨rfl, e5⟩; subst e5)
          all_goals
            go_wp2
            go_roundw
            case rel => exact ⟨j + 1, by omega, by go_num, HJ.out.trans (Kept.drewN _ 1) (fun _ f => f.elim)⟩
            case measure => simp [intOf]; omega
        · have j1 : ¬ ((j : Int) < 80) := by omega
          clear cM HM
          go_wp2
          go_ret
          exact ⟨rfl, HJ.out⟩
end Go.Proofs.YtidgofpmnlddaaaGreatDoor
