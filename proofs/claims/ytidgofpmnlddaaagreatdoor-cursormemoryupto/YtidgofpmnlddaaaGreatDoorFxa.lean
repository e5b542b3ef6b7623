import Derived.Test.YtidgofpmnlddaaaGreatDoorMrg10
import Derived.Test.YtidgofpmnlddaaaGreatDoorMrg11
namespace Go.Proofs.YtidgofpmnlddaaaGreatDoor
open Go.ChangeShapes Go.WideShapes Go.ChangeAt Go.RowKit

/-- The postings of the chapter's first example. -/
def twl (k : Nat) : List Po := (List.range k).map (fun i : Nat => (⟨10 * (i : Int), [3]⟩ : Po))
theorem twl_step (k : Nat) : twl (k + 1) = twl k ++ [⟨10 * (k : Int), [3]⟩] := by unfold twl; rw [List.range_succ, List.map_append]; rfl
theorem twl_len (k : Nat) : (twl k).length = k := by simp [twl]
theorem twl_last (k : Nat) : lastd (-1) (twl (k + 1)) = 10 * (k : Int) := by rw [twl_step, lastd_append]; rfl
theorem twl_good : ∀ k, k ≤ 100 → gdl (-1) (twl k)
  | 0, _ => trivial
  | k + 1, h => by
    rw [twl_step, gdl_append]
    refine ⟨twl_good k (by omega), ?_, trivial⟩
    have hl : lastd (-1) (twl k) < 10 * (k : Int) := by
      cases k with
      | zero => decide
      | succ j => rw [twl_last]; omega
    exact ⟨by simp only; omega, by simp only; omega, hl, by simp, ⟨by decide, by decide, trivial⟩⟩
theorem twl_tot : ∀ k, tot (twl k) = k
  | 0 => rfl
  | k + 1 => by rw [twl_step, tot_append, twl_tot k]; rfl
set_option maxRecDepth 20000 in
set_option maxHeartbeats 4000000 in
theorem twenty_any (W : World) : Calls Tryz.prog 16 #[] W fun e w' => ∃ (FL : List Pg) (a : Option Addr) (c : Nat), e = .returned (.slice a FL.length c) ∧ pol FL = twl 20 ∧ PsAt w' a FL ∧ FL.length ≤ c ∧ Kept (fun _ => False) W w' := by
  go_enter Tryz.func16, Tryz.ntmps16
  go_wp2
  go_loopw [1, 2] (fun s1 s2 wr => ∃ (k : Nat) (FL : List Pg) (sa : Option Addr) (sc : Nat), k ≤ 20 ∧ s2 = .int .i64 k ∧ s1 = .slice sa k sc ∧ Hid (pol FL = twl k) ∧ Hid (Gps (fun _ => False) W wr (.slice sa k sc) k FL)) (fun _ s2 _ => 20 - (intOf s2).toNat)
  case atStart => exact ⟨0, [], none, 0, by omega, rfl, rfl, hideP rfl, hideP ⟨⟨rfl, .inl ⟨rfl, rfl⟩⟩, Kept.refl _ _, fun g hg => (by cases hg), fun g hg => (by cases hg)⟩⟩
  case round =>
    obtain ⟨k, FL, sa, sc, hk, rfl, rfl, HP, HG⟩ := hrel
    by_cases hlt : k < 20
    · have hkk : (k : Int) < 20 := by omega
      have kA := Kept.alloc wr (.cells #[.int .i64 3] 3)
      have HG1 := hideP (HG.out.step kA (fun _ f => f.elim))
      have GW := hideP HG1.out.own
      have hB : Hid (IntsAt (wr.alloc (.cells #[.int .i64 3] 3)) (some ⟨wr.heap.size, 0, none⟩) [3]) := hideP (fun _ => ⟨wr.heap.size, 0, rfl, fun j hj => by
        have : j = 0 := by simpa using hj
        subst this
        simp⟩)
      have s4 : W.heap.size ≤ (wr.alloc (.cells #[.int .i64 3] 3)).heap.size := HG1.out.kept.size
      have hz : (wr.alloc (.cells #[.int .i64 3] 3)).heap.size = wr.heap.size + 1 := by simp
      have HZ := hideP hz
      have HOB : Hid (Value.ownBlock (.slice sa k sc) ≠ some wr.heap.size) := hideP (fun e => by
        have := (HG.out.own.lt _ e).2
        omega)
      have HWS := hideP HG.out.kept.size
      clear kA hz
      go_wp2_with (at_builtin; refine wpList_pushG rfl _ _ rfl _ k (pcs FL) ⟨10 * (k : Int), some ⟨wr.heap.size, 0, none⟩, 1, [3]⟩ 1 rfl rfl GW s4 _ (by first | rfl | simp) rfl (by omega) ?_; intro gb c' W5 O5 K5 A5)
      have HG5 := hideP (HG1.out.more O5.out K5.out A5.out (M := [⟨10 * (k : Int), some ⟨wr.heap.size, 0, none⟩, 1, [3]⟩]) (fun g hg => by
        rw [List.mem_singleton] at hg
        subst hg
        exact hB.out) (fun g hg _ => by
        rw [List.mem_singleton] at hg
        subst hg
        exact ⟨wr.heap.size, 0, rfl, HWS.out, by rw [HZ.out]; omega, HOB.out⟩))
      have HP5 : Hid (pol (FL ++ [⟨10 * (k : Int), some ⟨wr.heap.size, 0, none⟩, 1, [3]⟩]) = twl (k + 1)) := hideP (by
        rw [twl_step, ← HP.out]
        simp [pol, Pg.po])
      clear O5 K5 A5 GW HG1 hB s4
      generalize (FL ++ [⟨10 * (k : Int), some ⟨wr.heap.size, 0, none⟩, 1, [3]⟩] : List Pg) = FL5 at *
      go_wp2
      go_roundw
      case rel => exact ⟨k + 1, FL5, _, c', by omega, by go_num, rfl, HP5, HG5⟩
      case measure => simp [intOf]; omega
    · obtain rfl : k = 20 := by omega
      have h1 := HG.out.at
      have HN := hideP h1.2.1
      have HC := hideP h1.2.2
      have HA := hideP h1.1
      clear h1
      go_wp2
      go_ret
      exact ⟨FL, sa, sc, by rw [← HN.out]; rfl, HP.out, HA.out, by rw [← HN.out]; exact HC.out, HG.out.kept⟩
end Go.Proofs.YtidgofpmnlddaaaGreatDoor
