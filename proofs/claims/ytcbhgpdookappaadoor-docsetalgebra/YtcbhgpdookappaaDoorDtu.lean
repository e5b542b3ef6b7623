import Derived.Test.YtcbhgpdookappaaDoorDtt
import Derived.Test.YtcbhgpdookappaaDoorDtn
import Derived.Test.YtcbhgpdookappaaDoorDtj
import Derived.Test.YtcbhgpdookappaaDoorEqs
namespace Go.Proofs.YtcbhgpdookappaaDoor.Ds
open Go.ChangeShapes Go.WideShapes Go.ChangeAt Go.RowKit

theorem intsAt_own {w : World} {base n : Nat} {g c : Nat} {l : List Nat} (h : w.ownsRow base 3 1 (.slice (some ⟨g, 0, none⟩) n c) n (isN l)) : IntsAt w (some ⟨g, 0, none⟩) (l.map (fun (x : Nat) => (x : Int))) := by
  intro _
  refine ⟨g, 0, rfl, fun k hk => ?_⟩
  rw [List.length_map] at hk
  rcases h.2 with ⟨e, _⟩ | ⟨g', cap, cur, e, hb, hg, hnc, _, hcs, ht⟩
  · cases e
  · simp only [Value.slice.injEq, Option.some.injEq, Addr.mk.injEq, and_true, true_and] at e
    obtain ⟨rfl, _⟩ := e
    have hn : n = l.length := by have := h.1; rw [isN_len] at this; omega
    rw [Nat.zero_add, cell_of_row _ _ _ _ _ _ hg, List.getElem?_map, List.getElem?_eq_getElem hk]
    have h1 : (isN l)[k]? = some (.int .i64 (l[k] : Int)) := by simp [isN, List.getElem?_eq_getElem hk]
    rw [← ht, List.getElem?_take, if_pos (by omega), Array.getElem?_toList] at h1
    exact h1
set_option maxRecDepth 20000 in
set_option maxHeartbeats 2000000 in
theorem eqInts_any (A B : List Int) (a b : Option Addr) (n m c d : Nat) (hn : n = A.length) (hm : m = B.length) (w : World) (hA : IntsAt w a A) (hB : IntsAt w b B) (hl : A.length ≤ 281474976710656) :
    Calls Tryd.prog 25 #[.slice a n c, .slice b m d] w fun e w' => e = .returned (.bool (decide (A = B))) ∧ Kept (fun _ => False) w w' := by
  obtain ⟨R, hR⟩ : ∃ R, R = decide (A = B) := ⟨_, rfl⟩
  rw [← hR]
  have HR := hideD hR
  clear hR
  by_cases hnm : n = m
  · subst hnm
    have HA := hideD hA
    have HB := hideD hB
    have HN := hideD (And.intro hn hm)
    have hn2 : n ≤ 281474976710656 := by omega
    clear hA hB hn hm hl
    go_enter Tryd.func25, Tryd.ntmps25
    go_wp2
    go_loopw [13] (fun i wr => ∃ k : Nat, k ≤ n ∧ i = .int .i64 k ∧ Hid (A.take k = B.take k) ∧ Hid (Kept (fun _ => False) w wr)) (fun i _ => n - (intOf i).toNat)
    case atStart => exact ⟨0, by omega, rfl, hideD rfl, hideD (Kept.refl _ _)⟩
    case round =>
      obtain ⟨k, hk, rfl, HE, HK⟩ := hrel
      by_cases hlt : k < n
      · have hka : k < A.length := by have := HN.out.1; omega
        have hkb : k < B.length := by have := HN.out.2; omega
        obtain ⟨ba, oa, rfl, ca⟩ := HA.out.get hka
        obtain ⟨bb, ob, rfl, cb⟩ := HB.out.get hkb
        replace ca := HK.out.cell ca (fun f => f)
        replace cb := HK.out.cell cb (fun f => f)
        have tA : A.take (k + 1) = A.take k ++ [A[k]?.getD 0] := by rw [List.take_add_one, List.getElem?_eq_getElem hka]; rfl
        have tB : B.take (k + 1) = B.take k ++ [B[k]?.getD 0] := by rw [List.take_add_one, List.getElem?_eq_getElem hkb]; rfl
        have gA : A[k]? = some (A[k]?.getD 0) := by rw [List.getElem?_eq_getElem hka]; rfl
        have gB : B[k]? = some (B[k]?.getD 0) := by rw [List.getElem?_eq_getElem hkb]; rfl
        have HT := hideD (And.intro tA (And.intro tB (And.intro gA gB)))
        obtain ⟨x, hx⟩ : ∃ x, x = A[k]?.getD 0 := ⟨_, rfl⟩
        obtain ⟨y, hy⟩ : ∃ y, y = B[k]?.getD 0 := ⟨_, rfl⟩
        rw [← hx, ← hy] at HT
        rw [← hx] at ca
        rw [← hy] at cb
        clear hx hy tA tB gA gB hka hkb
        by_cases hxy : x = y
        · have e1 : (x != y) = false := by simp [hxy]
          have HXY := hideD hxy
          clear hxy
          go_upto_region 6 with fail
          go_region
          go_wp2
          go_round
          case rel =>
            refine ⟨k + 1, by omega, by go_num, hideD ?_, hideD (HK.out.trans (Kept.drew _) (fun _ f => f.elim))⟩
            rw [HT.out.1, HT.out.2.1, HE.out, HXY.out]
          case measure => simp [intOf]; omega
        · have e1 : (x != y) = true := by simp [hxy]
          have hne : decide (A = B) = false := by
            rw [decide_eq_false_iff_not]
            intro e
            have h1 := HT.out.2.2.1
            rw [e, HT.out.2.2.2] at h1
            exact hxy (Option.some.inj h1).symm
          rw [← HR.out] at hne
          have HF := hideD hne
          clear hxy hne
          go_upto_region 6 with fail
          go_region
          go_wp2
          go_ret
          exact ⟨by rw [HF.out]; rfl, HK.out.trans (Kept.drew _) (fun _ f => f.elim)⟩
      · obtain rfl : k = n := by omega
        have he : decide (A = B) = true := by
          rw [decide_eq_true_eq]
          have h1 := HE.out
          have h2 := HN.out
          rw [List.take_of_length_le (by omega), List.take_of_length_le (by omega)] at h1
          exact h1
        rw [← HR.out] at he
        have HF := hideD he
        clear hlt hk he
        go_wp2
        go_ret
        exact ⟨by rw [HF.out]; rfl, HK.out⟩
  · have hne : decide (A = B) = false := by
      rw [decide_eq_false_iff_not]
      intro e; rw [e, ← hm] at hn; exact hnm hn
    have hnm2 : ((n : Int) != (m : Int)) = true := by simp; omega
    rw [← HR.out] at hne
    have HF := hideD hne
    clear hA hB hn hm hl hne hnm
    go_enter Tryd.func25, Tryd.ntmps25
    go_wp2
    go_ret
    exact ⟨by rw [HF.out]; rfl, Kept.refl _ _⟩
theorem fx_cnt : cnt (wsOf [7, 2, 2, 3]) 10 = 3 := by decide +kernel
theorem fx_mem : members (wsOf [7, 2, 2, 3]) 10 = [2, 3, 7] := by decide +kernel
theorem fx_enc : encS 10 (wsOf [7, 2, 2, 3]) = [10, 4, 140, 0] := by
  have h1 : encU (wsOf [7, 2, 2, 3]) 10 (nbOf 10) = [4, 140, 0] := by decide +kernel
  unfold encS
  rw [uvb_small (by decide), h1]
  rfl
end Go.Proofs.YtcbhgpdookappaaDoor.Ds
